import PyProof.Rows.All
import Wide.All
import OpenK.AllK
import Wide.FinOn
import HandS.ForMost
import HandS.Wide
import HandS.IsInst
import KE.GoesEnumKw
import HandS.Walk
import HandS.Codes
import HandS.Iter
import HandS.Style
import PySem.Challenge.RW_ditchturn_k14_whole_a_nought_behind
set_option Elab.async false
set_option linter.all false
set_option maxRecDepth 100000
set_option maxHeartbeats 4000000
namespace DT
/-! ### numbers: gcd, lowest terms -/
def gc (a b : Int) : Int := (Int.gcd a b : Int)
structure Low (a b : Int) : Prop where
  pos : 0 < b
  cop : Int.gcd a b = 1
theorem gc_pos {a b : Int} (h : 0 < b) : 0 < gc a b := by
  have : Int.gcd a b ≠ 0 := by
    intro e
    have := (Int.gcd_eq_zero_iff).1 e
    omega
  unfold gc
  omega
theorem gc_dl (a b : Int) : gc a b ∣ a := Int.gcd_dvd_left a b
theorem gc_dr (a b : Int) : gc a b ∣ b := Int.gcd_dvd_right a b
theorem gc_le {a b : Int} (h : 0 < b) : gc a b ≤ b := Int.le_of_dvd h (gc_dr a b)
theorem gc_step {a b : Int} : Int.gcd b (a % b) = Int.gcd a b := by
  rw [Int.emod_def, Int.gcd_comm a b]
  have := Int.gcd_add_mul_right_right b a (-(a / b))
  rw [← this]
  congr 1
  rw [Int.neg_mul, Int.mul_comm (a / b) b]
  omega
theorem gc_abs (a b : Int) : Int.gcd (if a < 0 then -a else a) b = Int.gcd a b := by
  split
  · exact Int.neg_gcd
  · rfl
theorem div_pos' {b g : Int} (hb : 0 < b) (hg : 0 < g) (hd : g ∣ b) : 0 < b / g := by
  obtain ⟨q, rfl⟩ := hd
  rw [Int.mul_ediv_cancel_left q (by omega)]
  exact Int.pos_of_mul_pos_right hb (by omega)
theorem low_div {a b : Int} (h : 0 < b) : Low (a / gc a b) (b / gc a b) := by
  have hg := gc_pos (a := a) h
  refine ⟨div_pos' h hg (gc_dr a b), ?_⟩
  have hn : 0 < Int.gcd a b := by
    have := hg
    unfold gc at this
    omega
  have e := Int.gcd_mul_left (gc a b) (a / gc a b) (b / gc a b)
  rw [Int.mul_ediv_cancel' (gc_dl a b), Int.mul_ediv_cancel' (gc_dr a b)] at e
  have e2 : (gc a b).natAbs = Int.gcd a b := by unfold gc; omega
  rw [e2] at e
  have : Int.gcd a b * 1 = Int.gcd a b * Int.gcd (a / gc a b) (b / gc a b) := by rw [← e, Nat.mul_one]
  exact (Nat.eq_of_mul_eq_mul_left hn this).symm
theorem low_cross (a b : Int) : (a / gc a b) * b = (b / gc a b) * a := by
  obtain ⟨p, hp⟩ := gc_dl a b
  obtain ⟨q, hq⟩ := gc_dr a b
  by_cases h0 : gc a b = 0
  · rw [h0] at hp hq
    rw [show a = 0 by omega, show b = 0 by omega]
  · have e1 : a / gc a b = p := Int.ediv_eq_of_eq_mul_right h0 hp
    have e2 : b / gc a b = q := Int.ediv_eq_of_eq_mul_right h0 hq
    rw [e1, e2]
    calc p * b = p * (gc a b * q) := by rw [← hq]
      _ = q * (gc a b * p) := by rw [Int.mul_left_comm, Int.mul_comm p q, Int.mul_left_comm q]
      _ = q * a := by rw [← hp]
theorem low_self {a b : Int} (h : Low a b) : a / gc a b = a ∧ b / gc a b = b := by
  have : gc a b = 1 := by unfold gc; rw [h.cop]; rfl
  rw [this, Int.ediv_one, Int.ediv_one]
  exact ⟨rfl, rfl⟩
theorem low_uniq {a b c d : Int} (h : Low a b) (k : Low c d) (e : a * d = c * b) : a = c ∧ b = d := by
  have h1 : b.natAbs ∣ d.natAbs := by
    have c1 : Nat.Coprime b.natAbs a.natAbs := by
      have := h.cop
      rw [Int.gcd_comm] at this
      exact this
    refine c1.dvd_of_dvd_mul_left (m := a.natAbs) (n := d.natAbs) ?_
    rw [← Int.natAbs_mul, e, Int.natAbs_mul]
    exact Nat.dvd_mul_left _ _
  have h2 : d.natAbs ∣ b.natAbs := by
    have c1 : Nat.Coprime d.natAbs c.natAbs := by
      have := k.cop
      rw [Int.gcd_comm] at this
      exact this
    refine c1.dvd_of_dvd_mul_left (m := c.natAbs) (n := b.natAbs) ?_
    rw [← Int.natAbs_mul, ← e, Int.natAbs_mul]
    exact Nat.dvd_mul_left _ _
  have hb := h.pos
  have hd := k.pos
  have e1 : b.natAbs = d.natAbs := Nat.dvd_antisymm h1 h2
  have e2 : b = d := by omega
  subst e2
  exact ⟨Int.eq_of_mul_eq_mul_right (by omega) e, rfl⟩
/-- the low form of a pair is told by any low pair worth the same -/
theorem low_is {a b c d : Int} (hd : 0 < d) (h : Low a b) (e : a * d = c * b) : a = c / gc c d ∧ b = d / gc c d := by
  refine low_uniq h (low_div hd) ?_
  obtain ⟨p, hp⟩ := gc_dl c d
  obtain ⟨q, hq⟩ := gc_dr c d
  have hg := gc_pos (a := c) hd
  have e1 : c / gc c d = p := Int.ediv_eq_of_eq_mul_right (by omega) hp
  have e2 : d / gc c d = q := Int.ediv_eq_of_eq_mul_right (by omega) hq
  rw [e1, e2]
  have e3 : gc c d * (a * q) = gc c d * (p * b) := by
    calc gc c d * (a * q) = a * (gc c d * q) := by rw [Int.mul_left_comm]
      _ = a * d := by rw [← hq]
      _ = c * b := e
      _ = gc c d * p * b := by rw [← hp]
      _ = gc c d * (p * b) := by rw [Int.mul_assoc]
  exact Int.eq_of_mul_eq_mul_left (by omega) e3
/-! ### the sum by crossing over what the bottoms share -/
theorem plus_low {a b c d : Int} (h : Low a b) (k : Low c d) :
    let s := gc b d
    let r := b / s
    let t := a * (d / s) + c * r
    let g := gc t s
    Low (t / g) (r * (d / g)) ∧ (t / g) * (b * d) = (a * d + c * b) * (r * (d / g)) := by
  intro s r t g
  have hb := h.pos
  have hd := k.pos
  have hs : 0 < s := gc_pos hd
  have hg : 0 < g := gc_pos hs
  obtain ⟨p, hp⟩ : s ∣ b := gc_dl b d
  obtain ⟨q, hq⟩ : s ∣ d := gc_dr b d
  have er : r = p := Int.ediv_eq_of_eq_mul_right (by omega) hp
  have eq : d / s = q := Int.ediv_eq_of_eq_mul_right (by omega) hq
  obtain ⟨u, hu⟩ : g ∣ t := gc_dl t s
  obtain ⟨v, hv⟩ : g ∣ s := gc_dr t s
  have eu : t / g = u := Int.ediv_eq_of_eq_mul_right (by omega) hu
  have ht : t = a * q + c * p := by
    show a * (d / s) + c * r = _
    rw [eq, er]
  have hgd : d = g * (v * q) := by rw [hq, ← Int.mul_assoc, ← hv]
  have ed : d / g = v * q := Int.ediv_eq_of_eq_mul_right (by omega) hgd
  have hp0 : 0 < p := Int.pos_of_mul_pos_right (hp ▸ hb) (by omega)
  have hq0 : 0 < q := Int.pos_of_mul_pos_right (hq ▸ hd) (by omega)
  have hv0 : 0 < v := Int.pos_of_mul_pos_right (hv ▸ hs) (by omega)
  rw [eu, er, ed]
  have cpq : Int.gcd p q = 1 := by
    have := (low_div (a := b) hd).cop
    rw [show b / gc b d = p from er, show d / gc b d = q from eq] at this
    exact this
  have cap : Nat.Coprime a.natAbs p.natAbs := by
    have c0 : Nat.Coprime a.natAbs b.natAbs := h.cop
    refine Nat.Coprime.coprime_dvd_right ?_ c0
    rw [hp, Int.natAbs_mul]
    exact Nat.dvd_mul_left _ _
  have ccq : Nat.Coprime c.natAbs q.natAbs := by
    have c0 : Nat.Coprime c.natAbs d.natAbs := k.cop
    refine Nat.Coprime.coprime_dvd_right ?_ c0
    rw [hq, Int.natAbs_mul]
    exact Nat.dvd_mul_left _ _
  have cqp : Nat.Coprime q.natAbs p.natAbs := by
    rw [Int.gcd_comm] at cpq
    exact cpq
  have ctp : Int.gcd t p = 1 := by
    rw [ht, Int.mul_comm c p, Int.gcd_add_mul_left_left]
    show Nat.Coprime (a * q).natAbs p.natAbs
    rw [Int.natAbs_mul]
    exact Nat.Coprime.mul_left cap cqp
  have ctq : Int.gcd t q = 1 := by
    rw [ht, Int.add_comm, Int.mul_comm a q, Int.gcd_add_mul_left_left]
    show Nat.Coprime (c * p).natAbs q.natAbs
    rw [Int.natAbs_mul]
    exact Nat.Coprime.mul_left ccq cpq
  have cuv : Int.gcd u v = 1 := by
    have := (low_div (a := t) hs).cop
    rw [show t / gc t s = u from eu, show s / gc t s = v from Int.ediv_eq_of_eq_mul_right (by omega) hv] at this
    exact this
  have ut : u.natAbs ∣ t.natAbs := by
    rw [hu, Int.natAbs_mul]
    exact Nat.dvd_mul_left _ _
  have cup : Nat.Coprime u.natAbs p.natAbs := Nat.Coprime.coprime_dvd_left ut ctp
  have cuq : Nat.Coprime u.natAbs q.natAbs := Nat.Coprime.coprime_dvd_left ut ctq
  refine ⟨⟨Int.mul_pos hp0 (Int.mul_pos hv0 hq0), ?_⟩, ?_⟩
  · show Nat.Coprime u.natAbs (p * (v * q)).natAbs
    rw [Int.natAbs_mul, Int.natAbs_mul]
    exact Nat.Coprime.mul_right cup (Nat.Coprime.mul_right cuv cuq)
  · have e1 : a * d + c * b = s * t := by
      rw [ht, Int.mul_add, ← Int.mul_assoc, ← Int.mul_assoc, Int.mul_comm s a, Int.mul_comm s c, Int.mul_assoc, Int.mul_assoc, ← hq, ← hp]
    rw [e1]
    calc u * (b * d) = u * ((s * p) * (g * (v * q))) := by rw [← hp, ← hgd]
      _ = s * (g * u) * (p * (v * q)) := by
        simp only [Int.mul_assoc, Int.mul_comm, Int.mul_left_comm]
      _ = s * t * (p * (v * q)) := by rw [← hu]
/-- the sum as the program reckons it is the low form of the sum by crossing -/
theorem plus_is {a b c d : Int} (h : Low a b) (k : Low c d) :
    let s := gc b d
    let r := b / s
    let t := a * (d / s) + c * r
    let g := gc t s
    t / g = (a * d + c * b) / gc (a * d + c * b) (b * d) ∧ r * (d / g) = (b * d) / gc (a * d + c * b) (b * d) := by
  intro s r t g
  obtain ⟨h1, h2⟩ := plus_low h k
  exact low_is (Int.mul_pos h.pos k.pos) h1 h2
end DT

namespace DT
open PySem PySem.Spec PyProof.Rows L2
/-! ### heaps that only grow; pairs of ints -/
theorem same_upd {H : Hp} {p : Addr} {o : HO} (h : H p = none) : Same H (upd H p o) := fun b x e => by
  rw [upd_ne (ne_of_none e h)]
  exact e
theorem same_seqT {K : PySem.W.Frag} {H H' : Hp} {a : Addr} {xs : List V} (e : Same H H') (h : SqT K H a xs) : SqT K H' a xs := by
  rcases h with h | h
  · rcases h with h | ⟨o, h⟩
    · exact .inl (.inl (e _ _ h))
    · exact .inl (.inr ⟨o, e _ _ h⟩)
  · exact .inr h
/-- v is a tuple of the ints a and b -/
def Pr (K : PySem.W.Frag) (H : Hp) (v : V) (a b : Int) : Prop := ∃ p, v = .ref p ∧ SqT K H p [.int a, .int b]
theorem Pr.same {K : PySem.W.Frag} {H H' : Hp} {v : V} {a b : Int} (h : Pr K H v a b) (e : Same H H') : Pr K H' v a b := by
  obtain ⟨p, r, q⟩ := h
  exact ⟨p, r, same_seqT e q⟩
theorem Pr.new {K : PySem.W.Frag} {H : Hp} {p : Addr} {a b : Int} : Pr K (upd H p (.tup [.int a, .int b])) (.ref p) a b := ⟨p, rfl, SqT.of upd_same⟩
theorem sqT_ty {K : PySem.W.Frag} {H : Hp} {a : Addr} {xs : List V} (h : SqT K H a xs) : TyX K H (.ref a) (.type "tuple") := by
  rcases h with (h | ⟨o, h⟩) | ⟨o, its, n, h, c, _⟩
  · exact .base (.tup h)
  · exact .fTuple h
  · exact .kTuple h c
theorem Pr.dp {K : PySem.W.Frag} {H : Hp} {v : V} {a b : Int} (h : Pr K H v a b) : Dp K H v (.tuple [.int a, .int b]) := by
  obtain ⟨p, rfl, q⟩ := h
  exact .tup q (.cons (.int a) (.cons (.int b) .nil))
/-- v is a new list of the ints rs -/
def Ls (H : Hp) (v : V) (rs : List Int) : Prop := ∃ p, v = .ref p ∧ H p = some (.lst (rs.map V.int))
theorem Ls.same {H H' : Hp} {v : V} {rs : List Int} (h : Ls H v rs) (e : Same H H') : Ls H' v rs := by
  obtain ⟨p, r, q⟩ := h
  exact ⟨p, r, e _ _ q⟩
theorem ls_at {rs : List Int} {j : Nat} (h : j < rs.length) : atI (rs.map V.int) (j : Int) = some (.int (rs.getD j 0)) := by
  refine atI_nat ?_
  rw [List.getElem?_map, List.getElem?_eq_getElem h]
  simp [List.getD, List.getElem?_eq_getElem h]
/-! ### sizes -/
def Bd (n : Nat) (x : Int) : Prop := x.natAbs < 2 ^ n
theorem Bd.mono {n m : Nat} {x : Int} (h : Bd n x) (e : n ≤ m) : Bd m x := Nat.lt_of_lt_of_le h (Nat.pow_le_pow_right (by decide) e)
theorem Bd.mul {n m : Nat} {x y : Int} (h : Bd n x) (k : Bd m y) : Bd (n + m) (x * y) := wide_lt h k
theorem Bd.add {n : Nat} {x y : Int} (h : Bd n x) (k : Bd n y) : Bd (n + 1) (x + y) := by
  unfold Bd at *
  have : (x + y).natAbs ≤ x.natAbs + y.natAbs := Int.natAbs_add_le x y
  rw [Nat.pow_succ]
  omega
theorem Bd.neg {n : Nat} {x : Int} (h : Bd n x) : Bd n (-x) := by
  unfold Bd at *
  omega
theorem Bd.dvd {n : Nat} {x y : Int} (h : Bd n x) (e : y ∣ x) (hx : x ≠ 0) : Bd n y :=
  Nat.lt_of_le_of_lt (Nat.le_of_dvd (by omega) (Int.natAbs_dvd_natAbs.2 e)) h
theorem Bd.div {n : Nat} {x y : Int} (h : Bd n x) (e : y ∣ x) : Bd n (x / y) := by
  unfold Bd at *
  rw [Int.natAbs_ediv_of_dvd e]
  exact Nat.lt_of_le_of_lt (Nat.div_le_self _ _) h
theorem Bd.gc {n : Nat} {x y : Int} (h : Bd n y) (hy : 0 < y) : Bd n (gc x y) := h.dvd (gc_dr x y) (by omega)
theorem Bd.of {n : Nat} {x m : Int} (h1 : -m < x) (h2 : x < m) (e : m.natAbs ≤ 2 ^ n) : Bd n x := by
  unfold Bd
  omega
theorem bd_mulok {n m : Nat} {x y : Int} (h : Bd n x) (k : Bd m y) (e : n + m ≤ 900000) : CMulW x y :=
  wide_mul (a := n + 1) (b := m + 1) (h.mono (by omega)) (k.mono (by omega)) (by omega) (by omega) (by omega)
theorem bd_divok {n : Nat} {x y : Int} (hy : 0 < y) (k : Bd n y) (e : n ≤ 8900) : CDivW x y := wide_div (b := n + 1) hy (k.mono (by omega)) (by omega) (by omega)
/-- a def of the text: where it stands, how it binds, what the module's name holds -/
structure Df (K : PySem.W.Frag) (mg : Str → Option Value) (x : Str) (st : Stmt) (ps : List Str) where
  f : Addr
  fd : FuncData
  F : Fun K x x st f fd
  b : Binds K fd ps []
  g : mg x = some (.ref f)
end DT
namespace DT
open PySem PySem.Spec PyProof.Rows L2
theorem ls_z {rs : List Int} {z : Int} (j : Nat) (e : z = (j : Int)) (h : j < rs.length) : atI (rs.map V.int) z = some (.int (rs.getD j 0)) := by
  rw [e]
  exact ls_at h
theorem getD_in {rs : List Int} {j : Nat} (h : j < rs.length) : rs.getD j 0 ∈ rs := by
  simp [List.getD, List.getElem?_eq_getElem h]
theorem eqv_pr (a b : Int) : PyData.eqv (.tuple [.int a, .int b]) (.tuple [.int a, .int b]) = true := by
  simp [PyData.eqv, PyData.eqvAll]
theorem shp_pr (a b : Int) : SeqAt.shaped (.tuple [.int a, .int b]) = true := by
  rfl
/-- the promise of a law: True for every script -/
def sp_law (K : PySem.W.Frag) : Sp := fun vs H Q _ => ∃ (a : Addr) (ns : List Int), vs = [.ref a] ∧ SqL K H a (ns.map V.int) ∧ ns.length ≤ 63 ∧ ∀ H', Q (.bl true) H'
end DT
namespace DT
theorem Bd.ediv {n : Nat} {x y : Int} (h : Bd n x) : Bd n (x / y) := Nat.lt_of_le_of_lt (Int.natAbs_ediv_le_natAbs x y) h
theorem Bd.emod {n : Nat} {x y : Int} (hy : 0 < y) (h : Bd n y) : Bd n (x % y) := by
  unfold Bd at *
  have := Int.emod_nonneg x (show y ≠ 0 by omega)
  have := Int.emod_lt_of_pos x hy
  omega
end DT
namespace DT
open PySem PySem.Spec PyProof.Rows L2
/-- a store at an address that was free to begin with -/
theorem same_at {H H1 : Hp} {p : Addr} {o : HO} (hp : H p = none) (sm : Same H H1) : Same H (upd H1 p o) := fun b x e => by
  rw [upd_ne (ne_of_none e hp)]
  exact sm _ _ e
end DT

namespace DT
open PySem PySem.Spec PyProof.Rows L2
def sp_lowest (K : PySem.W.Frag) : Sp := fun vs H Q _ => ∃ t b : Int, vs = [.int t, .int b] ∧ 0 < b ∧ Bd 8900 b ∧ ∀ H' v, Same H H' → Pr K H' v (t / gc t b) (b / gc t b) → Q v H'
end DT

namespace DT
open PySem PySem.Spec PyProof.Rows L2
/-! ### pairs and their reckoning, as the law does it -/
abbrev Q2 := Int × Int
def lowP (t b : Int) : Q2 := (t / gc t b, b / gc t b)
def addP (x y : Q2) : Q2 := lowP (x.1 * y.2 + y.1 * x.2) (x.2 * y.2)
def subP (x y : Q2) : Q2 := lowP (x.1 * y.2 - y.1 * x.2) (x.2 * y.2)
def mulP (x y : Q2) : Q2 := lowP (x.1 * y.1) (x.2 * y.2)
def Pp (K : PySem.W.Frag) (H : Hp) (v : V) (x : Q2) : Prop := Pr K H v x.1 x.2
theorem Pp.same {K : PySem.W.Frag} {H H' : Hp} {v : V} {x : Q2} (h : Pp K H v x) (e : Same H H') : Pp K H' v x := Pr.same h e
/-- both terms below 2 ^ n, the bottom above nought -/
structure Ok (n : Nat) (x : Q2) : Prop where
  pos : 0 < x.2
  top : Bd n x.1
  bot : Bd n x.2
theorem Ok.mono {n m : Nat} {x : Q2} (h : Ok n x) (e : n ≤ m) : Ok m x := ⟨h.pos, h.top.mono e, h.bot.mono e⟩
theorem lowP_low {t b : Int} (h : 0 < b) : Low (lowP t b).1 (lowP t b).2 := low_div h
theorem lowP_ok {t b : Int} {n : Nat} (h : 0 < b) (h1 : Bd n t) (h2 : Bd n b) : Ok n (lowP t b) := ⟨(low_div h).pos, h1.div (gc_dl t b), h2.div (gc_dr t b)⟩
theorem addP_ok {x y : Q2} {n m : Nat} (h : Ok n x) (k : Ok m y) : Ok (n + m + 1) (addP x y) :=
  lowP_ok (Int.mul_pos h.pos k.pos) (Bd.add (h.top.mul k.bot) ((k.top.mul h.bot).mono (by omega))) ((h.bot.mul k.bot).mono (by omega))
theorem subP_ok {x y : Q2} {n m : Nat} (h : Ok n x) (k : Ok m y) : Ok (n + m + 1) (subP x y) := by
  unfold subP
  rw [Int.sub_eq_add_neg]
  exact lowP_ok (Int.mul_pos h.pos k.pos) (Bd.add (h.top.mul k.bot) ((k.top.mul h.bot).neg.mono (by omega))) ((h.bot.mul k.bot).mono (by omega))
theorem mulP_ok {x y : Q2} {n m : Nat} (h : Ok n x) (k : Ok m y) : Ok (n + m) (mulP x y) := lowP_ok (Int.mul_pos h.pos k.pos) (h.top.mul k.top) (h.bot.mul k.bot)
theorem addP_low {x y : Q2} (h : 0 < x.2) (k : 0 < y.2) : Low (addP x y).1 (addP x y).2 := low_div (Int.mul_pos h k)
/-- promise of a def that makes the pair f x y of two pairs -/
def sp_two (K : PySem.W.Frag) (C : Q2 → Q2 → Prop) (f : Q2 → Q2 → Q2) : Sp := fun vs H Q _ => ∃ (v u : V) (x y : Q2) (n m : Nat), vs = [v, u] ∧ Pp K H v x ∧ Pp K H u y ∧ Ok n x ∧ Ok m y ∧ n + m ≤ 8890 ∧ C x y ∧ ∀ H' r, Same H H' → Pp K H' r (f x y) → Q r H'
def anyC : Q2 → Q2 → Prop := fun _ _ => True
def lowC : Q2 → Q2 → Prop := fun x y => Low x.1 x.2 ∧ Low y.1 y.2
theorem len_two {K : PySem.W.Frag} {C : Q2 → Q2 → Prop} {f : Q2 → Q2 → Q2} {vs : List V} {H : Hp} {Q : VK} {E : XK} (h : sp_two K C f vs H Q E) : vs.length = 2 := by
  obtain ⟨v, u, x, y, n, m, rfl, _⟩ := h
  rfl
theorem low_neg {a b : Int} (h : Low a b) : Low (-a) b := ⟨h.pos, by rw [Int.neg_gcd]; exact h.cop⟩
theorem subP_eq (x y : Q2) : addP x (-y.1, y.2) = subP x y := by
  unfold addP subP
  show lowP (x.1 * y.2 + -y.1 * x.2) _ = _
  rw [Int.neg_mul, ← Int.sub_eq_add_neg]
theorem pp_eq {K : PySem.W.Frag} {H : Hp} {v u : V} {x : Q2} (h : Pp K H v x) (k : Pp K H u x) : ∃ d e, Dp K H v d ∧ Dp K H u e ∧ SeqAt.shaped d = true ∧ SeqAt.shaped e = true ∧ PyData.eqv d e = true :=
  ⟨_, _, Pr.dp h, Pr.dp k, shp_pr _ _, shp_pr _ _, eqv_pr _ _⟩
end DT
namespace DT
open PySem PySem.Spec PyProof.Rows L2
/-! ### sums of lists of pairs -/
def sumP (xs : List Q2) : Q2 := xs.foldl addP (0, 1)
inductive Pps (K : PySem.W.Frag) (H : Hp) : List V → List Q2 → Prop
  | nil : Pps K H [] []
  | cons {v : V} {vs : List V} {x : Q2} {xs : List Q2} : Pp K H v x → Pps K H vs xs → Pps K H (v :: vs) (x :: xs)
theorem Pps.len {K : PySem.W.Frag} {H : Hp} : ∀ {vs : List V} {xs : List Q2}, Pps K H vs xs → vs.length = xs.length
  | _, _, .nil => rfl
  | _, _, .cons _ t => congrArg (· + 1) t.len
theorem Pps.same {K : PySem.W.Frag} {H H' : Hp} (e : Same H H') : ∀ {vs : List V} {xs : List Q2}, Pps K H vs xs → Pps K H' vs xs
  | _, _, .nil => .nil
  | _, _, .cons h t => .cons (h.same e) (t.same e)
theorem Pps.snoc {K : PySem.W.Frag} {H : Hp} {v : V} {x : Q2} (h : Pp K H v x) : ∀ {vs : List V} {xs : List Q2}, Pps K H vs xs → Pps K H (vs ++ [v]) (xs ++ [x])
  | _, _, .nil => .cons h .nil
  | _, _, .cons g t => .cons g (t.snoc h)
theorem pps_get {K : PySem.W.Frag} {H : Hp} : ∀ {vs : List V} {xs : List Q2} {i : Nat} {z : V}, Pps K H vs xs → vs[i]? = some z → ∃ x, xs[i]? = some x ∧ Pp K H z x
  | _, _, 0, _, .cons h _, e => ⟨_, rfl, Option.some.inj e ▸ h⟩
  | _, _, i + 1, z, .cons (vs := vs) (xs := xs) _ t, e => by
    have r := pps_get (vs := vs) (i := i) (z := z) t (by simpa using e)
    simpa using r
theorem sumP_take {xs : List Q2} {i : Nat} {x : Q2} (h : xs[i]? = some x) : sumP (xs.take (i + 1)) = addP (sumP (xs.take i)) x := by
  unfold sumP
  rw [List.take_add_one, h, List.foldl_append]
  rfl
theorem sumP_ok0 : Ok (201 * (0 + 1)) (sumP []) := ⟨by decide, by unfold Bd; decide +kernel, by unfold Bd; decide +kernel⟩
theorem sumP_low0 : Low (sumP []).1 (sumP []).2 := ⟨by decide, rfl⟩
def lowS : Q2 → Prop := fun x => Low x.1 x.2
def anyS : Q2 → Prop := fun _ => True
def sp_sum (K : PySem.W.Frag) (C : Q2 → Prop) : Sp := fun vs H Q _ => ∃ (l : Addr) (us : List V) (xs : List Q2), vs = [.ref l] ∧ SqL K H l us ∧ Pps K H us xs ∧ (∀ x ∈ xs, Ok 200 x) ∧ xs.length ≤ 30 ∧ (∀ x ∈ xs, C x) ∧
  ∀ H' r, Same H H' → Pp K H' r (sumP xs) → Ok 6300 (sumP xs) → Low (sumP xs).1 (sumP xs).2 → Q r H'
end DT
namespace DT
open PySem PySem.Spec PyProof.Rows L2
def datP (x : Q2) : PyData := .tuple [.int x.1, .int x.2]
theorem Pps.dp {K : PySem.W.Frag} {H : Hp} : ∀ {vs : List V} {xs : List Q2}, Pps K H vs xs → DpAll K H vs (xs.map datP)
  | _, _, .nil => .nil
  | _, _, .cons h t => .cons (Pr.dp h) t.dp
theorem lay_ps : ∀ xs : List Q2, PyData.canLayAll0 (xs.map datP) = true
  | [] => by simp [PyData.canLayAll0]
  | x :: xs => by
    rw [List.map_cons]
    simp only [PyData.canLayAll0, lay_ps xs, datP, PyData.canLay0, Bool.and_self]
theorem dep_ps : ∀ xs : List Q2, PyData.depthAll (xs.map datP) ≤ 1
  | [] => by simp [PyData.depthAll]
  | x :: xs => by
    have ih := dep_ps xs
    rw [List.map_cons]
    simp only [PyData.depthAll, datP, PyData.depth] at ih ⊢
    omega
theorem shp_ps (xs : List Q2) : SeqAt.shaped (.list (xs.map datP)) = true := by
  have h1 := lay_ps xs
  have h2 := dep_ps xs
  unfold SeqAt.shaped
  rw [Bool.and_eq_true]
  refine ⟨by simp only [PyData.canLay0, h1], decide_eq_true ?_⟩
  simp only [PyData.depth]
  omega
theorem eqv_ps : ∀ xs : List Q2, PyData.eqvAll (xs.map datP) (xs.map datP) = true
  | [] => by simp [PyData.eqvAll]
  | x :: xs => by
    rw [List.map_cons]
    simp only [PyData.eqvAll, eqv_ps xs, Bool.and_true]
    exact eqv_pr x.1 x.2
theorem eqv_psL (xs : List Q2) : PyData.eqv (.list (xs.map datP)) (.list (xs.map datP)) = true := by
  simp only [PyData.eqv, eqv_ps xs]
end DT
namespace DT
open PySem PySem.Spec PyProof.Rows L2
/-- a store to a list leaves pairs that stand elsewhere -/
theorem Pp.off {K : PySem.W.Frag} {H H' : Hp} {v : V} {x : Q2} {D : Addr} {us : List V} (h : Pp K H v x) (e : ∀ b o, H b = some o → b ≠ D → H' b = some o) (hD : H D = some (.lst us)) : Pp K H' v x := by
  obtain ⟨p, rfl, q⟩ := h
  refine ⟨p, rfl, ?_⟩
  rcases q with q | q
  · rcases q with q | ⟨o, q⟩
    · exact .inl (.inl (e _ _ q (fun z => by rw [z, hD] at q; cases q)))
    · exact .inl (.inr ⟨o, e _ _ q (fun z => by rw [z, hD] at q; cases q)⟩)
  · exact .inr q
theorem Pps.off {K : PySem.W.Frag} {H H' : Hp} {D : Addr} {ws : List V} : ∀ {vs : List V} {xs : List Q2}, Pps K H vs xs → (∀ b o, H b = some o → b ≠ D → H' b = some o) → H D = some (.lst ws) → Pps K H' vs xs
  | _, _, .nil, _, _ => .nil
  | _, _, .cons h t, e, hD => .cons (h.off e hD) (t.off e hD)
end DT

namespace DT
open PySem PySem.Spec PyProof.Rows L2
/-! ### bounds: sums of fractions, for up to 24 fields -/
def units (f : Int) (n : Nat) : List Q2 := (List.range n).map fun (i : Nat) => ((1, f + (i : Int)) : Q2)
theorem units_succ (f : Int) (n : Nat) : units f (n + 1) = units f n ++ [(1, f + (n : Int))] := by
  unfold units
  rw [List.range_succ, List.map_append]
  rfl
theorem ok_n1 {n : Int} (h1 : 0 ≤ n) (h2 : n ≤ 40) : Ok 6 ((n, 1) : Q2) :=
  ⟨show (0 : Int) < 1 by decide, Bd.of (m := 60) (by show (-60 : Int) < n; omega) (by show n < 60; omega) (by decide), show Bd 6 (1 : Int) by unfold Bd; decide⟩
theorem units_len (f : Int) (n : Nat) : (units f n).length = n := by
  unfold units
  rw [List.length_map, List.length_range]
theorem units_in {f : Int} {n : Nat} {x : Q2} (hf : 1 ≤ f) (hf2 : f ≤ 30) (hn : n ≤ 30) (h : x ∈ units f n) : Ok 200 x ∧ Low x.1 x.2 := by
  unfold units at h
  obtain ⟨i, hi, rfl⟩ := List.mem_map.1 h
  have hi := List.mem_range.1 hi
  exact ⟨⟨by show (0 : Int) < f + i; omega, show Bd 200 (1 : Int) by unfold Bd; decide +kernel, Bd.of (m := 100) (by show (-100 : Int) < f + i; omega) (by show f + (i : Int) < 100; omega) (by decide +kernel)⟩, by show (0 : Int) < f + i; omega, Int.one_gcd⟩
def usum (f l : Int) : Q2 := sumP (units f (l + 1 - f).toNat)
def sp_unit (K : PySem.W.Frag) : Sp := fun vs H Q _ => ∃ f l : Int, vs = [.int f, .int l] ∧ (1 ≤ f ∧ f ≤ 30) ∧ (0 ≤ l ∧ l ≤ 24) ∧ ∀ H' r, Same H H' → Pp K H' r (usum f l) → Ok 6300 (usum f l) → Low (usum f l).1 (usum f l).2 → Q r H'
/-- a def of one number n from 1 to 24 that hands back the pair f n -/
def sp_of (K : PySem.W.Frag) (f : Int → Q2) : Sp := fun vs H Q _ => ∃ n : Int, vs = [.int n] ∧ (1 ≤ n ∧ n ≤ 24) ∧ ∀ H' r, Same H H' → Pp K H' r (f n) → Ok 6300 (f n) → Low (f n).1 (f n).2 → Q r H'
def behindM (n : Int) : Q2 := usum 2 n
def beforeM (n : Int) : Q2 := lowP (n - 1) n
def mostM (n k : Int) : Q2 := mulP (k, 1) (usum (k + 1) n)
def lmostF (k : Int) : Nat → Q2
  | 0 => (0, 1)
  | i + 1 => addP (lmostF k i) (k, k + 1 + (i : Int))
def lmost (n k : Int) : Q2 := lmostF k (n + 1 - (k + 1)).toNat
theorem lmost_ok {k : Int} (h1 : 1 ≤ k) (h2 : k ≤ 24) : ∀ i : Nat, i ≤ 30 → Ok (7 * (i + 1)) (lmostF k i)
  | 0, _ => (⟨by decide, by unfold Bd; decide, by unfold Bd; decide⟩ : Ok 7 ((0, 1) : Q2))
  | i + 1, h => by
    have ih := lmost_ok h1 h2 i (by omega)
    have o : Ok 6 ((k, k + 1 + (i : Int)) : Q2) := ⟨by show (0 : Int) < k + 1 + i; omega, Bd.of (m := 60) (by show (-60 : Int) < k; omega) (by show k < 60; omega) (by decide), Bd.of (m := 60) (by show (-60 : Int) < k + 1 + i; omega) (by show k + 1 + (i : Int) < 60; omega) (by decide)⟩
    exact (addP_ok ih o).mono (by omega)
end DT

namespace DT
open PySem PySem.Spec PyProof.Rows L2
/-- xs[i] of a list, 0 ≤ i, for xs[i] += e -/
theorem get_list {X : Cx} : PGet X (fun x y H Q => ∃ (p : Addr) (xs : List V) (i : Nat) (v : V), x = .ref p ∧ y = .int (i : Int) ∧ SqL X.K H p xs ∧ xs[i]? = some v ∧ Q v H) := by
  intro pins s σ H o i ov iv Q I ro ri h
  obtain ⟨p, xs, k, v, rfl, rfl, hq, hx, q⟩ := h
  cases ro
  obtain ⟨t, rfl⟩ := ri
  obtain ⟨its, r, pl, hz⟩ := I.list hq
  obtain ⟨w, ew, rw'⟩ := r.get hx
  have hk : k < xs.length := (List.getElem?_eq_some_iff.1 hx).1
  have hn := line63
  exact wpAny_getItem_list pl.isList (by omega) (by omega) (by simpa using ew) ⟨v, H, I, rw', q⟩
/-! ### lists of pairs, tracked -/
def LP (K : PySem.W.Frag) (H : Hp) (p : Addr) (xs : List Q2) : Prop := ∃ us, H p = some (.lst us) ∧ Pps K H us xs
theorem LP.same {K : PySem.W.Frag} {H H' : Hp} {p : Addr} {xs : List Q2} (h : LP K H p xs) (e : Same H H') : LP K H' p xs := by
  obtain ⟨us, h1, h2⟩ := h
  exact ⟨us, e _ _ h1, h2.same e⟩
/-- every pair in lowest terms and below 2 ^ n -/
def AllOk (n : Nat) (xs : List Q2) : Prop := ∀ x ∈ xs, Ok n x ∧ Low x.1 x.2
theorem AllOk.mono {n m : Nat} {xs : List Q2} (h : AllOk n xs) (e : n ≤ m) : AllOk m xs := fun x hx => ⟨(h x hx).1.mono e, (h x hx).2⟩
theorem AllOk.nil {n : Nat} : AllOk n [] := fun _ h => nomatch h
theorem AllOk.snoc {n : Nat} {xs : List Q2} {x : Q2} (h : AllOk n xs) (o : Ok n x) (l : Low x.1 x.2) : AllOk n (xs ++ [x]) := fun y hy => by
  rcases List.mem_append.1 hy with z | z
  · exact h y z
  · rw [List.mem_singleton.1 z]
    exact ⟨o, l⟩
/-- a list that grows by one pair, the pair's tuple anywhere -/
theorem pps_grow {K : PySem.W.Frag} {H : Hp} {D : Addr} {us : List V} {v : V} {xs : List Q2} {x : Q2} (hD : H D = some (.lst us)) (h : Pps K H us xs) (k : Pp K H v x) : Pps K (upd H D (.lst (us ++ [v]))) (us ++ [v]) (xs ++ [x]) := by
  have sd : ∀ b o, H b = some o → b ≠ D → upd H D (.lst (us ++ [v])) b = some o := fun b o e n => by
    rw [upd_ne n]
    exact e
  exact (h.off sd hD).snoc (k.off sd hD)
theorem pps_at {K : PySem.W.Frag} {H : Hp} {us : List V} {xs : List Q2} (h : Pps K H us xs) {i : Nat} {x : Q2} (e : xs[i]? = some x) : ∃ v, us[i]? = some v ∧ Pp K H v x := by
  have hi : i < us.length := by
    rw [h.len]
    exact (List.getElem?_eq_some_iff.1 e).1
  obtain ⟨y, ey, py⟩ := pps_get h (List.getElem?_eq_getElem hi)
  rw [e] at ey
  cases ey
  exact ⟨_, List.getElem?_eq_getElem hi, py⟩
/-- == of two lists of pairs -/
theorem eqv_iff : ∀ (xs ys : List Q2), PyData.eqvAll (xs.map datP) (ys.map datP) = decide (xs = ys)
  | [], [] => by simp [PyData.eqvAll]
  | [], y :: ys => by simp [PyData.eqvAll]
  | x :: xs, [] => by simp [PyData.eqvAll]
  | x :: xs, y :: ys => by
    rw [List.map_cons, List.map_cons]
    simp only [PyData.eqvAll, eqv_iff xs ys]
    obtain ⟨a, b⟩ := x
    obtain ⟨c, d⟩ := y
    simp only [datP, PyData.eqv, PyData.eqvAll, Bool.and_true]
    by_cases h1 : a = c <;> by_cases h2 : b = d <;> by_cases h3 : xs = ys <;> simp [h1, h2, h3]
/-- a list of ints -/
theorem sq_ints {K : PySem.W.Frag} {H : Hp} {p : Addr} {rs : List Int} (h : H p = some (.lst (rs.map V.int))) : SqL K H p (rs.map V.int) := SqL.of h
theorem cut_map (rs : List Int) (lo hi : Option Int) : cutV (rs.map V.int) lo hi = ((rs.drop (HT.sIx rs.length 0 lo)).take (HT.sIx rs.length rs.length hi - HT.sIx rs.length 0 lo)).map V.int := by
  unfold cutV
  rw [List.length_map, ← List.map_drop, ← List.map_take]
theorem cut_to (rs : List Int) (n : Nat) (h : n ≤ rs.length) : cutV (rs.map V.int) none (some (n : Int)) = (rs.take n).map V.int := by
  rw [cut_map, HT.sIx_none, HT.sIx_nat, List.drop_zero, Nat.sub_zero, Nat.min_eq_left h]
theorem cut_from (rs : List Int) (n : Nat) (h : n ≤ rs.length) : cutV (rs.map V.int) (some (n : Int)) none = (rs.drop n).map V.int := by
  rw [cut_map, HT.sIx_none, HT.sIx_nat, Nat.min_eq_left h]
  rw [List.take_of_length_le (by rw [List.length_drop]; omega)]
end DT
namespace DT
open PySem PySem.Spec PyProof.Rows L2
/-- a store to the list at D leaves the lists of pairs at other places -/
theorem LP.off {K : PySem.W.Frag} {H : Hp} {D p : Addr} {us vs : List V} {xs : List Q2} (h : LP K H p xs) (hD : H D = some (.lst us)) (n : p ≠ D) : LP K (upd H D (.lst vs)) p xs := by
  obtain ⟨ws, e, k⟩ := h
  refine ⟨ws, by rw [upd_ne n]; exact e, k.off (D := D) (fun b o eb nb => by rw [upd_ne nb]; exact eb) hD⟩
theorem LP.ne {K : PySem.W.Frag} {H H' : Hp} {p q : Addr} {xs : List Q2} (h : LP K H p xs) (n : H q = none) : p ≠ q := by
  obtain ⟨us, e, _⟩ := h
  exact ne_of_none e n
theorem LP.sq {K : PySem.W.Frag} {H : Hp} {p : Addr} {xs : List Q2} (h : LP K H p xs) : ∃ us, SqL K H p us ∧ us.length = xs.length ∧ Pps K H us xs := by
  obtain ⟨us, e, k⟩ := h
  exact ⟨us, SqL.of e, k.len, k⟩
theorem LP.dp {K : PySem.W.Frag} {H : Hp} {p : Addr} {xs : List Q2} (h : LP K H p xs) : Dp K H (.ref p) (.list (xs.map datP)) := by
  obtain ⟨us, e, k⟩ := h
  exact .lst (SqL.of e) k.dp
def dat2 (xs ys : List Q2) : PyData := .list [.list (xs.map datP), .list (ys.map datP)]
theorem shp_2 (xs ys : List Q2) : SeqAt.shaped (dat2 xs ys) = true := by
  have h1 := lay_ps xs
  have h2 := dep_ps xs
  have h3 := lay_ps ys
  have h4 := dep_ps ys
  unfold SeqAt.shaped dat2
  rw [Bool.and_eq_true]
  refine ⟨by simp only [PyData.canLay0, PyData.canLayAll0, h1, h3, Bool.and_self], decide_eq_true ?_⟩
  simp only [PyData.depth, PyData.depthAll]
  omega
theorem eqv_2 (xs ys : List Q2) : PyData.eqv (dat2 xs ys) (dat2 xs ys) = true := by
  unfold dat2
  simp only [PyData.eqv, PyData.eqvAll, eqv_ps, Bool.and_self]
end DT

namespace DT
open PySem PySem.Spec PyProof.Rows L2
theorem take_map {rs : List Int} {i : Nat} {r : Int} (h : rs[i]? = some r) (f : Int → Int) : ((rs.take i).map f).map V.int ++ [V.int (f r)] = ((rs.take (i + 1)).map f).map V.int := by
  rw [List.take_add_one, h]
  simp only [List.map_append, Option.toList_some, List.map_cons, List.map_nil]
theorem int_at {rs : List Int} {i : Nat} {x : V} (h : (rs.map V.int)[i]? = some x) : ∃ r, rs[i]? = some r ∧ x = .int r := by
  rw [List.getElem?_map] at h
  cases e : rs[i]? with
  | none => rw [e] at h; cases h
  | some r => rw [e] at h; exact ⟨r, rfl, (Option.some.inj h).symm⟩
/-! ### the first of the greatest -/
def lessP (x y : Q2) : Bool := decide (x.1 * y.2 < y.1 * x.2)
def itemP (xs : List Q2) (i : Nat) : Q2 := xs.getD i (0, 1)
def firstF (xs : List Q2) : Nat → Nat
  | 0 => 0
  | i + 1 => if lessP (itemP xs (firstF xs i)) (itemP xs i) = true then i else firstF xs i
def firstM (xs : List Q2) : Nat := firstF xs xs.length
theorem firstF_lt (xs : List Q2) : ∀ i, firstF xs i < max 1 i
  | 0 => by show 0 < max 1 0; omega
  | i + 1 => by
    have ih := firstF_lt xs i
    unfold firstF
    split <;> omega
theorem firstM_lt {xs : List Q2} (h : 0 < xs.length) : firstM xs < xs.length := by
  have := firstF_lt xs xs.length
  unfold firstM
  omega
theorem item_some {xs : List Q2} {i : Nat} (h : i < xs.length) : xs[i]? = some (itemP xs i) := by
  unfold itemP
  rw [List.getElem?_eq_getElem h]
  simp [List.getD, List.getElem?_eq_getElem h]
theorem item_ok {xs : List Q2} {n i : Nat} (h : AllOk n xs) (hi : i < xs.length) : Ok n (itemP xs i) ∧ Low (itemP xs i).1 (itemP xs i).2 := by
  refine h _ ?_
  exact List.mem_of_getElem? (item_some hi)
def sp_first (K : PySem.W.Frag) : Sp := fun vs H Q _ => ∃ (p : Addr) (xs : List Q2), vs = [.ref p] ∧ LP K H p xs ∧ 0 < xs.length ∧ xs.length ≤ 1000 ∧ AllOk 4000 xs ∧ Q (.int (firstM xs : Int)) H
/-- two lists, item by item -/
def sp_raised (K : PySem.W.Frag) : Sp := fun vs H Q _ => ∃ (p q : Addr) (xs ys : List Q2), vs = [.ref p, .ref q] ∧ LP K H p xs ∧ LP K H q ys ∧ xs.length = ys.length ∧ xs.length ≤ 1000 ∧ AllOk 3800 xs ∧ AllOk 3800 ys ∧
  ∀ H' r, Same H H' → H r = none → LP K H' r (List.zipWith addP xs ys) → Q (.ref r) H'
theorem zip_at {xs ys : List Q2} {i : Nat} {x y : Q2} (hx : xs[i]? = some x) (hy : ys[i]? = some y) : (List.zipWith addP xs ys).take (i + 1) = (List.zipWith addP xs ys).take i ++ [addP x y] := by
  rw [List.take_add_one]
  have : (List.zipWith addP xs ys)[i]? = some (addP x y) := by
    rw [List.getElem?_zipWith, hx, hy]
  rw [this]
  rfl
/-- the weights and the shares of the law -/
def sharesOf (ws : List Int) : List Q2 := ws.map fun w => lowP w ws.sum
def WsOk (n : Nat) (ws : List Int) : Prop := ws.length = n ∧ (∀ w ∈ ws, 0 ≤ w ∧ w < 1000005) ∧ 0 < ws.sum ∧ ws.sum ≤ 1000005 * n
theorem shares_ok {n : Nat} {ws : List Int} (h : WsOk n ws) (hn : n ≤ 24) : AllOk 26 (sharesOf ws) := by
  intro x hx
  obtain ⟨w, hw, rfl⟩ := List.mem_map.1 hx
  obtain ⟨h1, h2, h3, h4⟩ := h
  have hb := h2 w hw
  exact ⟨lowP_ok h3 (Bd.of (m := 30000000) (by omega) (by omega) (by decide)) (Bd.of (m := 30000000) (by omega) (by omega) (by decide)), lowP_low h3⟩
theorem shares_len (ws : List Int) : (sharesOf ws).length = ws.length := by
  unfold sharesOf
  rw [List.length_map]
theorem sum_bound {ws : List Int} : (∀ w ∈ ws, 0 ≤ w ∧ w < 1000005) → 0 ≤ ws.sum ∧ ws.sum ≤ 1000005 * ws.length := by
  induction ws with
  | nil => intro _; exact ⟨Int.le_refl _, Int.le_refl _⟩
  | cons w ws ih =>
    intro h
    have h1 := h w List.mem_cons_self
    have h2 := ih fun v hv => h v (List.mem_cons_of_mem _ hv)
    rw [List.sum_cons, List.length_cons]
    omega
end DT

namespace DT
/-! ### what a pair is worth -/
def val (x : Q2) : Rat := (x.1 : Rat) / (x.2 : Rat)
theorem r_ne {a : Int} (h : 0 < a) : (a : Rat) ≠ 0 := fun e => by
  have := Rat.intCast_eq_zero_iff.1 e
  omega
theorem r_pos {a : Int} (h : 0 < a) : (0 : Rat) < (a : Rat) := Rat.intCast_pos.2 h
theorem val_eq {x y : Q2} (hx : 0 < x.2) (hy : 0 < y.2) (h : x.1 * y.2 = y.1 * x.2) : val x = val y := by
  unfold val
  have h1 := r_ne hx
  have h2 := r_ne hy
  have h3 : (x.1 : Rat) * (y.2 : Rat) = (y.1 : Rat) * (x.2 : Rat) := by rw [← Rat.intCast_mul, ← Rat.intCast_mul, h]
  grind
theorem val_low {t b : Int} (h : 0 < b) : val (lowP t b) = (t : Rat) / (b : Rat) := by
  have := val_eq (x := lowP t b) (y := (t, b)) (lowP_low h).pos h (by show t / gc t b * b = t * (b / gc t b); rw [low_cross t b, Int.mul_comm])
  exact this
theorem val_add {x y : Q2} (hx : 0 < x.2) (hy : 0 < y.2) : val (addP x y) = val x + val y := by
  unfold addP
  rw [val_low (Int.mul_pos hx hy)]
  unfold val
  have h1 := r_ne hx
  have h2 := r_ne hy
  rw [Rat.intCast_add, Rat.intCast_mul, Rat.intCast_mul, Rat.intCast_mul]
  grind
theorem val_sub {x y : Q2} (hx : 0 < x.2) (hy : 0 < y.2) : val (subP x y) = val x - val y := by
  unfold subP
  rw [val_low (Int.mul_pos hx hy)]
  unfold val
  have h1 := r_ne hx
  have h2 := r_ne hy
  rw [Rat.intCast_sub, Rat.intCast_mul, Rat.intCast_mul, Rat.intCast_mul]
  grind
theorem val_mul {x y : Q2} (hx : 0 < x.2) (hy : 0 < y.2) : val (mulP x y) = val x * val y := by
  unfold mulP
  rw [val_low (Int.mul_pos hx hy)]
  unfold val
  have h1 := r_ne hx
  have h2 := r_ne hy
  rw [Rat.intCast_mul, Rat.intCast_mul]
  grind
theorem val_lt {x y : Q2} (hx : 0 < x.2) (hy : 0 < y.2) : x.1 * y.2 < y.1 * x.2 ↔ val x < val y := by
  unfold val
  rw [Rat.div_lt_iff (r_pos hx), ← Rat.intCast_lt_intCast, Rat.intCast_mul, Rat.intCast_mul]
  have h2 := r_ne hy
  have hp := r_pos hy
  have e : (y.1 : Rat) / (y.2 : Rat) * (x.2 : Rat) = ((y.1 : Rat) * (x.2 : Rat)) / (y.2 : Rat) := by grind
  rw [e, Rat.lt_div_iff hp]
theorem lessP_iff {x y : Q2} (hx : 0 < x.2) (hy : 0 < y.2) : lessP x y = true ↔ val x < val y := by
  unfold lessP
  rw [decide_eq_true_iff]
  exact val_lt hx hy
theorem val_inj {x y : Q2} (hx : Low x.1 x.2) (hy : Low y.1 y.2) (h : val x = val y) : x = y := by
  have h1 := r_ne hx.pos
  have h2 := r_ne hy.pos
  have h3 : (x.1 : Rat) * (y.2 : Rat) = (y.1 : Rat) * (x.2 : Rat) := by
    unfold val at h
    grind
  rw [← Rat.intCast_mul, ← Rat.intCast_mul, Rat.intCast_inj] at h3
  obtain ⟨e1, e2⟩ := low_uniq hx hy h3
  exact Prod.ext e1 e2
def rsum (l : List Rat) : Rat := l.foldr (· + ·) 0
theorem rsum_cons (a : Rat) (l : List Rat) : rsum (a :: l) = a + rsum l := rfl
theorem rsum_nil : rsum [] = 0 := rfl
theorem rsum_app (l m : List Rat) : rsum (l ++ m) = rsum l + rsum m := by
  induction l with
  | nil => rw [List.nil_append, rsum_nil]; grind
  | cons a l ih => rw [List.cons_append, rsum_cons, rsum_cons, ih]; grind
def worth (xs : List Q2) : Rat := rsum (xs.map val)
theorem worth_cons (x : Q2) (xs : List Q2) : worth (x :: xs) = val x + worth xs := rfl
theorem worth_app (xs ys : List Q2) : worth (xs ++ ys) = worth xs + worth ys := by
  unfold worth
  rw [List.map_append, rsum_app]
/-- all bottoms above nought -/
def AllPos (xs : List Q2) : Prop := ∀ x ∈ xs, 0 < x.2
theorem AllOk.pos {n : Nat} {xs : List Q2} (h : AllOk n xs) : AllPos xs := fun x hx => (h x hx).1.pos
theorem fold_worth : ∀ (xs : List Q2) (x : Q2), 0 < x.2 → AllPos xs → val (xs.foldl addP x) = val x + worth xs ∧ 0 < (xs.foldl addP x).2
  | [], x, hx, _ => ⟨by show val x = val x + 0; grind, hx⟩
  | y :: ys, x, hx, h => by
    have hy := h y List.mem_cons_self
    have hz : 0 < (addP x y).2 := (addP_low hx hy).pos
    obtain ⟨e, p⟩ := fold_worth ys (addP x y) hz fun z hz => h z (List.mem_cons_of_mem _ hz)
    refine ⟨?_, p⟩
    rw [List.foldl_cons, e, val_add hx hy, worth_cons]
    grind
theorem sumP_worth {xs : List Q2} (h : AllPos xs) : val (sumP xs) = worth xs := by
  have := (fold_worth xs (0, 1) (by decide) h).1
  have z : val (0, 1) = 0 := by
    unfold val
    show ((0 : Int) : Rat) / ((1 : Int) : Rat) = 0
    rw [Rat.intCast_zero, Rat.intCast_one]
    grind
  unfold sumP
  rw [this, z]
  grind
theorem worth_zip : ∀ (xs ys : List Q2), xs.length = ys.length → AllPos xs → AllPos ys → worth (List.zipWith addP xs ys) = worth xs + worth ys
  | [], [], _, _, _ => by show (0 : Rat) = 0 + 0; grind
  | x :: xs, y :: ys, h, hx, hy => by
    rw [List.zipWith_cons_cons, worth_cons, worth_cons, worth_cons, val_add (hx x List.mem_cons_self) (hy y List.mem_cons_self),
      worth_zip xs ys (by simpa using h) (fun z hz => hx z (List.mem_cons_of_mem _ hz)) fun z hz => hy z (List.mem_cons_of_mem _ hz)]
    grind
theorem worth_set : ∀ {xs : List Q2} {i : Nat} {x y : Q2}, xs[i]? = some x → worth (xs.set i y) = worth xs - val x + val y
  | [], i, x, y, h => by simp at h
  | a :: xs, 0, x, y, h => by
    have e : a = x := Option.some.inj h
    subst e
    show val y + worth xs = val a + worth xs - val a + val y
    grind
  | a :: xs, i + 1, x, y, h => by
    have ih := worth_set (xs := xs) (i := i) (x := x) (y := y) (by simpa using h)
    show val a + worth (xs.set i y) = val a + worth xs - val x + val y
    rw [ih]
    grind
theorem worth_shares {n : Nat} {ws : List Int} (h : WsOk n ws) : worth (sharesOf ws) = 1 := by
  obtain ⟨_, _, hs, _⟩ := h
  have key : ∀ (l : List Int) (S : Int), 0 < S → worth (l.map fun w => lowP w S) = (l.sum : Rat) / (S : Rat) := by
    intro l S hS
    have hn := r_ne hS
    induction l with
    | nil =>
      show (0 : Rat) = ((0 : Int) : Rat) / (S : Rat)
      rw [Rat.intCast_zero]
      grind
    | cons w l ih =>
      rw [List.map_cons, worth_cons, ih, val_low hS, List.sum_cons, Rat.intCast_add]
      grind
  unfold sharesOf
  rw [key ws ws.sum hs]
  have hn := r_ne hs
  grind
theorem val_one : val (1, 1) = 1 := by
  unfold val
  show ((1 : Int) : Rat) / ((1 : Int) : Rat) = 1
  rw [Rat.intCast_one]
  grind
theorem val_zero' : val (0, 1) = 0 := by
  unfold val
  show ((0 : Int) : Rat) / ((1 : Int) : Rat) = 0
  rw [Rat.intCast_zero, Rat.intCast_one]
  grind
/-! ### one hour -/
def hourM (xs ys : List Q2) : Nat × List Q2 :=
  let zs := List.zipWith addP xs ys
  (firstM zs, zs.set (firstM zs) (subP (itemP zs (firstM zs)) (1, 1)))
theorem zip_ok {n m : Nat} {xs ys : List Q2} (hx : AllOk n xs) (hy : AllOk m ys) : AllOk (n + m + 1) (List.zipWith addP xs ys) := by
  intro z hz
  obtain ⟨i, hi⟩ := List.mem_iff_getElem?.1 hz
  rw [List.getElem?_zipWith] at hi
  cases ex : xs[i]? with
  | none => rw [ex] at hi; simp at hi
  | some x =>
    cases ey : ys[i]? with
    | none => rw [ex, ey] at hi; simp at hi
    | some y =>
      rw [ex, ey] at hi
      have e1 : addP x y = z := Option.some.inj hi
      have o1 := hx x (List.mem_of_getElem? ex)
      have o2 := hy y (List.mem_of_getElem? ey)
      rw [← e1]
      exact ⟨addP_ok o1.1 o2.1, addP_low o1.1.pos o2.1.pos⟩
theorem ok11 : Ok 1 ((1, 1) : Q2) := ⟨by decide, by unfold Bd; decide, by unfold Bd; decide⟩
theorem sub_low {x y : Q2} (hx : 0 < x.2) (hy : 0 < y.2) : Low (subP x y).1 (subP x y).2 := low_div (Int.mul_pos hx hy)
theorem hour_ok {n m : Nat} {xs ys : List Q2} (hx : AllOk n xs) (hy : AllOk m ys) (hl : xs.length = ys.length) (h0 : 0 < xs.length) : AllOk (n + m + 3) (hourM xs ys).2 ∧ (hourM xs ys).2.length = xs.length ∧ (hourM xs ys).1 < xs.length := by
  have hz := zip_ok hx hy
  have lz : (List.zipWith addP xs ys).length = xs.length := by rw [List.length_zipWith]; omega
  have hf := firstM_lt (xs := List.zipWith addP xs ys) (by omega)
  have oi := item_ok hz hf
  refine ⟨fun z hz' => ?_, ?_, by show firstM (List.zipWith addP xs ys) < _; omega⟩
  · rcases List.mem_or_eq_of_mem_set hz' with h | h
    · exact ⟨(hz z h).1.mono (by omega), (hz z h).2⟩
    · rw [h]
      exact ⟨(subP_ok oi.1 ok11).mono (by omega), sub_low oi.1.pos ok11.pos⟩
  · show ((List.zipWith addP xs ys).set _ _).length = _
    rw [List.length_set, lz]
theorem hour_worth {n m : Nat} {xs ys : List Q2} (hx : AllOk n xs) (hy : AllOk m ys) (hl : xs.length = ys.length) (h0 : 0 < xs.length) : worth (hourM xs ys).2 = worth xs + worth ys - 1 := by
  have hz := zip_ok hx hy
  have lz : (List.zipWith addP xs ys).length = xs.length := by rw [List.length_zipWith]; omega
  have hf := firstM_lt (xs := List.zipWith addP xs ys) (by omega)
  have oi := item_ok hz hf
  show worth ((List.zipWith addP xs ys).set _ _) = _
  rw [worth_set (item_some hf), val_sub oi.1.pos ok11.pos, val_one, worth_zip xs ys hl hx.pos hy.pos]
  grind
/-- lags behind some hours: as many, small, in lowest terms, together nought -/
structure Lags (n N : Nat) (xs : List Q2) : Prop where
  len : xs.length = n
  ok : AllOk N xs
  zero : worth xs = 0
end DT
namespace DT
open PySem PySem.Spec PyProof.Rows L2
theorem Pps.set {K : PySem.W.Frag} {H : Hp} {v : V} {y : Q2} (h : Pp K H v y) : ∀ {us : List V} {xs : List Q2} (i : Nat), Pps K H us xs → Pps K H (us.set i v) (xs.set i y)
  | _, _, _, .nil => .nil
  | _, _, 0, .cons _ t => .cons h t
  | _, _, i + 1, .cons g t => .cons g (t.set h i)
theorem LP.put {K : PySem.W.Frag} {H : Hp} {p : Addr} {us : List V} {v : V} {xs : List Q2} {y : Q2} (e : H p = some (.lst us)) (k : Pps K H us xs) (h : Pp K H v y) (i : Nat) : LP K (upd H p (.lst (us.set i v))) p (xs.set i y) := by
  have sd : ∀ b o, H b = some o → b ≠ p → upd H p (.lst (us.set i v)) b = some o := fun b o eb n => by
    rw [upd_ne n]
    exact eb
  exact ⟨_, upd_same, Pps.set (h.off sd e) i (k.off sd e)⟩
def sp_hour (K : PySem.W.Frag) : Sp := fun vs H Q _ => ∃ (p q : Addr) (xs ys : List Q2) (N : Nat), vs = [.ref p, .ref q] ∧ LP K H p xs ∧ LP K H q ys ∧ xs.length = ys.length ∧ 0 < xs.length ∧ xs.length ≤ 1000 ∧ AllOk N xs ∧ AllOk 26 ys ∧ N ≤ 3700 ∧
  ∀ H' t r, Same H H' → H r = none → SqT K H' t [.int ((hourM xs ys).1 : Int), .ref r] → LP K H' r (hourM xs ys).2 → Q (.ref t) H'
theorem ix_nat {n : Nat} {j : Nat} (h : j < n) : ixN n (j : Int) = some j := by
  unfold ixN
  rw [if_pos (by omega), if_pos (by omega), Int.toNat_natCast]
end DT

namespace DT
/-! ### the greatest of a list, by what they are worth -/
def Desc (l : List Rat) : Prop := l.Pairwise (fun a b => b ≤ a)
theorem rsum_perm {l m : List Rat} (h : l.Perm m) : rsum l = rsum m := by
  induction h with
  | nil => rfl
  | cons a _ ih => rw [rsum_cons, rsum_cons, ih]
  | swap a b l => rw [rsum_cons, rsum_cons, rsum_cons, rsum_cons]; grind
  | trans _ _ h1 h2 => rw [h1, h2]
theorem take_le {a : Rat} {s : List Rat} (h : Desc (a :: s)) : ∀ k, k ≤ s.length → rsum (s.take k) ≤ rsum ((a :: s).take k) := by
  intro k
  induction k with
  | zero => intro _; exact Rat.le_refl
  | succ k _ =>
    intro hk
    have hm : s[k]? = some s[k] := List.getElem?_eq_getElem hk
    have h1 : s.take (k + 1) = s.take k ++ [s[k]] := by
      rw [List.take_add_one, hm]
      rfl
    have h2 : s[k] ≤ a := (List.pairwise_cons.1 h).1 _ (List.getElem_mem hk)
    rw [h1, rsum_app, List.take_succ_cons, rsum_cons, rsum_cons, rsum_nil]
    grind
/-- no part of a list is worth more than as many of the greatest -/
theorem top_le : ∀ (s l1 l2 : List Rat), Desc s → (l1 ++ l2).Perm s → rsum l1 ≤ rsum (s.take l1.length)
  | [], l1, l2, _, h => by
    have : l1 = [] := by
      have := h.length_eq
      simp only [List.length_append, List.length_nil] at this
      exact List.length_eq_zero_iff.1 (by omega)
    rw [this]
    exact Rat.le_refl
  | a :: s, l1, l2, hs, h => by
    have hs' : Desc s := (List.pairwise_cons.1 hs).2
    have ha : a ∈ l1 ++ l2 := h.mem_iff.2 List.mem_cons_self
    rcases List.mem_append.1 ha with h1 | h2
    · have p1 := List.perm_cons_erase h1
      have p2 : (l1.erase a ++ l2).Perm s := by
        have : (a :: (l1.erase a ++ l2)).Perm (a :: s) := by
          rw [← List.cons_append]
          exact (p1.symm.append_right l2).trans h
        exact this.cons_inv
      have ih := top_le s (l1.erase a) l2 hs' p2
      have hl : l1.length = (l1.erase a).length + 1 := by
        have := p1.length_eq
        simpa using this
      rw [rsum_perm p1, rsum_cons, hl, List.take_succ_cons, rsum_cons]
      grind
    · have p1 := List.perm_cons_erase h2
      have p2 : (l1 ++ l2.erase a).Perm s := by
        have : (a :: (l1 ++ l2.erase a)).Perm (a :: s) := by
          refine List.Perm.trans ?_ h
          exact (List.perm_middle.symm).trans (p1.symm.append_left l1)
        exact this.cons_inv
      have ih := top_le s l1 (l2.erase a) hs' p2
      have hl : l1.length ≤ s.length := by
        have := p2.length_eq
        simp only [List.length_append] at this
        omega
      exact Rat.le_trans ih (take_le hs _ hl)
/-! ### the bounds -/
/-- 1/(k + 1) + .. + 1/n -/
def hs (n : Nat) : Nat → Rat
  | 0 => 0
  | i + 1 => 1 / ((n - i : Nat) : Rat) + hs n i
/-- from k + 1 to n: the last n - k terms -/
def hk (n k : Nat) : Rat := hs n (n - k)
theorem hk_step {n k : Nat} (h : k < n) : hk n k = 1 / ((k + 1 : Nat) : Rat) + hk n (k + 1) := by
  unfold hk
  rw [show n - k = (n - (k + 1)) + 1 by omega]
  show 1 / ((n - (n - (k + 1)) : Nat) : Rat) + hs n (n - (k + 1)) = _
  rw [show n - (n - (k + 1)) = k + 1 by omega]
theorem hk_self (n : Nat) : hk n n = 0 := by
  unfold hk
  rw [Nat.sub_self]
  rfl
/-- the sums of any k are within the bound, and none is too low -/
structure KeepsL (l : List Rat) : Prop where
  top : ∀ l1 l2, (l1 ++ l2).Perm l → 1 ≤ l1.length → rsum l1 ≤ (l1.length : Rat) * hk l.length l1.length
  low : ∀ a ∈ l, 1 / (l.length : Rat) - 1 ≤ a
theorem rsum_le {l : List Rat} {c : Rat} (h : ∀ a ∈ l, a ≤ c) : rsum l ≤ (l.length : Rat) * c := by
  induction l with
  | nil => show (0 : Rat) ≤ ((0 : Nat) : Rat) * c; grind
  | cons a l ih =>
    have h1 := h a List.mem_cons_self
    have h2 := ih fun b hb => h b (List.mem_cons_of_mem _ hb)
    rw [rsum_cons, List.length_cons]
    have e : ((l.length + 1 : Nat) : Rat) = (l.length : Rat) + 1 := by simp
    rw [e]
    grind
theorem rsum_nonneg {l : List Rat} (h : ∀ a ∈ l, 0 ≤ a) : 0 ≤ rsum l := by
  induction l with
  | nil => exact Rat.le_refl
  | cons a l ih =>
    have h1 := h a List.mem_cons_self
    have h2 := ih fun b hb => h b (List.mem_cons_of_mem _ hb)
    rw [rsum_cons]
    grind
theorem rsum_map_add {α : Type} (l : List α) (f g : α → Rat) : rsum (l.map fun x => f x + g x) = rsum (l.map f) + rsum (l.map g) := by
  induction l with
  | nil => show (0 : Rat) = 0 + 0; grind
  | cons a l ih => rw [List.map_cons, List.map_cons, List.map_cons, rsum_cons, rsum_cons, rsum_cons, ih]; grind
theorem perm_lift {α β : Type} (f : α → β) : ∀ {m l : List β}, m.Perm l → ∀ p : List α, p.map f = l → ∃ q : List α, q.Perm p ∧ q.map f = m := by
  intro m l h
  induction h with
  | nil => intro p hp; exact ⟨p, List.Perm.refl _, hp⟩
  | cons a _ ih =>
    intro p hp
    cases p with
    | nil => cases hp
    | cons b p =>
      rw [List.map_cons] at hp
      obtain ⟨e1, e2⟩ := List.cons.inj hp
      obtain ⟨q, h1, h2⟩ := ih p e2
      exact ⟨b :: q, h1.cons b, by rw [List.map_cons, e1, h2]⟩
  | swap a b l =>
    intro p hp
    match p, hp with
    | c :: d :: p, hp =>
      rw [List.map_cons, List.map_cons] at hp
      obtain ⟨e1, e2⟩ := List.cons.inj hp
      obtain ⟨e3, e4⟩ := List.cons.inj e2
      exact ⟨d :: c :: p, List.Perm.swap _ _ _, by rw [List.map_cons, List.map_cons, e1, e3, e4]⟩
  | trans _ _ h1 h2 =>
    intro p hp
    obtain ⟨q, k1, k2⟩ := h2 p hp
    obtain ⟨r, k3, k4⟩ := h1 q k2
    exact ⟨r, k3.trans k1, k4⟩
/-- one hour: R the others (lag, share), (a, s) the one whose turn it is -/
theorem hour_keeps (a s : Rat) (R : List (Rat × Rat)) (hs0 : 0 ≤ s) (hR : ∀ x ∈ R, 0 ≤ x.2) (h1 : s + rsum (R.map (·.2)) = 1) (h0 : a + rsum (R.map (·.1)) = 0)
    (hmax : ∀ x ∈ R, x.1 + x.2 ≤ a + s) (hk' : KeepsL (a :: R.map (·.1))) : KeepsL ((a + s - 1) :: R.map fun x => x.1 + x.2) := by
  have len : ((a + s - 1) :: R.map fun x => x.1 + x.2).length = R.length + 1 := by rw [List.length_cons, List.length_map]
  have len2 : (a :: R.map (·.1)).length = R.length + 1 := by rw [List.length_cons, List.length_map]
  have sub : ∀ A B : List (Rat × Rat), (A ++ B).Perm R → rsum (A.map (·.2)) ≤ rsum (R.map (·.2)) := by
    intro A B h
    have e := rsum_perm (h.map (·.2))
    rw [List.map_append, rsum_app] at e
    have : 0 ≤ rsum (B.map (·.2)) := rsum_nonneg fun x hx => by
      obtain ⟨y, hy, rfl⟩ := List.mem_map.1 hx
      exact hR y (h.mem_iff.1 (List.mem_append.2 (.inr hy)))
    grind
  refine ⟨fun l1 l2 h hl => ?_, fun z hz => ?_⟩
  · rw [len]
    have hm : (a + s - 1) ∈ l1 ++ l2 := h.mem_iff.2 List.mem_cons_self
    by_cases hin : (a + s - 1) ∈ l1
    · -- the marked one may be taken to stand in l1
      have p1 := List.perm_cons_erase hin
      have p2 : (l1.erase (a + s - 1) ++ l2).Perm (R.map fun x => x.1 + x.2) := by
        have : ((a + s - 1) :: (l1.erase (a + s - 1) ++ l2)).Perm ((a + s - 1) :: R.map fun x => x.1 + x.2) := by
          rw [← List.cons_append]
          exact (p1.symm.append_right l2).trans h
        exact this.cons_inv
      obtain ⟨q, hq, eq⟩ := perm_lift (fun x : Rat × Rat => x.1 + x.2) p2 R rfl
      obtain ⟨A, B, rfl, eA, eB⟩ := List.map_eq_append_iff.1 eq
      have hA : l1.length = A.length + 1 := by
        have := p1.length_eq
        rw [List.length_cons, ← eA, List.length_map] at this
        exact this
      have hx := hk'.top (a :: A.map (·.1)) (B.map (·.1)) (by
        rw [List.cons_append, ← List.map_append]
        exact (hq.map _).cons a) (by simp)
      rw [len2, List.length_cons, List.length_map, rsum_cons] at hx
      have hs2 := sub A B hq
      have e1 : rsum l1 = (a + s - 1) + (rsum (A.map (·.1)) + rsum (A.map (·.2))) := by
        rw [rsum_perm p1, rsum_cons, ← eA, rsum_map_add]
      rw [e1, hA]
      grind
    · have hin2 : (a + s - 1) ∈ l2 := by
        rcases List.mem_append.1 hm with z | z
        · exact absurd z hin
        · exact z
      have p1 := List.perm_cons_erase hin2
      have p2 : (l1 ++ l2.erase (a + s - 1)).Perm (R.map fun x => x.1 + x.2) := by
        have : ((a + s - 1) :: (l1 ++ l2.erase (a + s - 1))).Perm ((a + s - 1) :: R.map fun x => x.1 + x.2) := by
          refine List.Perm.trans ?_ h
          exact (List.perm_middle.symm).trans (p1.symm.append_left l1)
        exact this.cons_inv
      obtain ⟨q, hq, eq⟩ := perm_lift (fun x : Rat × Rat => x.1 + x.2) p2 R rfl
      obtain ⟨A, B, rfl, eA, eB⟩ := List.map_eq_append_iff.1 eq
      have hA : l1.length = A.length := by rw [← eA, List.length_map]
      have hAR : A.length < R.length + 1 := by
        have := hq.length_eq
        rw [List.length_append] at this
        omega
      have hx := hk'.top (a :: A.map (·.1)) (B.map (·.1)) (by
        rw [List.cons_append, ← List.map_append]
        exact (hq.map _).cons a) (by simp)
      rw [len2, List.length_cons, List.length_map, rsum_cons] at hx
      have hs2 := sub A B hq
      have e1 : rsum l1 = rsum (A.map (·.1)) + rsum (A.map (·.2)) := by rw [← eA, rsum_map_add]
      have hle : rsum l1 ≤ (A.length : Rat) * (a + s) := by
        have := rsum_le (l := A.map fun x => x.1 + x.2) (c := a + s) fun z hz => by
          obtain ⟨y, hy, rfl⟩ := List.mem_map.1 hz
          exact hmax y (hq.mem_iff.1 (List.mem_append.2 (.inl hy)))
        rw [← eA]
        rw [List.length_map] at this
        exact this
      rw [hA, hk_step hAR]
      have ec : ((A.length + 1 : Nat) : Rat) = (A.length : Rat) + 1 := by simp
      rw [ec] at hx ⊢
      have hk0 : (0 : Rat) ≤ (A.length : Rat) := Rat.intCast_nonneg.2 (Int.natCast_nonneg A.length)
      generalize hk (R.length + 1) (A.length + 1) = hh at hx ⊢
      generalize (A.length : Rat) = k at hx hle hk0 ⊢
      generalize rsum l1 = S at e1 hle ⊢
      -- (k + 1) S = k S + S ≤ k S + k (a + s) = k (S + a + s) ≤ k ((k + 1) hh + 1)
      have e2 : S + (a + s) ≤ (k + 1) * hh + 1 := by grind
      have e3 : k * (S + (a + s)) ≤ k * ((k + 1) * hh + 1) := Rat.mul_le_mul_of_nonneg_left e2 hk0
      have kp : (0 : Rat) < k + 1 := by grind
      have e4 : (k + 1) * S ≤ (k + 1) * (k * (1 / (k + 1) + hh)) := by
        have : (k + 1) * (k * (1 / (k + 1) + hh)) = k * ((k + 1) * hh + 1) := by grind
        rw [this]
        grind
      exact Rat.not_lt.1 fun h => absurd e4 (Rat.not_le.2 (Rat.mul_lt_mul_of_pos_left h kp))
  · rw [len]
    rcases List.mem_cons.1 hz with e | hz
    · rw [e]
      have hle : rsum (R.map fun x => x.1 + x.2) ≤ (R.length : Rat) * (a + s) := by
        have := rsum_le (l := R.map fun x => x.1 + x.2) (c := a + s) fun z hz => by
          obtain ⟨y, hy, rfl⟩ := List.mem_map.1 hz
          exact hmax y hy
        rw [List.length_map] at this
        exact this
      rw [rsum_map_add] at hle
      have ec : ((R.length + 1 : Nat) : Rat) = (R.length : Rat) + 1 := by simp
      rw [ec]
      have hk0 : (0 : Rat) ≤ (R.length : Rat) := Rat.intCast_nonneg.2 (Int.natCast_nonneg R.length)
      generalize (R.length : Rat) = k at hle hk0 ⊢
      have kp : (0 : Rat) < k + 1 := by grind
      have e5 : (1 : Rat) ≤ (a + s) * (k + 1) := by grind
      have e6 : 1 / (k + 1) ≤ a + s := by
        exact Rat.not_lt.1 fun h => absurd e5 (Rat.not_le.2 ((Rat.lt_div_iff kp).1 h))
      grind
    · obtain ⟨y, hy, rfl⟩ := List.mem_map.1 hz
      have h2 := hk'.low y.1 (List.mem_cons_of_mem _ (List.mem_map.2 ⟨y, hy, rfl⟩))
      rw [len2] at h2
      have h3 := hR y hy
      grind
end DT

namespace DT
/-! ### the falling row -/
theorem first_max {xs : List Q2} (hp : AllPos xs) : ∀ i, i ≤ xs.length → ∀ j, j < i → val (itemP xs j) ≤ val (itemP xs (firstF xs i))
  | 0, _, j, hj => absurd hj (by omega)
  | i + 1, hi, j, hj => by
    have ih := first_max hp i (by omega)
    have hf := firstF_lt xs i
    have pos : ∀ k, k < xs.length → 0 < (itemP xs k).2 := fun k hk => hp _ (List.mem_of_getElem? (item_some hk))
    have p1 := pos (firstF xs i) (by omega)
    have p2 := pos i (by omega)
    show _ ≤ val (itemP xs (if lessP (itemP xs (firstF xs i)) (itemP xs i) = true then i else firstF xs i))
    by_cases h : lessP (itemP xs (firstF xs i)) (itemP xs i) = true
    · rw [if_pos h]
      have h1 := (lessP_iff p1 p2).1 h
      by_cases hji : j = i
      · rw [hji]
        exact Rat.le_refl
      · exact Rat.le_trans (ih j (by omega)) (Rat.le_of_lt h1)
    · rw [if_neg h]
      by_cases hji : j = i
      · rw [hji]
        exact Rat.not_lt.1 fun h1 => h ((lessP_iff p1 p2).2 h1)
      · exact ih j (by omega)
theorem firstM_max {xs : List Q2} (hp : AllPos xs) {x : Q2} (hx : x ∈ xs) : val x ≤ val (itemP xs (firstM xs)) := by
  obtain ⟨j, hj, e⟩ := List.mem_iff_getElem.1 hx
  have := first_max hp xs.length (Nat.le_refl _) j hj
  have e2 : itemP xs j = x := by
    have := item_some hj
    rw [List.getElem?_eq_getElem hj, e] at this
    exact (Option.some.inj this).symm
  rw [e2] at this
  exact this
def fallF : Nat → List Q2 → List Q2
  | 0, _ => []
  | i + 1, xs => match xs with
    | [] => []
    | _ => itemP xs (firstM xs) :: fallF i (xs.eraseIdx (firstM xs))
def fallM (xs : List Q2) : List Q2 := fallF xs.length xs
theorem fall_nil : fallM [] = [] := rfl
theorem fall_step {xs : List Q2} (h : 0 < xs.length) : fallM xs = itemP xs (firstM xs) :: fallM (xs.eraseIdx (firstM xs)) := by
  have hl : (xs.eraseIdx (firstM xs)).length = xs.length - 1 := by
    rw [List.length_eraseIdx]
    rw [if_pos (firstM_lt h)]
  unfold fallM
  rw [hl]
  cases xs with
  | nil => cases h
  | cons x r => rfl
theorem erase_at {α : Type} : ∀ (xs : List α) (i : Nat) (h : i < xs.length), (xs[i] :: xs.eraseIdx i).Perm xs
  | x :: xs, 0, _ => List.Perm.refl _
  | x :: xs, i + 1, h => by
    have ih := erase_at xs i (by simpa using h)
    show (xs[i]'(by simpa using h) :: x :: xs.eraseIdx i).Perm (x :: xs)
    exact (List.Perm.swap _ _ _).trans (ih.cons x)
theorem erase_perm {xs : List Q2} (h : 0 < xs.length) : (itemP xs (firstM xs) :: xs.eraseIdx (firstM xs)).Perm xs := by
  have hf := firstM_lt h
  have e : itemP xs (firstM xs) = xs[firstM xs] := by
    have := item_some hf
    rw [List.getElem?_eq_getElem hf] at this
    exact (Option.some.inj this).symm
  rw [e]
  exact erase_at xs _ hf
theorem fall_all : ∀ (n : Nat) (xs : List Q2), xs.length = n → AllPos xs → (fallM xs).Perm xs ∧ Desc ((fallM xs).map val) := by
  intro n
  induction n with
  | zero =>
    intro xs hl _
    rw [List.length_eq_zero_iff.1 hl]
    exact ⟨List.Perm.refl _, List.Pairwise.nil⟩
  | succ n ih =>
    intro xs hl hp
    have h0 : 0 < xs.length := by omega
    have hf := firstM_lt h0
    have pe := erase_perm h0
    have hl2 : (xs.eraseIdx (firstM xs)).length = n := by
      rw [List.length_eraseIdx, if_pos hf]
      omega
    have hp2 : AllPos (xs.eraseIdx (firstM xs)) := fun x hx => hp x (pe.mem_iff.1 (List.mem_cons_of_mem _ hx))
    obtain ⟨h1, h2⟩ := ih _ hl2 hp2
    rw [fall_step h0]
    refine ⟨(h1.cons _).trans pe, ?_⟩
    rw [List.map_cons]
    refine List.pairwise_cons.2 ⟨fun b hb => ?_, h2⟩
    obtain ⟨y, hy, rfl⟩ := List.mem_map.1 hb
    exact firstM_max hp (pe.mem_iff.1 (List.mem_cons_of_mem _ (h1.mem_iff.1 hy)))
theorem fall_len {xs : List Q2} (hp : AllPos xs) : (fallM xs).length = xs.length := (fall_all _ xs rfl hp).1.length_eq
theorem fall_ok {n : Nat} {xs : List Q2} (h : AllOk n xs) : AllOk n (fallM xs) := fun x hx => h x ((fall_all _ xs rfl h.pos).1.mem_iff.1 hx)
/-! ### the bounds as the law tests them -/
def bndF (n : Nat) : Nat → Q2
  | 0 => (0, 1)
  | i + 1 => addP (bndF n i) (1, ((n - i : Nat) : Int))
theorem bnd_val {n : Nat} : ∀ i, i ≤ n → val (bndF n i) = hs n i ∧ 0 < (bndF n i).2
  | 0, _ => ⟨val_zero', (by decide : (0 : Int) < 1)⟩
  | i + 1, h => by
    obtain ⟨e, p⟩ := bnd_val (n := n) i (by omega)
    have p2 : 0 < (((1, ((n - i : Nat) : Int)) : Q2)).2 := by show (0 : Int) < ((n - i : Nat) : Int); omega
    refine ⟨?_, (addP_low p p2).pos⟩
    show val (addP (bndF n i) (1, ((n - i : Nat) : Int))) = 1 / ((n - i : Nat) : Rat) + hs n i
    rw [val_add p p2, e]
    have : val ((1, ((n - i : Nat) : Int)) : Q2) = 1 / ((n - i : Nat) : Rat) := by
      unfold val
      show ((1 : Int) : Rat) / (((n - i : Nat) : Int) : Rat) = _
      rw [Rat.intCast_one]
      rfl
    rw [this]
    exact Rat.add_comm _ _
def okAt (xs : List Q2) (i : Nat) : Bool :=
  !(lessP (mulP (bndF xs.length (xs.length - (i + 1))) (((i + 1 : Nat) : Int), 1)) (sumP ((fallM xs).take (i + 1)))) && !(lessP (itemP (fallM xs) i) (1 - (xs.length : Int), (xs.length : Int)))
def keepsB (xs : List Q2) : Bool := (List.range xs.length).all (okAt xs)
theorem take_pos {xs : List Q2} (h : AllPos xs) (k : Nat) : AllPos (xs.take k) := fun x hx => h x (List.mem_of_mem_take hx)
theorem okAt_iff {xs : List Q2} (hp : AllPos xs) {i : Nat} (hi : i < xs.length) : okAt xs i = true ↔ rsum (((fallM xs).map val).take (i + 1)) ≤ ((i + 1 : Nat) : Rat) * hk xs.length (i + 1) ∧ 1 / (xs.length : Rat) - 1 ≤ val (itemP (fallM xs) i) := by
  have hn : (0 : Int) < (xs.length : Int) := by omega
  obtain ⟨perm, _⟩ := fall_all _ xs rfl hp
  have hpf : AllPos (fallM xs) := fun x hx => hp x (perm.mem_iff.1 hx)
  have hfl := fall_len hp
  obtain ⟨eb, pb⟩ := bnd_val (n := xs.length) (xs.length - (i + 1)) (by omega)
  have p1 : 0 < ((((i + 1 : Nat) : Int), 1) : Q2).2 := (by decide : (0 : Int) < 1)
  have pm : 0 < (mulP (bndF xs.length (xs.length - (i + 1))) (((i + 1 : Nat) : Int), 1)).2 := (lowP_low (Int.mul_pos pb p1)).pos
  have ps : 0 < (sumP ((fallM xs).take (i + 1))).2 := (fold_worth _ (0, 1) (by decide) (take_pos hpf _)).2
  have pi : 0 < (itemP (fallM xs) i).2 := hpf _ (List.mem_of_getElem? (item_some (by omega)))
  have vm : val (mulP (bndF xs.length (xs.length - (i + 1))) (((i + 1 : Nat) : Int), 1)) = ((i + 1 : Nat) : Rat) * hk xs.length (i + 1) := by
    rw [val_mul pb p1, eb]
    have : val ((((i + 1 : Nat) : Int), 1) : Q2) = ((i + 1 : Nat) : Rat) := by
      unfold val
      show (((i + 1 : Nat) : Int) : Rat) / ((1 : Int) : Rat) = _
      rw [Rat.intCast_one]
      show ((i + 1 : Nat) : Rat) / 1 = _
      grind
    rw [this]
    exact Rat.mul_comm _ _
  have vs : val (sumP ((fallM xs).take (i + 1))) = rsum (((fallM xs).map val).take (i + 1)) := by
    rw [sumP_worth (take_pos hpf _)]
    unfold worth
    rw [List.map_take]
  have vl : val ((1 - (xs.length : Int), (xs.length : Int)) : Q2) = 1 / (xs.length : Rat) - 1 := by
    unfold val
    show ((1 - (xs.length : Int) : Int) : Rat) / ((xs.length : Int) : Rat) = _
    have h1 := r_ne hn
    have e1 : ((xs.length : Int) : Rat) = (xs.length : Rat) := rfl
    rw [Rat.intCast_sub, Rat.intCast_one, e1]
    rw [e1] at h1
    grind
  unfold okAt
  rw [Bool.and_eq_true, Bool.not_eq_true', Bool.not_eq_true', ← Bool.not_eq_true, ← Bool.not_eq_true, lessP_iff pm ps, lessP_iff pi hn, vm, vs, vl, Rat.not_lt, Rat.not_lt]
theorem keepsB_iff {xs : List Q2} (hp : AllPos xs) : keepsB xs = true ↔ KeepsL (xs.map val) := by
  obtain ⟨perm, desc⟩ := fall_all _ xs rfl hp
  have hfl := fall_len hp
  have hml : (xs.map val).length = xs.length := List.length_map _
  have pv := perm.map val
  unfold keepsB
  rw [List.all_eq_true]
  constructor
  · intro h
    have h' : ∀ i, i < xs.length → _ := fun i hi => (okAt_iff hp hi).1 (h i (List.mem_range.2 hi))
    refine ⟨fun l1 l2 hq hl => ?_, fun a ha => ?_⟩
    · have hle := top_le _ l1 l2 desc (hq.trans pv.symm)
      have hl2 : l1.length ≤ xs.length := by
        have := hq.length_eq
        rw [List.length_append, hml] at this
        omega
      obtain ⟨k, ek⟩ : ∃ k, l1.length = k + 1 := ⟨l1.length - 1, by omega⟩
      have h2 := (h' k (by omega)).1
      rw [ek] at hle hl2 ⊢
      rw [hml]
      exact Rat.le_trans hle h2
    · obtain ⟨x, hx, rfl⟩ := List.mem_map.1 ha
      obtain ⟨i, hi, e⟩ := List.mem_iff_getElem.1 (perm.mem_iff.2 hx)
      have h2 := (h' i (by omega)).2
      have e2 : itemP (fallM xs) i = x := by
        have := item_some hi
        rw [List.getElem?_eq_getElem hi, e] at this
        exact (Option.some.inj this).symm
      rw [e2] at h2
      rw [hml]
      exact h2
  · intro h i hi
    have hi := List.mem_range.1 hi
    refine (okAt_iff hp hi).2 ⟨?_, ?_⟩
    · have ht := h.top (((fallM xs).map val).take (i + 1)) (((fallM xs).map val).drop (i + 1)) (by rw [List.take_append_drop]; exact pv) (by rw [List.length_take, List.length_map]; omega)
      have el : (((fallM xs).map val).take (i + 1)).length = i + 1 := by
        rw [List.length_take, List.length_map]
        omega
      rw [el, hml] at ht
      exact ht
    · have hm : itemP (fallM xs) i ∈ fallM xs := List.mem_of_getElem? (item_some (by omega))
      have := h.low (val (itemP (fallM xs) i)) (List.mem_map.2 ⟨_, perm.mem_iff.1 hm, rfl⟩)
      rw [hml] at this
      exact this
/-! ### one hour, and a nought put in -/
theorem perm_set {α : Type} : ∀ (l : List α) (i : Nat) (y : α), i < l.length → (l.set i y).Perm (y :: l.eraseIdx i)
  | x :: l, 0, y, _ => List.Perm.refl _
  | x :: l, i + 1, y, h => by
    have ih := perm_set l i y (by simpa using h)
    show (x :: l.set i y).Perm (y :: x :: l.eraseIdx i)
    exact (ih.cons x).trans (List.Perm.swap _ _ _)
theorem KeepsL.perm {l m : List Rat} (h : KeepsL l) (p : l.Perm m) : KeepsL m := by
  have e := p.length_eq
  refine ⟨fun l1 l2 hq hl => ?_, fun a ha => ?_⟩
  · rw [← e]
    exact h.top l1 l2 (hq.trans p.symm) hl
  · rw [← e]
    exact h.low a (p.mem_iff.2 ha)
/-- the list of lags and shares, zipped, as values -/
theorem zip_vals : ∀ (xs ys : List Q2), xs.length = ys.length → AllPos xs → AllPos ys → (List.zipWith addP xs ys).map val = (List.zip (xs.map val) (ys.map val)).map fun p => p.1 + p.2
  | [], [], _, _, _ => rfl
  | x :: xs, y :: ys, h, hx, hy => by
    rw [List.zipWith_cons_cons, List.map_cons, List.map_cons, List.map_cons, List.zip_cons_cons, List.map_cons,
      zip_vals xs ys (by simpa using h) (fun z hz => hx z (List.mem_cons_of_mem _ hz)) (fun z hz => hy z (List.mem_cons_of_mem _ hz)), val_add (hx x List.mem_cons_self) (hy y List.mem_cons_self)]
theorem erase_map {α β : Type} (f : α → β) : ∀ (l : List α) (i : Nat), (l.map f).eraseIdx i = (l.eraseIdx i).map f
  | [], _ => rfl
  | x :: l, 0 => rfl
  | x :: l, i + 1 => by
    show f x :: (l.map f).eraseIdx i = f x :: (l.eraseIdx i).map f
    rw [erase_map f l i]
theorem hour_keepsB {n m : Nat} {xs ys : List Q2} (hx : AllOk n xs) (hy : AllOk m ys) (hl : xs.length = ys.length) (h0 : 0 < xs.length) (hz : worth xs = 0) (h1 : worth ys = 1) (hn : ∀ y ∈ ys, 0 ≤ val y) (hk' : keepsB xs = true) : keepsB (hourM xs ys).2 = true := by
  have hho := hour_ok hx hy hl h0
  have kx := (keepsB_iff hx.pos).1 hk'
  refine (keepsB_iff hho.1.pos).2 ?_
  have oz := zip_ok hx hy
  have lz : (List.zipWith addP xs ys).length = xs.length := by rw [List.length_zipWith]; omega
  have hf := firstM_lt (xs := List.zipWith addP xs ys) (by omega)
  obtain ⟨f, ef⟩ : ∃ f, f = firstM (List.zipWith addP xs ys) := ⟨_, rfl⟩
  -- the pairs (lag, share)
  obtain ⟨Z, eZ⟩ : ∃ Z, Z = List.zip (xs.map val) (ys.map val) := ⟨_, rfl⟩
  have lZ : Z.length = xs.length := by
    rw [eZ, List.length_zip, List.length_map, List.length_map]
    omega
  have hfZ : f < Z.length := by rw [ef]; omega
  have zv := zip_vals xs ys hl hx.pos hy.pos
  have Zf : Z.map (·.1) = xs.map val := by rw [eZ]; exact List.map_fst_zip (by rw [List.length_map, List.length_map]; omega)
  have Zs : Z.map (·.2) = ys.map val := by rw [eZ]; exact List.map_snd_zip (by rw [List.length_map, List.length_map]; omega)
  have pz := erase_at Z f hfZ
  have e1 : rsum (Z.map (·.1)) = 0 := by rw [Zf]; exact hz
  have e2 : rsum (Z.map (·.2)) = 1 := by rw [Zs]; exact h1
  rw [← rsum_perm (pz.map (·.1)), List.map_cons, rsum_cons] at e1
  rw [← rsum_perm (pz.map (·.2)), List.map_cons, rsum_cons] at e2
  have nn : ∀ x ∈ Z, 0 ≤ x.2 := fun x hx' => by
    have : x.2 ∈ Z.map (·.2) := List.mem_map.2 ⟨x, hx', rfl⟩
    rw [Zs] at this
    obtain ⟨y, hy', e⟩ := List.mem_map.1 this
    rw [← e]
    exact hn y hy'
  have vi : val (itemP (List.zipWith addP xs ys) f) = Z[f].1 + Z[f].2 := by
    have h3 : ((List.zipWith addP xs ys).map val)[f]? = some (val (itemP (List.zipWith addP xs ys) f)) := by
      rw [List.getElem?_map, item_some (by rw [ef]; exact hf)]
      rfl
    rw [zv, ← eZ, List.getElem?_map, List.getElem?_eq_getElem hfZ] at h3
    exact (Option.some.inj h3).symm
  have hmax : ∀ x ∈ Z.eraseIdx f, x.1 + x.2 ≤ Z[f].1 + Z[f].2 := fun x hx' => by
    have hm : x ∈ Z := pz.mem_iff.1 (List.mem_cons_of_mem _ hx')
    have h3 : x.1 + x.2 ∈ (List.zipWith addP xs ys).map val := by
      rw [zv, ← eZ]
      exact List.mem_map.2 ⟨x, hm, rfl⟩
    obtain ⟨y, hy', e⟩ := List.mem_map.1 h3
    rw [← e, ← vi, ef]
    exact firstM_max oz.pos hy'
  have kz : KeepsL (Z[f].1 :: (Z.eraseIdx f).map (·.1)) := by
    have : (Z.map (·.1)).Perm (Z[f].1 :: (Z.eraseIdx f).map (·.1)) := by
      rw [← List.map_cons]
      exact (pz.map (·.1)).symm
    rw [Zf] at this
    exact kx.perm this
  have key := hour_keeps Z[f].1 Z[f].2 (Z.eraseIdx f) (nn _ (List.getElem_mem hfZ)) (fun x hx' => nn x (pz.mem_iff.1 (List.mem_cons_of_mem _ hx'))) e2 e1 hmax kz
  refine key.perm ?_
  -- the told lags are these
  have oi := item_ok oz hf
  have e5 : (hourM xs ys).2.map val = (Z.map fun p => p.1 + p.2).set f (Z[f].1 + Z[f].2 - 1) := by
    show ((List.zipWith addP xs ys).set (firstM (List.zipWith addP xs ys)) (subP (itemP (List.zipWith addP xs ys) (firstM (List.zipWith addP xs ys))) (1, 1))).map val = _
    rw [List.map_set, zv, ← eZ, ← ef, val_sub (by rw [ef]; exact oi.1.pos) ok11.pos, val_one, vi]
  rw [e5]
  have p6 := perm_set (Z.map fun p => p.1 + p.2) f (Z[f].1 + Z[f].2 - 1) (by rw [List.length_map]; exact hfZ)
  refine List.Perm.trans ?_ p6.symm
  rw [erase_map]
theorem hk_facts : ∀ n : Nat, n < 24 → ∀ k : Nat, k ≤ n → (k : Rat) * hk n k ≤ ((k + 1 : Nat) : Rat) * hk (n + 1) (k + 1) ∧ (k : Rat) * hk n k ≤ (k : Rat) * hk (n + 1) k := by decide +kernel
theorem nought_keeps {l : List Rat} (h : KeepsL l) (hl : l.length < 24) (h1 : 1 ≤ l.length) : KeepsL (0 :: l) := by
  refine ⟨fun l1 l2 hq hl1 => ?_, fun a ha => ?_⟩
  · rw [List.length_cons]
    have hm : (0 : Rat) ∈ l1 ++ l2 := hq.mem_iff.2 List.mem_cons_self
    by_cases hin : (0 : Rat) ∈ l1
    · have p1 := List.perm_cons_erase hin
      have p2 : (l1.erase 0 ++ l2).Perm l := by
        have : ((0 : Rat) :: (l1.erase 0 ++ l2)).Perm (0 :: l) := by
          rw [← List.cons_append]
          exact (p1.symm.append_right l2).trans hq
        exact this.cons_inv
      have e1 : l1.length = (l1.erase 0).length + 1 := by
        have := p1.length_eq
        simpa using this
      have hA : (l1.erase 0).length ≤ l.length := by
        have := p2.length_eq
        rw [List.length_append] at this
        omega
      have f := (hk_facts l.length hl _ hA).1
      rw [e1]
      refine Rat.le_trans ?_ f
      rw [rsum_perm p1, rsum_cons, Rat.zero_add]
      by_cases h0 : (l1.erase 0).length = 0
      · rw [List.length_eq_zero_iff.1 h0]
        show (0 : Rat) ≤ ((0 : Nat) : Rat) * _
        grind
      · exact h.top _ l2 p2 (by omega)
    · have hin2 : (0 : Rat) ∈ l2 := by
        rcases List.mem_append.1 hm with z | z
        · exact absurd z hin
        · exact z
      have p1 := List.perm_cons_erase hin2
      have p2 : (l1 ++ l2.erase 0).Perm l := by
        have : ((0 : Rat) :: (l1 ++ l2.erase 0)).Perm (0 :: l) := by
          refine List.Perm.trans ?_ hq
          exact (List.perm_middle.symm).trans (p1.symm.append_left l1)
        exact this.cons_inv
      have hA : l1.length ≤ l.length := by
        have := p2.length_eq
        rw [List.length_append] at this
        omega
      exact Rat.le_trans (h.top l1 _ p2 hl1) (hk_facts l.length hl _ hA).2
  · rw [List.length_cons]
    have hp : (0 : Rat) < (l.length : Rat) := Rat.intCast_pos.2 (by omega : (0 : Int) < (l.length : Int))
    have ec : ((l.length + 1 : Nat) : Rat) = (l.length : Rat) + 1 := by simp
    have hp1 : (0 : Rat) < (l.length : Rat) + 1 := by grind
    have le1 : 1 / ((l.length : Rat) + 1) ≤ 1 := by
      refine Rat.not_lt.1 fun z => ?_
      have := (Rat.lt_div_iff hp1).1 z
      grind
    have le2 : 1 / ((l.length : Rat) + 1) ≤ 1 / (l.length : Rat) := by
      refine Rat.not_lt.1 fun z => ?_
      have z2 := (Rat.lt_div_iff hp1).1 z
      have e : 1 / (l.length : Rat) * ((l.length : Rat) + 1) = 1 + 1 / (l.length : Rat) := by
        have := r_ne (a := (l.length : Int)) (by omega)
        have e3 : ((l.length : Int) : Rat) = (l.length : Rat) := rfl
        rw [e3] at this
        grind
      rw [e] at z2
      have : (0 : Rat) < 1 / (l.length : Rat) := (Rat.lt_div_iff hp).2 (by grind)
      grind
    rw [ec]
    rcases List.mem_cons.1 ha with e | e
    · rw [e]
      grind
    · have := h.low a e
      grind
end DT

namespace DT
open PySem PySem.Spec PyProof.Rows L2
def sp_fall (K : PySem.W.Frag) : Sp := fun vs H Q _ => ∃ (p : Addr) (xs : List Q2), vs = [.ref p] ∧ LP K H p xs ∧ xs.length ≤ 900 ∧ AllOk 4000 xs ∧ ∀ H' r, Same H H' → H r = none → LP K H' r (fallM xs) → Q (.ref r) H'
theorem six_nat {n j : Nat} (h : j < n) : seqIndex? (j : Int) n = some j := by
  have h1 : ¬ ((j : Int) < 0) := by omega
  simp [seqIndex?, h1, h]
theorem Pps.erase {K : PySem.W.Frag} {H : Hp} : ∀ {us : List V} {xs : List Q2} (i : Nat), Pps K H us xs → Pps K H (us.eraseIdx i) (xs.eraseIdx i)
  | _, _, _, .nil => .nil
  | _, _, 0, .cons _ t => t
  | _, _, i + 1, .cons g t => .cons g (t.erase i)
theorem AllOk.erase {n : Nat} {xs : List Q2} (h : AllOk n xs) (i : Nat) : AllOk n (xs.eraseIdx i) := fun x hx => h x (List.mem_of_mem_eraseIdx hx)
/-- two lists, one that empties while the other grows -/
def fallW (K : PySem.W.Frag) (H : Hp) (xs : List Q2) (pr pf : Addr) (f : L2.St → Prop) (m : Nat) (σ : L2.St) (H' : Hp) : Prop := ∃ ys done : List Q2, f σ ∧ m = ys.length ∧ LP K H' pr ys ∧ LP K H' pf done ∧ fallM xs = done ++ fallM ys ∧ done.length + ys.length ≤ 900 ∧ AllOk 4000 ys ∧ Same H H'
/-- a row that empties while another grows -/
theorem fall_split {xs done ys : List Q2} (h : fallM xs = done ++ fallM ys) (h0 : 0 < ys.length) : fallM xs = (done ++ [itemP ys (firstM ys)]) ++ fallM (ys.eraseIdx (firstM ys)) := by
  rw [h, fall_step h0, List.append_assoc]
  rfl
end DT

namespace DT
/-! ### lags at their bound, moved a little, turned about -/
theorem worth_rep (k : Nat) (x : Q2) : worth (List.replicate k x) = (k : Rat) * val x := by
  induction k with
  | zero => show (0 : Rat) = ((0 : Nat) : Rat) * val x; grind
  | succ k ih =>
    have e : ((k + 1 : Nat) : Rat) = (k : Rat) + 1 := by simp
    rw [List.replicate_succ, worth_cons, ih, e]
    grind
def highOf (n j : Int) : Q2 := lowP (lmost n j).1 ((lmost n j).2 * j)
def restOf (n j m : Int) : Q2 := lowP (-(highOf n j).1 * j) ((highOf n j).2 * m)
theorem lmost_ok' {n j : Int} (h1 : 1 ≤ j) (h2 : j ≤ n) (h3 : n ≤ 24) : Ok 168 (lmost n j) := (lmost_ok (k := j) h1 (by omega) _ (by omega)).mono (by omega)
theorem bd5 {x : Int} (h1 : 0 ≤ x) (h2 : x ≤ 24) : Bd 5 x := Bd.of (m := 25) (by omega) (by omega) (by decide)
theorem high_ok {n j : Int} (h1 : 1 ≤ j) (h2 : j ≤ n) (h3 : n ≤ 24) : Ok 173 (highOf n j) ∧ Low (highOf n j).1 (highOf n j).2 := by
  have o := lmost_ok' h1 h2 h3
  have hp : 0 < (lmost n j).2 * j := Int.mul_pos o.pos (by omega)
  exact ⟨lowP_ok hp (o.top.mono (by omega)) (o.bot.mul (bd5 (by omega) (by omega))), lowP_low hp⟩
theorem rest_ok {n j m : Int} (h1 : 1 ≤ j) (h2 : j ≤ n) (h3 : n ≤ 24) (h4 : 1 ≤ m) (h5 : m ≤ 24) : Ok 178 (restOf n j m) ∧ Low (restOf n j m).1 (restOf n j m).2 := by
  have o := (high_ok h1 h2 h3).1
  have hp : 0 < (highOf n j).2 * m := Int.mul_pos o.pos (by omega)
  exact ⟨lowP_ok hp (o.top.neg.mul (bd5 (by omega) (by omega))) (o.bot.mul (bd5 (by omega) h5)), lowP_low hp⟩
theorem rest_val {n j m : Int} (h1 : 1 ≤ j) (h2 : j ≤ n) (h3 : n ≤ 24) (h4 : 1 ≤ m) : val (restOf n j m) * (m : Rat) = -(val (highOf n j) * (j : Rat)) := by
  have o := (high_ok h1 h2 h3).1
  have hp : 0 < (highOf n j).2 * m := Int.mul_pos o.pos (by omega)
  unfold restOf
  rw [val_low hp]
  unfold val
  have e1 := r_ne o.pos
  have e2 := r_ne (a := m) (by omega)
  rw [Rat.intCast_mul, Rat.intCast_mul, Rat.intCast_neg]
  grind
theorem high_all {n : Int} (h1 : 1 ≤ n) : val (highOf n n) = 0 := by
  have e : lmost n n = (0, 1) := by
    unfold lmost
    rw [show (n + 1 - (n + 1)).toNat = 0 by omega]
    rfl
  unfold highOf
  rw [e, val_low (by show (0 : Int) < 1 * n; omega)]
  show ((0 : Int) : Rat) / _ = 0
  rw [Rat.intCast_zero]
  grind
theorem AllOk.app {n : Nat} {xs ys : List Q2} (h : AllOk n xs) (k : AllOk n ys) : AllOk n (xs ++ ys) := fun x hx => by
  rcases List.mem_append.1 hx with z | z
  · exact h x z
  · exact k x z
theorem AllOk.rep {n k : Nat} {x : Q2} (h : Ok n x ∧ Low x.1 x.2) : AllOk n (List.replicate k x) := fun y hy => by
  rw [(List.mem_replicate.1 hy).2]
  exact h
theorem edge_lags {n j : Nat} {m : Int} (h1 : 1 ≤ j) (h2 : j ≤ n) (h3 : n ≤ 24) (em : m = if (n : Int) - j > 1 then (n : Int) - j else 1) :
    Lags n 178 (List.replicate j (highOf n j) ++ List.replicate (n - j) (restOf n j m)) := by
  have hm1 : 1 ≤ m := by rw [em]; split <;> omega
  have hm2 : m ≤ 24 := by rw [em]; split <;> omega
  have oh := high_ok (n := n) (j := j) (by omega) (by omega) (by omega)
  have or := rest_ok (n := n) (j := j) (m := m) (by omega) (by omega) (by omega) hm1 hm2
  refine ⟨by rw [List.length_append, List.length_replicate, List.length_replicate]; omega, AllOk.app (AllOk.rep ⟨oh.1.mono (by decide), oh.2⟩) (AllOk.rep or), ?_⟩
  rw [worth_app, worth_rep, worth_rep]
  by_cases e : j = n
  · subst e
    rw [high_all (n := (j : Int)) (by omega), Nat.sub_self]
    show _ * (0 : Rat) + ((0 : Nat) : Rat) * _ = 0
    grind
  · have em2 : m = ((n - j : Nat) : Int) := by rw [em]; split <;> omega
    have rv := rest_val (n := n) (j := j) (m := m) (by omega) (by omega) (by omega) hm1
    have c1 : ((m : Int) : Rat) = ((n - j : Nat) : Rat) := by rw [em2]; rfl
    have c2 : (((j : Nat) : Int) : Rat) = (j : Rat) := rfl
    rw [c1, c2] at rv
    grind
theorem move_lags {n N : Nat} {xs : List Q2} {by' : Q2} {i j : Nat} (h : Lags n N xs) (hb : Ok 41 by' ) (hi : i < n) (hj : j < n) :
    Lags n (N + 84) ((xs.set i (addP (itemP xs i) by')).set j (subP (itemP (xs.set i (addP (itemP xs i) by')) j) by')) ∧ AllOk (N + 42) (xs.set i (addP (itemP xs i) by')) := by
  have hl := h.len
  have oi := item_ok h.ok (i := i) (by omega)
  have o1 : AllOk (N + 42) (xs.set i (addP (itemP xs i) by')) := fun x hx => by
    rcases List.mem_or_eq_of_mem_set hx with z | z
    · exact ⟨(h.ok x z).1.mono (by omega), (h.ok x z).2⟩
    · rw [z]
      exact ⟨(addP_ok oi.1 hb).mono (by omega), addP_low oi.1.pos hb.pos⟩
  have hl1 : (xs.set i (addP (itemP xs i) by')).length = n := by rw [List.length_set, hl]
  have oj := item_ok o1 (i := j) (by omega)
  refine ⟨⟨by rw [List.length_set, hl1], fun x hx => ?_, ?_⟩, o1⟩
  · rcases List.mem_or_eq_of_mem_set hx with z | z
    · exact ⟨(o1 x z).1.mono (by omega), (o1 x z).2⟩
    · rw [z]
      exact ⟨(subP_ok oj.1 hb).mono (by omega), sub_low oj.1.pos hb.pos⟩
  · rw [worth_set (item_some (by omega)), worth_set (item_some (by omega)), val_sub oj.1.pos hb.pos, val_add oi.1.pos hb.pos, h.zero]
    grind
theorem turn_lags {n N : Nat} {xs : List Q2} (h : Lags n N xs) (k : Nat) : Lags n N (xs.drop k ++ xs.take k) := by
  have p : (xs.drop k ++ xs.take k).Perm xs := List.perm_append_comm.trans (by rw [List.take_append_drop])
  refine ⟨by rw [p.length_eq, h.len], fun x hx => h.ok x (p.mem_iff.1 hx), ?_⟩
  have := rsum_perm (p.map val)
  unfold worth
  rw [this]
  exact h.zero
end DT
namespace DT
open PySem PySem.Spec PyProof.Rows L2
theorem as_int {F : V → Hp → Prop} {a b : Int} {H : Hp} (e : a = b) (h : F (.int b) H) : F (.int a) H := e ▸ h
theorem cutV_to (us : List V) (n : Nat) (h : n ≤ us.length) : cutV us none (some (n : Int)) = us.take n := by
  unfold cutV
  rw [HT.sIx_none, HT.sIx_nat, List.drop_zero, Nat.sub_zero, Nat.min_eq_left h]
theorem cutV_from (us : List V) (n : Nat) (h : n ≤ us.length) : cutV us (some (n : Int)) none = us.drop n := by
  unfold cutV
  rw [HT.sIx_none, HT.sIx_nat, Nat.min_eq_left h]
  rw [List.take_of_length_le (by rw [List.length_drop]; omega)]
theorem Pps.app {K : PySem.W.Frag} {H : Hp} {vs : List V} {ys : List Q2} (k : Pps K H vs ys) : ∀ {us : List V} {xs : List Q2}, Pps K H us xs → Pps K H (us ++ vs) (xs ++ ys)
  | _, _, .nil => k
  | _, _, .cons g t => .cons g (Pps.app k t)
theorem Pps.take {K : PySem.W.Frag} {H : Hp} : ∀ {us : List V} {xs : List Q2} (n : Nat), Pps K H us xs → Pps K H (us.take n) (xs.take n)
  | _, _, 0, _ => .nil
  | _, _, _ + 1, .nil => .nil
  | _, _, n + 1, .cons g t => .cons g (t.take n)
theorem Pps.drop {K : PySem.W.Frag} {H : Hp} : ∀ {us : List V} {xs : List Q2} (n : Nat), Pps K H us xs → Pps K H (us.drop n) (xs.drop n)
  | _, _, 0, h => h
  | _, _, _ + 1, .nil => .nil
  | _, _, n + 1, .cons _ t => t.drop n
def sp__law_lags (K : PySem.W.Frag) : Sp := fun vs H Q _ => ∃ (n : Nat) (pr : Addr) (rs : List Int), vs = [.int n, .ref pr] ∧ H pr = some (.lst (rs.map V.int)) ∧ 1 ≤ n ∧ n ≤ 24 ∧ 1 + 8 * (n + 1) ≤ rs.length ∧ (∀ r ∈ rs, 0 ≤ r ∧ r < 1000000) ∧
  ∀ H' p xs, Same H H' → H p = none → LP K H' p xs → Lags n 320 xs → Q (.ref p) H'
end DT

namespace DT
open PySem PySem.Spec PyProof.Rows L2
theorem bnd_ok {n : Nat} (hn : n ≤ 24) : ∀ i, i ≤ n → Ok (7 * (i + 1)) (bndF n i)
  | 0, _ => (⟨by decide, by unfold Bd; decide, by unfold Bd; decide⟩ : Ok 7 ((0, 1) : Q2))
  | i + 1, h => by
    have ih := bnd_ok hn i (by omega)
    have o : Ok 6 ((1, ((n - i : Nat) : Int)) : Q2) := ⟨by show (0 : Int) < ((n - i : Nat) : Int); omega, show Bd 6 (1 : Int) by unfold Bd; decide, Bd.of (m := 60) (by show (-60 : Int) < ((n - i : Nat) : Int); omega) (by show ((n - i : Nat) : Int) < 60; omega) (by decide)⟩
    exact (addP_ok ih o).mono (by omega)
def bnds (n i : Nat) : List Q2 := (List.range (i + 1)).map (bndF n)
theorem bnds_succ (n i : Nat) : bnds n (i + 1) = bnds n i ++ [bndF n (i + 1)] := by
  unfold bnds
  rw [List.range_succ, List.map_append]
  rfl
theorem bnds_len (n i : Nat) : (bnds n i).length = i + 1 := by
  unfold bnds
  rw [List.length_map, List.length_range]
theorem bnds_at {n i j : Nat} (h : j ≤ i) : (bnds n i)[j]? = some (bndF n j) := by
  unfold bnds
  rw [List.getElem?_map, List.getElem?_range (by omega)]
  rfl
theorem at_last {xs : List V} {i : Nat} {v : V} (hl : xs.length = i + 1) (h : xs[i]? = some v) : atI xs (-1) = some v := by
  unfold atI ixN
  rw [if_neg (by omega), if_pos (by omega), hl, show (-1 + ((i + 1 : Nat) : Int)).toNat = i by omega]
  exact h
def sp__law_keeps (K : PySem.W.Frag) : Sp := fun vs H Q _ => ∃ (p : Addr) (xs : List Q2), vs = [.ref p] ∧ LP K H p xs ∧ 1 ≤ xs.length ∧ xs.length ≤ 24 ∧ AllOk 354 xs ∧ ∀ H', Same H H' → Q (.bl (keepsB xs)) H'
theorem keeps_no {xs : List Q2} {i : Nat} (hi : i < xs.length) (h : okAt xs i = false) : keepsB xs = false := by
  unfold keepsB
  rw [List.all_eq_false]
  exact ⟨i, List.mem_range.2 hi, by rw [h]; decide⟩
theorem keeps_yes {xs : List Q2} (h : ∀ j, j < xs.length → okAt xs j = true) : keepsB xs = true := by
  unfold keepsB
  rw [List.all_eq_true]
  exact fun i hi => h i (List.mem_range.1 hi)
theorem sumN0 (N : Nat) : Ok ((N + 1) * (0 + 1)) (sumP []) := (⟨by decide, by unfold Bd; decide, by unfold Bd; decide⟩ : Ok 1 (sumP [])).mono (by omega)
def sp_great (K : PySem.W.Frag) : Sp := fun vs H Q _ => ∃ (p : Addr) (xs : List Q2) (k : Nat), vs = [.ref p, .int k] ∧ LP K H p xs ∧ 1 ≤ xs.length ∧ xs.length ≤ 24 ∧ k ≤ xs.length ∧ AllOk 320 xs ∧ ∀ H' r, Same H H' → Pp K H' r (sumP ((fallM xs).take k)) → Q r H'
/-- the sum of a list of any pairs, their size with it -/
def sp_sumN (K : PySem.W.Frag) (C : Q2 → Prop) : Sp := fun vs H Q _ => ∃ (l : Addr) (us : List V) (xs : List Q2) (N : Nat), vs = [.ref l] ∧ SqL K H l us ∧ Pps K H us xs ∧ (∀ x ∈ xs, Ok N x) ∧ (N + 1) * (xs.length + 1) ≤ 8890 ∧ (∀ x ∈ xs, C x) ∧
  ∀ H' r, Same H H' → Pp K H' r (sumP xs) → Ok ((N + 1) * (xs.length + 1)) (sumP xs) → Low (sumP xs).1 (sumP xs).2 → Q r H'
end DT

namespace DT
/-! ### the program's bounds are the law's -/
set_option maxRecDepth 100000 in
theorem most_all : ∀ n : Fin 25, ∀ k : Fin 25, 1 ≤ k.1 → k.1 ≤ n.1 → mostM (n.1 : Int) (k.1 : Int) = mulP (bndF n.1 (n.1 - k.1)) ((k.1 : Int), 1) := by decide +kernel
theorem most_bnd {n k : Nat} (hn : n ≤ 24) (h1 : 1 ≤ k) (h2 : k ≤ n) : mostM (n : Int) (k : Int) = mulP (bndF n (n - k)) ((k : Int), 1) := most_all ⟨n, by omega⟩ ⟨k, by omega⟩ h1 h2
theorem least_all : ∀ n : Fin 25, 1 ≤ n.1 → subP (0, 1) (beforeM (n.1 : Int)) = (1 - (n.1 : Int), (n.1 : Int)) := by decide +kernel
theorem least_eq {n : Nat} (hn : n ≤ 24) (h1 : 1 ≤ n) : subP (0, 1) (beforeM (n : Int)) = (1 - (n : Int), (n : Int)) := least_all ⟨n, by omega⟩ h1
theorem okAt_eq {xs : List Q2} {i : Nat} (hn : xs.length ≤ 24) (hi : i < xs.length) :
    okAt xs i = (!(lessP (mostM (xs.length : Int) ((i + 1 : Nat) : Int)) (sumP ((fallM xs).take (i + 1)))) && !(lessP (itemP (fallM xs) i) (1 - (xs.length : Int), (xs.length : Int)))) := by
  unfold okAt
  rw [most_bnd hn (by omega) (by omega)]
theorem below_one {xs : List Q2} (hp : AllPos xs) (h : (xs.map fun x => lessP x (1 - (xs.length : Int), (xs.length : Int))).any id = true) : keepsB xs = false := by
  rw [List.any_eq_true] at h
  obtain ⟨b, hb, eb⟩ := h
  obtain ⟨x, hx, rfl⟩ := List.mem_map.1 hb
  obtain ⟨perm, _⟩ := fall_all _ xs rfl hp
  obtain ⟨i, hi, e⟩ := List.mem_iff_getElem.1 (perm.mem_iff.2 hx)
  have hfl := fall_len hp
  have e2 : itemP (fallM xs) i = x := by
    have := item_some hi
    rw [List.getElem?_eq_getElem hi, e] at this
    exact (Option.some.inj this).symm
  refine keeps_no (i := i) (by omega) ?_
  unfold okAt
  rw [e2]
  have eb' : lessP x (1 - (xs.length : Int), (xs.length : Int)) = true := eb
  rw [eb']
  simp
theorem below_none {xs : List Q2} (hp : AllPos xs) (h : (xs.map fun x => lessP x (1 - (xs.length : Int), (xs.length : Int))).any id = false) {i : Nat} (hi : i < xs.length) : lessP (itemP (fallM xs) i) (1 - (xs.length : Int), (xs.length : Int)) = false := by
  obtain ⟨perm, _⟩ := fall_all _ xs rfl hp
  have hfl := fall_len hp
  have hm : itemP (fallM xs) i ∈ xs := perm.mem_iff.1 (List.mem_of_getElem? (item_some (by omega)))
  rw [List.any_eq_false] at h
  have := h _ (List.mem_map_of_mem hm)
  simpa using this
theorem sum_step {xs : List Q2} {i : Nat} (hi : i < xs.length) : sumP (xs.take (i + 1)) = addP (sumP (xs.take i)) (itemP xs i) := sumP_take (item_some hi)
end DT

namespace L2
open PySem PySem.Spec PyProof.Rows
/-! ### enumerate(xs, start=lo) -/
/-- the list at a, its items in new pairs with numbers from lo on -/
def ItS (K : PySem.W.Frag) (lo : Int) (a : Addr) : It where
  go := fun i H => ∃ (zs : List V) (z : V), SqL K H a zs ∧ zs[i]? = some z
  yld := fun i H v H' => ∃ T z, v = .ref T ∧ H T = none ∧ H' = upd H T (.tup [.int (lo + ((i : Nat) : Int)), z]) ∧ ∀ zs, SqL K H a zs → zs[i]? = some z
  stop := fun i H => ∃ zs : List V, SqL K H a zs ∧ zs.length = i
theorem turn_enumS {P : Program} {w : World} {K : PySem.W.Frag} {elts : List Expr} {kk : Nat} {tpos : Pos} {lo : Int} (a en li : Addr) (hea : en ≠ a) (hla : a ≠ li) :
    Turn P w K (.Tuple elts kk tpos) (ItS K lo a) [en, li] en (fun i h => (∃ was, IsEnum h en li (lo + ((i : Nat) : Int)) was) ∧ h.IsListIter li a i ∧ en ≠ li) where
  mem := List.mem_cons_self
  obj := by
    rintro i h ⟨⟨was, he⟩, ⟨ob, hob, _, hdt⟩, _⟩ b hb
    rcases List.mem_cons.1 hb with rfl | hb
    · exact ⟨_, he, fun v z => nomatch z⟩
    · rw [List.mem_singleton.1 hb]
      exact ⟨ob, hob, fun v z => by rw [hdt] at z; cases z⟩
  keep := by
    rintro i h h' ⟨⟨was, he⟩, hi, hne⟩ k
    exact ⟨⟨was, k en (List.mem_cons_self) _ he⟩, hi.at fun o z => k li (by simp) o z, hne⟩
  item := by
    intro X hP hw hK hc i pins s σ H E I hf st hg
    subst hP hw hK
    obtain ⟨⟨was, he⟩, hli, hne⟩ := st
    obtain ⟨zs, z, hq, hz⟩ := hg
    obtain ⟨its, rv, pl, _⟩ := I.list hq
    obtain ⟨u, hu, ru⟩ := rv.get hz
    have ilt : i < its.toArray.size := by
      have := (List.getElem?_eq_some_iff.1 hu).1
      simpa using this
    have le1 : en < s.heap.objs.size := Heap.lt_size he
    have le2 : li < s.heap.objs.size := by
      obtain ⟨_, y, _⟩ := hli
      exact Heap.lt_size y
    have hh : X.A.in1.handled = none := I.ok.hd hc
    refine wpAny_pyNext_enum_itemC (Draws.list hh li a hla its.toArray) he ⟨hli, pl.isList⟩ ilt hne (by simp [hne, hea]) fun x h' tk hx ho hst hT hsz hk => ?_
    have ex : u = x := by
      have h1 : its[i]? = some x := by simpa using hx
      rw [hu] at h1
      exact Option.some.inj h1
    subst ex
    refine ⟨_, rfl, wpAny_letOwnedTupleGo_enum (s := { s with heap := h', toks := tk + 1 }) ho fun h2 he2 sb => ?_⟩
    have hT2 : h2.get? s.heap.objs.size = some { cls := .type "tuple", data := .seq #[.int (lo + ((i : Nat) : Int)) tk, u] } := (sb.2 _ (Nat.ne_of_gt le1)).trans hT
    have new : ObjOk X.prog X.w (upd H s.heap.objs.size (.tup [.int (lo + ((i : Nat) : Int)), z])) h2 s.heap.objs.size (.tup [.int (lo + ((i : Nat) : Int)), z]) :=
      ⟨by show 2 ≤ sizeLine; decide, [.int (lo + ((i : Nat) : Int)) tk, u], .cons ⟨_, rfl⟩ (.cons ru .nil), ⟨_, hT2, rfl, _, rfl⟩⟩
    have I1 : Inv X pins σ (upd H s.heap.objs.size (.tup [.int (lo + ((i : Nat) : Int)), z])) { s with heap := h2, toks := tk + 1 } :=
      I.turnedNew (ch := [en, li]) (fun b ob hb y => (sb.2 b (fun e => hb (by simp [e]))).trans (hk b ob (fun e => hb (by simp [e])) (fun e => hb (by simp [e])) y)) hf (Nat.le_refl _) new
    refine ⟨.ref s.heap.objs.size, _, I1, rfl, ⟨_, z, rfl, I.hok.fresh (Nat.le_refl _), rfl, fun ys hy => by rw [I.list_inj hy hq]; exact hz⟩, ⟨⟨u, ?_⟩, hst.1.at fun o y => (sb.2 li (Ne.symm hne)).trans y, hne⟩, fun b hb => ?_⟩
    · rw [show lo + ((i + 1 : Nat) : Int) = lo + ((i : Nat) : Int) + 1 by omega]
      exact he2
    · have lt : b < s.heap.objs.size := by
        rcases List.mem_cons.1 hb with e | e
        · rw [e]; exact le1
        · rw [List.mem_singleton.1 e]; exact le2
      rw [upd_ne (Nat.ne_of_lt lt)]
      exact (hf b hb).1
  done := by
    intro X hP hw hK hc i pins s σ H E I hf st hg
    subst hP hw hK
    obtain ⟨⟨was, he⟩, hli, hne⟩ := st
    obtain ⟨zs, hq, hz⟩ := hg
    obtain ⟨its, rv, pl, _⟩ := I.list hq
    obtain ⟨f0, f1, f2, f3, f4, f5⟩ := hf li (by simp)
    have en' : i = its.toArray.size := by
      have := rv.length
      simp
      omega
    have hh : X.A.in1.handled = none := I.ok.hd hc
    exact wpAny_pyNext_enum_endD (Draws.list hh li a hla its.toArray) he (by rw [← en']; exact ⟨hli, pl.isList⟩) fun h' eb => ⟨rfl, I.turned (t' := s.toks) (fun b o hb z => eb b o hb z) f0 f1 f3 f4 f5⟩
  self := fun A i s Q E st h => by
    obtain ⟨⟨_, he⟩, _⟩ := st
    exact wpAny_pyIter_enum he h
theorem walk_enumS {K : PySem.W.Frag} {a : Addr} {xs : List V} {lo : Int} : Walk (ItS K lo a) xs.length (fun H => SqL K H a xs) (YPair (fun i => some (.int (lo + ((i : Nat) : Int)))) (fun i => xs[i]?)) := by
  refine ⟨fun i _ hi z => ⟨xs, xs[i], z, by simp [hi]⟩, fun _ z => ⟨xs, z, rfl⟩, fun i H v H' _ z y => ?_⟩
  obtain ⟨T, x, e1, e2, e3, e4⟩ := y
  exact ⟨T, _, x, e1, e2, e3, rfl, e4 xs z⟩
theorem callWith_kwT {prog : Program} {w : World} {A : Around} {E : Value → Shared → Prop} {s : Shared} {env : Env} {pos : Pos} {T : String} {e : Expr} {rest : List Expr} {kws : List Keyword} {Q : Value → Shared → Prop}
    (h : wpAny (model prog w) A (spliced (backTo pos (starEach (e :: rest) env))) (fun vs s1 => wpAny (model prog w) A (evalAll ((backToKw pos (keywordEach kws env)).map (·.2)))
      (fun zs s2 => wpAny (model prog w) A (call (.type T) vs (((backToKw pos (keywordEach kws env)).filterMap (·.1)).zip zs)) Q E s2) E s1) E s)
    (he : backTo pos (starEach (e :: rest) env) = (false, eval e env) :: backTo pos (starEach rest env))
    (hpl : (backTo pos (starEach (e :: rest) env)).any (·.1) = false) (hall : (backToKw pos (keywordEach kws env)).all (·.1.isSome) = true) (hno : (backToKw pos (keywordEach kws env)).any (·.1.isNone) = false) :
    wpAny (model prog w) A (callWith pos (.type T) [] (backTo pos (starEach (e :: rest) env)) (backToKw pos (keywordEach kws env))) Q E s := by
  have h2 : wpAny (model prog w) A (evalArgs (.type T) true (backTo pos (starEach (e :: rest) env)) (backToKw pos (keywordEach kws env))) (fun a s1 => wpAny (model prog w) A (call (.type T) ([] ++ a.pos) a.kw) Q E s1) E s := by
    rw [he] at h ⊢
    exact PyProof.Rows.evalArgs_kwB hall h
  unfold callWith
  refine wpAny_bind (wpAny_holding (wpAny_mono h2 (fun a s1 h1 => wpAny_bind (wpAny_standAt ?_)) fun _ _ z => z))
  simp only [hpl, hno, Bool.or_false]
  exact wpAny_bind (wpAny_pure (wpAny_bind (wpAny_mono h1 (fun r s3 h3 => wpAny_bind (wpAny_holding (wpAny_point (wpAny_pure h3)))) fun _ _ z => z)))
def iEnumS (K : PySem.W.Frag) (ta tk : TA) : TI := fun σ H R => ta σ H fun vs H1 => tk σ H1 fun zs H2 => ∃ a xs lo, vs = [.ref a] ∧ zs = [.int lo] ∧ SqL K H2 a xs ∧ -(2 ^ 63) ≤ lo ∧ lo < 2 ^ 63 ∧ R (ItS K lo a) H2
theorem pi_enumS {X : Cx} {e : Expr} {ta tk : TA} {p pos tpos : Pos} {elts : List Expr} {kk : Nat} {kws : List Keyword} (hg : Gl X "enumerate") (hm : X.mg "enumerate" = none) (ha : PA X [e] ta) (hk : PK X kws tk)
    (he : backTo pos (starEach [e] X.env) = (false, eval e X.env) :: backTo pos (starEach [] X.env) := by rfl) (hpl : (backTo pos (starEach [e] X.env)).any (·.1) = false := by rfl)
    (hall : (backToKw pos (keywordEach kws X.env)).all (·.1.isSome) = true := by rfl) (hno : (backToKw pos (keywordEach kws X.env)).any (·.1.isNone) = false := by rfl) (hks : (backToKw pos (keywordEach kws X.env)).filterMap (·.1) = [Str.ofString "start"] := by rfl) :
    PI X (.Tuple elts kk tpos) (.Call (.Name "enumerate" p) [e] kws pos) (iEnumS X.K ta tk) := by
  refine ⟨fun pins s σ H R I h => ?_⟩
  refine wpAny_Call_Name_kw (ld_blt I hg hm boot_enumerate ?_)
  refine callWith_kwT (thn (ha.run pos pins s σ H _ I h) fun us s1 ⟨vs, H1, I1, r1, q1⟩ => thn (hk.run pos pins s1 σ H1 _ I1 q1) fun ws s2 ⟨zs, H2, I2, r2, q2⟩ => ?_) he hpl hall hno
  obtain ⟨a, xs, lo, rfl, rfl, hq, l1, l2, q⟩ := q2
  rw [hks]
  cases r1 with
  | cons r rr =>
    cases rr
    cases r
    cases r2 with
    | cons r' rr' =>
      cases rr'
      obtain ⟨tok, rfl⟩ := r'
      obtain ⟨its, rv, pl, _⟩ := I2.list hq
      refine enum_begins_start (begins_list a its.toArray) pl.isList l1 l2 fun h' hen hli hsz hkp => wpAny_pyIter_enum hen ?_
      have I3 : Inv X pins σ H2 { s2 with heap := h' } := I2.kept (t' := s2.toks) hkp
      have lta : a < s2.heap.objs.size := by
        obtain ⟨_, y, _⟩ := pl.isList
        exact Heap.lt_size y
      refine ⟨s2.heap.objs.size + 1, [s2.heap.objs.size + 1, s2.heap.objs.size], _, _, H2, rfl, I3, turn_enumS a (s2.heap.objs.size + 1) s2.heap.objs.size (Nat.ne_of_gt (Nat.lt_succ_of_lt lta)) (Nat.ne_of_lt lta), ⟨⟨.none, by rw [show lo + ((0 : Nat) : Int) = lo by omega]; exact hen⟩, ⟨_, hli, rfl, rfl⟩, Nat.succ_ne_self _⟩, fun b hb => ?_, q⟩
      have ge : s2.heap.objs.size ≤ b := by
        rcases List.mem_cons.1 hb with z | z
        · rw [z]
          exact Nat.le_add_right _ _
        · rw [List.mem_singleton.1 z]
          exact Nat.le_refl _
      exact I2.fpOk ge (I2.hok.fresh ge)
end L2

namespace DT
theorem nought_in {n : Nat} {xs : List Q2} (h : AllOk n xs) (h1 : 1 ≤ xs.length) (h2 : xs.length < 24) (f : Nat) (k : keepsB xs = true) : keepsB (xs.take f ++ [(0, 1)] ++ xs.drop f) = true := by
  have kx := (keepsB_iff h.pos).1 k
  have hp : AllPos (xs.take f ++ [(0, 1)] ++ xs.drop f) := fun x hx => by
    rcases List.mem_append.1 hx with z | z
    · rcases List.mem_append.1 z with z | z
      · exact h.pos x (List.mem_of_mem_take z)
      · rw [List.mem_singleton.1 z]
        decide
    · exact h.pos x (List.mem_of_mem_drop z)
  refine (keepsB_iff hp).2 ?_
  have nk := nought_keeps kx (by rw [List.length_map]; exact h2) (by rw [List.length_map]; exact h1)
  refine nk.perm ?_
  have e : (0 : Rat) :: xs.map val = ((0, 1) :: (xs.take f ++ xs.drop f)).map val := by
    rw [List.map_cons, val_zero', List.take_append_drop]
  rw [e]
  refine List.Perm.map val ?_
  rw [List.append_assoc]
  exact List.perm_middle.symm
theorem nought_ok {n : Nat} {xs : List Q2} (h : AllOk n xs) (hn : 1 ≤ n) (f : Nat) : AllOk n (xs.take f ++ [(0, 1)] ++ xs.drop f) := fun x hx => by
  rcases List.mem_append.1 hx with z | z
  · rcases List.mem_append.1 z with z | z
    · exact h x (List.mem_of_mem_take z)
    · rw [List.mem_singleton.1 z]
      exact ⟨(⟨by decide, by unfold Bd; decide, by unfold Bd; decide⟩ : Ok 1 ((0, 1) : Q2)).mono hn, ⟨by decide, rfl⟩⟩
  · exact h x (List.mem_of_mem_drop z)
end DT

namespace DT
open PySem PySem.Spec PyProof.Rows L2
def topS (i : Nat) : Stmt := PySem.Challenge.pw_ditchturn_k14_whole_a_nought_behind.main.body.getD i (.Pass ⟨0, 0, 0, 0⟩)
abbrev s__law_low : Stmt := topS 18
abbrev N__law_low : List Str := ["_law_top", "_law_bottom", "_law_one", "_law_other"]
theorem sc__law_low : FnScope N__law_low ["_law_top", "_law_bottom"] (defScope s__law_low) := ⟨rfl, rfl, rfl, by decide +kernel, rfl, by decide +kernel, by decide +kernel⟩
abbrev s__law_add : Stmt := topS 19
abbrev N__law_add : List Str := ["_law_a", "_law_b"]
theorem sc__law_add : FnScope N__law_add ["_law_a", "_law_b"] (defScope s__law_add) := ⟨rfl, rfl, rfl, by decide +kernel, rfl, by decide +kernel, by decide +kernel⟩
abbrev s__law_sub : Stmt := topS 20
abbrev N__law_sub : List Str := ["_law_a", "_law_b"]
theorem sc__law_sub : FnScope N__law_sub ["_law_a", "_law_b"] (defScope s__law_sub) := ⟨rfl, rfl, rfl, by decide +kernel, rfl, by decide +kernel, by decide +kernel⟩
abbrev s__law_mul : Stmt := topS 21
abbrev N__law_mul : List Str := ["_law_a", "_law_b"]
theorem sc__law_mul : FnScope N__law_mul ["_law_a", "_law_b"] (defScope s__law_mul) := ⟨rfl, rfl, rfl, by decide +kernel, rfl, by decide +kernel, by decide +kernel⟩
abbrev s__law_less : Stmt := topS 22
abbrev N__law_less : List Str := ["_law_a", "_law_b"]
theorem sc__law_less : FnScope N__law_less ["_law_a", "_law_b"] (defScope s__law_less) := ⟨rfl, rfl, rfl, by decide +kernel, rfl, by decide +kernel, by decide +kernel⟩
abbrev s__law_most : Stmt := topS 23
abbrev N__law_most : List Str := ["_law_n", "_law_k", "_law_found", "_law_j"]
theorem sc__law_most : FnScope N__law_most ["_law_n", "_law_k"] (defScope s__law_most) := ⟨rfl, rfl, rfl, by decide +kernel, rfl, by decide +kernel, by decide +kernel⟩
abbrev s__law_falling : Stmt := topS 24
abbrev N__law_falling : List Str := ["_law_row", "_law_rest", "_law_found", "_law_at", "_law_k"]
theorem sc__law_falling : FnScope N__law_falling ["_law_row"] (defScope s__law_falling) := ⟨rfl, rfl, rfl, by decide +kernel, rfl, by decide +kernel, by decide +kernel⟩
abbrev s__law_keeps : Stmt := topS 25
abbrev N__law_keeps : List Str := ["_law_lags_here", "_law_n", "_law_bounds", "_law_j", "_law_so_far", "_law_k", "_law_lag"]
theorem sc__law_keeps : FnScope N__law_keeps ["_law_lags_here"] (defScope s__law_keeps) := ⟨rfl, rfl, rfl, by decide +kernel, rfl, by decide +kernel, by decide +kernel⟩
abbrev s__law_many_fields : Stmt := topS 29
abbrev N__law_many_fields : List Str := ["_law_one", "_law_top"]
theorem sc__law_many_fields : FnScope N__law_many_fields ["_law_one", "_law_top"] (defScope s__law_many_fields) := ⟨rfl, rfl, rfl, by decide +kernel, rfl, by decide +kernel, by decide +kernel⟩
abbrev s__law_first : Stmt := topS 27
abbrev N__law_first : List Str := ["_law_row", "_law_at", "_law_k"]
theorem sc__law_first : FnScope N__law_first ["_law_row"] (defScope s__law_first) := ⟨rfl, rfl, rfl, by decide +kernel, rfl, by decide +kernel, by decide +kernel⟩
abbrev s__law_shares : Stmt := topS 26
abbrev N__law_shares : List Str := ["_law_row", "_law_n", "_law_weights", "_law_whole", "_law_one", "_law_weight"]
theorem sc__law_shares : FnScope N__law_shares ["_law_row", "_law_n"] (defScope s__law_shares) := ⟨rfl, rfl, rfl, by decide +kernel, rfl, by decide +kernel, by decide +kernel⟩
abbrev s__law_hour : Stmt := topS 28
abbrev N__law_hour : List Str := ["_law_lags_here", "_law_shares_here", "_law_row", "_law_at", "_law_lag", "_law_share"]
theorem sc__law_hour : FnScope N__law_hour ["_law_lags_here", "_law_shares_here"] (defScope s__law_hour) := ⟨rfl, rfl, rfl, by decide +kernel, rfl, by decide +kernel, by decide +kernel⟩
abbrev s__law_lived : Stmt := topS 30
abbrev N__law_lived : List Str := ["_law_n", "_law_row", "_law_hours", "_law_k", "_law_lags_here"]
theorem sc__law_lived : FnScope N__law_lived ["_law_n", "_law_row", "_law_hours"] (defScope s__law_lived) := ⟨rfl, rfl, rfl, by decide +kernel, rfl, by decide +kernel, by decide +kernel⟩
abbrev s__law_lags : Stmt := topS 31
abbrev N__law_lags : List Str := ["_law_n", "_law_row", "_law_lags_here", "_law_j", "_law_high", "_law_rest", "_law_at", "_law_to", "_law_by", "_law_k"]
theorem sc__law_lags : FnScope N__law_lags ["_law_n", "_law_row"] (defScope s__law_lags) := ⟨rfl, rfl, rfl, by decide +kernel, rfl, by decide +kernel, by decide +kernel⟩
abbrev s_common : Stmt := topS 1
abbrev N_common : List Str := ["a", "b"]
theorem sc_common : FnScope N_common ["a", "b"] (defScope s_common) := ⟨rfl, rfl, rfl, by decide +kernel, rfl, by decide +kernel, by decide +kernel⟩
abbrev s_lowest : Stmt := topS 2
abbrev N_lowest : List Str := ["top", "bottom", "shared"]
theorem sc_lowest : FnScope N_lowest ["top", "bottom"] (defScope s_lowest) := ⟨rfl, rfl, rfl, by decide +kernel, rfl, by decide +kernel, by decide +kernel⟩
abbrev s_plus : Stmt := topS 3
abbrev N_plus : List Str := ["a", "b", "shared", "rest", "top", "again"]
theorem sc_plus : FnScope N_plus ["a", "b"] (defScope s_plus) := ⟨rfl, rfl, rfl, by decide +kernel, rfl, by decide +kernel, by decide +kernel⟩
abbrev s_times : Stmt := topS 5
abbrev N_times : List Str := ["a", "b"]
theorem sc_times : FnScope N_times ["a", "b"] (defScope s_times) := ⟨rfl, rfl, rfl, by decide +kernel, rfl, by decide +kernel, by decide +kernel⟩
abbrev s_total : Stmt := topS 6
abbrev N_total : List Str := ["row", "result", "part"]
theorem sc_total : FnScope N_total ["row"] (defScope s_total) := ⟨rfl, rfl, rfl, by decide +kernel, rfl, by decide +kernel, by decide +kernel⟩
abbrev s_minus : Stmt := topS 4
abbrev N_minus : List Str := ["a", "b"]
theorem sc_minus : FnScope N_minus ["a", "b"] (defScope s_minus) := ⟨rfl, rfl, rfl, by decide +kernel, rfl, by decide +kernel, by decide +kernel⟩
abbrev s_below : Stmt := topS 7
abbrev N_below : List Str := ["a", "b"]
theorem sc_below : FnScope N_below ["a", "b"] (defScope s_below) := ⟨rfl, rfl, rfl, by decide +kernel, rfl, by decide +kernel, by decide +kernel⟩
abbrev s_unit_sum : Stmt := topS 9
abbrev N_unit_sum : List Str := ["first", "last", "number"]
theorem sc_unit_sum : FnScope N_unit_sum ["first", "last"] (defScope s_unit_sum) := ⟨rfl, rfl, rfl, by decide +kernel, rfl, by decide +kernel, by decide +kernel⟩
abbrev s_before : Stmt := topS 10
abbrev N_before : List Str := ["many"]
theorem sc_before : FnScope N_before ["many"] (defScope s_before) := ⟨rfl, rfl, rfl, by decide +kernel, rfl, by decide +kernel, by decide +kernel⟩
abbrev s_most : Stmt := topS 11
abbrev N_most : List Str := ["many", "k"]
theorem sc_most : FnScope N_most ["many", "k"] (defScope s_most) := ⟨rfl, rfl, rfl, by decide +kernel, rfl, by decide +kernel, by decide +kernel⟩
abbrev s_turn_of : Stmt := topS 13
abbrev N_turn_of : List Str := ["row", "place", "at", "part"]
theorem sc_turn_of : FnScope N_turn_of ["row"] (defScope s_turn_of) := ⟨rfl, rfl, rfl, by decide +kernel, rfl, by decide +kernel, by decide +kernel⟩
abbrev s_by_size : Stmt := topS 14
abbrev N_by_size : List Str := ["lags", "rest", "row"]
theorem sc_by_size : FnScope N_by_size ["lags"] (defScope s_by_size) := ⟨rfl, rfl, rfl, by decide +kernel, rfl, by decide +kernel, by decide +kernel⟩
abbrev s_keeps : Stmt := topS 15
abbrev N_keeps : List Str := ["lags", "many", "least", "lag", "together", "k"]
theorem sc_keeps : FnScope N_keeps ["lags"] (defScope s_keeps) := ⟨rfl, rfl, rfl, by decide +kernel, rfl, by decide +kernel, by decide +kernel⟩
abbrev s__law_flow : Stmt := topS 17
abbrev N__law_flow : List Str := ["_law_script", "_law_many", "_law_great", "_law_row", "_law_k", "_law_cell", "_law_mixed"]
theorem sc__law_flow : FnScope N__law_flow ["_law_script", "_law_many"] (defScope s__law_flow) := ⟨rfl, rfl, rfl, by decide +kernel, rfl, by decide +kernel, by decide +kernel⟩
abbrev s_law : Stmt := topS 32
abbrev N_law : List Str := ["_law_script", "_law_row", "_law_n", "_law_lags_here", "_law_at", "_law_longer", "_law_first_here", "_law_other"]
theorem sc_law : FnScope N_law ["_law_script"] (defScope s_law) := ⟨rfl, rfl, rfl, by decide +kernel, rfl, by decide +kernel, by decide +kernel⟩
section
variable {P : Program} {w : World} {K : PySem.W.Frag} {mg : Str → Option Value} {base : Heap}
theorem ok__law_low {k : Nat} (D : Df K mg "_law_low" s__law_low ["_law_top", "_law_bottom"]) (m_abs : mg "abs" = none) : FnOk P w K mg base CX0 (k + 1) D.f D.fd ["_law_top", "_law_bottom"] (sp_lowest K) := by
  refine D.F.ok sc__law_low (fun vs H Q E h => ?_) (fun cdv A outer s H vs Q E hr h => ?_)
  · obtain ⟨a, b, rfl, _⟩ := h
    rfl
  · obtain ⟨a, b, rfl, hb, hB, q⟩ := h
    refine ⟨_, (pss_cons (ps_set (i := 2) sc__law_low.nd rfl (.inl rfl) (pe_callB call_abs (by rfl) m_abs boot_abs (pa_cons (pv 0) pa_nil)))
      (pss_cons (ps_set (i := 3) sc__law_low.nd rfl (.inl rfl) (pv 1))
      (pss_cons (ps_while PassesOwn.never (pt_cmpR op_gt (pv 3) pe_int (nomark _)) (pss_one (ps_par (i := 2) (j := 3) (by rfl) sc__law_low.nd rfl rfl (by decide) rfl rfl (pa_cons (pv 3) (pa_cons (pe_op op_mod (pv 2) (pv 3)) pa_nil)) (by rfl))))
      (pss_one (ps_ret (pe_tup (pa_cons (pe_op op_fdivW (pv 0) (pv 2)) (pa_cons (pe_op op_fdivW (pv 1) (pv 2)) pa_nil)))))))), ?_⟩
    refine ⟨_, rfl, _, rfl, ?_⟩
    refine ⟨_, rfl, ?_⟩
    refine while_by (fun σ H' => ∃ x y : Int, σ = [some (.int a), some (.int b), some (.int x), some (.int y)] ∧ H' = H ∧ 0 ≤ y ∧ Int.gcd x y = Int.gcd a b ∧ (y = 0 → 0 ≤ x))
      (fun σ _ => match σ with | [_, _, _, some (.int y)] => y.toNat | _ => 0) ⟨_, b, rfl, rfl, by omega, gc_abs a b, by omega⟩ ?_ ?_
    · rintro σ H' ⟨x, y, rfl, rfl, h0, hg, hz⟩
      refine ⟨_, rfl, _, _, rfl, rfl, _, rfl, ite2 (fun e => ?_) (fun e => ?_)⟩
      · have e1 : 0 < y := of_decide_eq_true e
        refine ⟨_, rfl, _, rfl, _, rfl, _, _, rfl, rfl, e1, _, _, rfl, ⟨y, x % y, rfl, rfl, Int.emod_nonneg x (by omega), gc_step.trans hg, fun _ => by omega⟩, ?_⟩
        show (x % y).toNat < y.toNat
        have := Int.emod_lt_of_pos x e1
        have := Int.emod_nonneg x (show y ≠ 0 by omega)
        omega
      · have e1 : ¬ 0 < y := fun z => e (decide_eq_true z)
        have e2 : y = 0 := by omega
        subst e2
        have e3 : x = gc a b := by
          unfold gc
          rw [← hg, Int.gcd_zero]
          have := hz rfl
          omega
        subst e3
        have hg := gc_pos (a := a) hb
        have hk := hB.gc (x := a) hb
        refine ⟨_, rfl, _, rfl, _, _, rfl, rfl, bd_divok hg hk (by decide), _, rfl, _, rfl, _, _, rfl, rfl, bd_divok hg hk (by decide), (by show 2 ≤ sizeLine; decide), fun p hp => ?_⟩
        exact q _ _ (same_upd hp) Pr.new
    · rintro σ H' Q1 Q2 hq ⟨v, e, i, j, e1, e2, c, e3, r⟩
      exact ⟨v, e, i, j, e1, e2, c, e3, hq _ _ r⟩

theorem ok__law_add {k : Nat} (D : Df K mg "_law_add" s__law_add ["_law_a", "_law_b"]) (D__law_low : Df K mg "_law_low" s__law_low ["_law_top", "_law_bottom"]) (m_abs : mg "abs" = none) : FnOk P w K mg base CX0 (k + 2) D.f D.fd ["_law_a", "_law_b"] (sp_two K anyC addP) := by
  have G__law_low : FnOk P w K mg base CX0 1 D__law_low.f D__law_low.fd ["_law_top", "_law_bottom"] (sp_lowest K) := ok__law_low D__law_low m_abs
  refine D.F.ok sc__law_add (fun vs H Q E h => len_two h) (fun cdv A outer s H vs Q E hr h => ?_)
  obtain ⟨v, u, x, y, n, m, rfl, ⟨p, rfl, hp⟩, ⟨r, rfl, hq⟩, ox, oy, hn, _, q⟩ := h
  refine ⟨_, (pss_one (ps_ret (pe_call G__law_low (hr.mono (by omega)) (by rfl) D__law_low.g D__law_low.F.kp D__law_low.b .nil pass0 (pa_cons (pe_op op_add (pe_op op_mulW (pe_ix ix_tup (pv 0) pe_int (fun _ _ => rfl)) (pe_ix ix_tup (pv 1) pe_int (fun _ _ => rfl))) (pe_op op_mulW (pe_ix ix_tup (pv 1) pe_int (fun _ _ => rfl)) (pe_ix ix_tup (pv 0) pe_int (fun _ _ => rfl)))) (pa_cons (pe_op op_mulW (pe_ix ix_tup (pv 0) pe_int (fun _ _ => rfl)) (pe_ix ix_tup (pv 1) pe_int (fun _ _ => rfl))) pa_nil))))), ?_⟩
  refine ⟨_, rfl, p, _, 0, _, rfl, rfl, hp, rfl, _, rfl, r, _, 1, _, rfl, rfl, hq, rfl, _, _, rfl, rfl, bd_mulok ox.top oy.bot (by omega), ?_⟩
  refine ⟨_, rfl, r, _, 0, _, rfl, rfl, hq, rfl, _, rfl, p, _, 1, _, rfl, rfl, hp, rfl, _, _, rfl, rfl, bd_mulok oy.top ox.bot (by omega), _, _, rfl, rfl, ?_⟩
  refine ⟨_, rfl, p, _, 1, _, rfl, rfl, hp, rfl, _, rfl, r, _, 1, _, rfl, rfl, hq, rfl, _, _, rfl, rfl, bd_mulok ox.bot oy.bot (by omega), ?_⟩
  exact ⟨_, _, rfl, Int.mul_pos ox.pos oy.pos, (ox.bot.mul oy.bot).mono (by omega), fun H' r' sm pr => q _ _ sm pr⟩

theorem ok__law_sub {k : Nat} (D : Df K mg "_law_sub" s__law_sub ["_law_a", "_law_b"]) (D__law_low : Df K mg "_law_low" s__law_low ["_law_top", "_law_bottom"]) (m_abs : mg "abs" = none) : FnOk P w K mg base CX0 (k + 2) D.f D.fd ["_law_a", "_law_b"] (sp_two K anyC subP) := by
  have G__law_low : FnOk P w K mg base CX0 1 D__law_low.f D__law_low.fd ["_law_top", "_law_bottom"] (sp_lowest K) := ok__law_low D__law_low m_abs
  refine D.F.ok sc__law_sub (fun vs H Q E h => len_two h) (fun cdv A outer s H vs Q E hr h => ?_)
  obtain ⟨v, u, x, y, n, m, rfl, ⟨p, rfl, hp⟩, ⟨r, rfl, hq⟩, ox, oy, hn, _, q⟩ := h
  refine ⟨_, (pss_one (ps_ret (pe_call G__law_low (hr.mono (by omega)) (by rfl) D__law_low.g D__law_low.F.kp D__law_low.b .nil pass0 (pa_cons (pe_op op_sub (pe_op op_mulW (pe_ix ix_tup (pv 0) pe_int (fun _ _ => rfl)) (pe_ix ix_tup (pv 1) pe_int (fun _ _ => rfl))) (pe_op op_mulW (pe_ix ix_tup (pv 1) pe_int (fun _ _ => rfl)) (pe_ix ix_tup (pv 0) pe_int (fun _ _ => rfl)))) (pa_cons (pe_op op_mulW (pe_ix ix_tup (pv 0) pe_int (fun _ _ => rfl)) (pe_ix ix_tup (pv 1) pe_int (fun _ _ => rfl))) pa_nil))))), ?_⟩
  refine ⟨_, rfl, p, _, 0, _, rfl, rfl, hp, rfl, _, rfl, r, _, 1, _, rfl, rfl, hq, rfl, _, _, rfl, rfl, bd_mulok ox.top oy.bot (by omega), ?_⟩
  refine ⟨_, rfl, r, _, 0, _, rfl, rfl, hq, rfl, _, rfl, p, _, 1, _, rfl, rfl, hp, rfl, _, _, rfl, rfl, bd_mulok oy.top ox.bot (by omega), _, _, rfl, rfl, ?_⟩
  refine ⟨_, rfl, p, _, 1, _, rfl, rfl, hp, rfl, _, rfl, r, _, 1, _, rfl, rfl, hq, rfl, _, _, rfl, rfl, bd_mulok ox.bot oy.bot (by omega), ?_⟩
  exact ⟨_, _, rfl, Int.mul_pos ox.pos oy.pos, (ox.bot.mul oy.bot).mono (by omega), fun H' r' sm pr => q _ _ sm pr⟩

theorem ok__law_mul {k : Nat} (D : Df K mg "_law_mul" s__law_mul ["_law_a", "_law_b"]) (D__law_low : Df K mg "_law_low" s__law_low ["_law_top", "_law_bottom"]) (m_abs : mg "abs" = none) : FnOk P w K mg base CX0 (k + 3) D.f D.fd ["_law_a", "_law_b"] (sp_two K anyC mulP) := by
  have G__law_low : FnOk P w K mg base CX0 2 D__law_low.f D__law_low.fd ["_law_top", "_law_bottom"] (sp_lowest K) := ok__law_low D__law_low m_abs
  refine D.F.ok sc__law_mul (fun vs H Q E h => len_two h) (fun cdv A outer s H vs Q E hr h => ?_)
  obtain ⟨v, u, x, y, n, m, rfl, ⟨p, rfl, hp⟩, ⟨r, rfl, hq⟩, ox, oy, hn, _, q⟩ := h
  refine ⟨_, (pss_one (ps_ret (pe_call G__law_low (hr.mono (by omega)) (by rfl) D__law_low.g D__law_low.F.kp D__law_low.b .nil pass0 (pa_cons (pe_op op_mulW (pe_ix ix_tup (pv 0) pe_int (fun _ _ => rfl)) (pe_ix ix_tup (pv 1) pe_int (fun _ _ => rfl))) (pa_cons (pe_op op_mulW (pe_ix ix_tup (pv 0) pe_int (fun _ _ => rfl)) (pe_ix ix_tup (pv 1) pe_int (fun _ _ => rfl))) pa_nil))))), ?_⟩
  refine ⟨_, rfl, p, _, 0, _, rfl, rfl, hp, rfl, _, rfl, r, _, 0, _, rfl, rfl, hq, rfl, _, _, rfl, rfl, bd_mulok ox.top oy.top (by omega), ?_⟩
  refine ⟨_, rfl, p, _, 1, _, rfl, rfl, hp, rfl, _, rfl, r, _, 1, _, rfl, rfl, hq, rfl, _, _, rfl, rfl, bd_mulok ox.bot oy.bot (by omega), ?_⟩
  exact ⟨_, _, rfl, Int.mul_pos ox.pos oy.pos, (ox.bot.mul oy.bot).mono (by omega), fun H' r' sm pr => q _ _ sm pr⟩

def sp_less (K : PySem.W.Frag) : Sp := fun vs H Q _ => ∃ (v u : V) (a b c d : Int) (n : Nat), vs = [v, u] ∧ Pr K H v a b ∧ Pr K H u c d ∧ (Bd n a ∧ Bd n b ∧ Bd n c ∧ Bd n d) ∧ n ≤ 9000 ∧ Q (.bl (decide (a * d < c * b))) H
theorem ok__law_less {k : Nat} (D : Df K mg "_law_less" s__law_less ["_law_a", "_law_b"]) : FnOk P w K mg base CX0 (k + 1) D.f D.fd ["_law_a", "_law_b"] (sp_less K) := by
  refine D.F.ok sc__law_less (fun vs H Q E h => ?_) (fun cdv A outer s H vs Q E hr h => ?_)
  · obtain ⟨v, u, a, b, c, d, n, rfl, _⟩ := h
    rfl
  · obtain ⟨v, u, a, b, c, d, n, rfl, ⟨p, rfl, hp⟩, ⟨r, rfl, hq⟩, ⟨b1, b2, b3, b4⟩, hn, q⟩ := h
    refine ⟨_, (pss_one (ps_ret (pe_cmpR op_lt (pe_op op_mulW (pe_ix ix_tup (pv 0) pe_int (fun _ _ => rfl)) (pe_ix ix_tup (pv 1) pe_int (fun _ _ => rfl))) (pe_op op_mulW (pe_ix ix_tup (pv 1) pe_int (fun _ _ => rfl)) (pe_ix ix_tup (pv 0) pe_int (fun _ _ => rfl))) (nomark _)))), ?_⟩
    refine ⟨_, rfl, p, _, 0, _, rfl, rfl, hp, rfl, _, rfl, r, _, 1, _, rfl, rfl, hq, rfl, _, _, rfl, rfl, bd_mulok b1 b4 (by omega), ?_⟩
    exact ⟨_, rfl, r, _, 0, _, rfl, rfl, hq, rfl, _, rfl, p, _, 1, _, rfl, rfl, hp, rfl, _, _, rfl, rfl, bd_mulok b3 b2 (by omega), _, _, rfl, rfl, q⟩

def sp_lmost (K : PySem.W.Frag) : Sp := fun vs H Q _ => ∃ n k : Int, vs = [.int n, .int k] ∧ (1 ≤ n ∧ n ≤ 24) ∧ (1 ≤ k ∧ k ≤ n) ∧ ∀ H' r, Same H H' → Pp K H' r (lmost n k) → Ok 250 (lmost n k) → Q r H'
theorem ok__law_most {k : Nat} (D : Df K mg "_law_most" s__law_most ["_law_n", "_law_k"]) (D__law_low : Df K mg "_law_low" s__law_low ["_law_top", "_law_bottom"]) (D__law_add : Df K mg "_law_add" s__law_add ["_law_a", "_law_b"]) (m_abs : mg "abs" = none) (m_range : mg "range" = none) : FnOk P w K mg base CX0 (k + 3) D.f D.fd ["_law_n", "_law_k"] (sp_lmost K) := by
  have G__law_add : FnOk P w K mg base CX0 2 D__law_add.f D__law_add.fd ["_law_a", "_law_b"] (sp_two K anyC addP) := ok__law_add D__law_add D__law_low m_abs
  refine D.F.ok sc__law_most (fun vs H Q E h => ?_) (fun cdv A outer s H vs Q E hr h => ?_)
  · obtain ⟨n, k, rfl, _⟩ := h
    rfl
  obtain ⟨n, k, rfl, hn, hk, q⟩ := h
  refine ⟨_, (pss_cons (ps_set (i := 2) sc__law_most.nd rfl (.inl rfl) (pe_tup (pa_cons pe_int (pa_cons pe_int pa_nil))))
      (pss_cons (ps_for PassesOwn.never rfl (pi_range2 (by rfl) m_range (pa_cons (pe_op op_add (pv 1) pe_int) (pa_cons (pe_op op_add (pv 0) pe_int) pa_nil))) (pg_name (i := 3) sc__law_most.nd rfl (.inl rfl)) (pss_one (ps_set (i := 2) sc__law_most.nd rfl (.inl rfl) (pe_call G__law_add (hr.mono (by omega)) (by rfl) D__law_add.g D__law_add.F.kp D__law_add.b .nil pass0 (pa_cons (pv 2) (pa_cons (pe_tup (pa_cons (pv 1) (pa_cons (pv 3) pa_nil))) pa_nil))))))
      (pss_one (ps_ret (pv 2))))), ?_⟩
  refine ⟨(by show 2 ≤ sizeLine; decide), fun t ht => ?_⟩
  refine ⟨_, rfl, _, _, rfl, rfl, _, rfl, _, _, rfl, rfl, _, _, rfl, ⟨by omega, by omega, by omega, by omega⟩, ?_⟩
  refine for_range (n := (n + 1 - (k + 1)).toNat) (fun i σ H3 => ∃ v y3, σ = [some (.int n), some (.int k), some v, y3] ∧ Same H H3 ∧ Pp K H3 v (lmostF k i)) ⟨_, _, rfl, same_upd ht, Pr.new⟩ (fun i σ H3 hi hW => ?_) (fun σ H3 hW => ?_)
  · obtain ⟨v, y3, rfl, sm, pv'⟩ := hW
    have o := lmost_ok (k := k) (by omega) (by omega) i (by omega)
    have o2 : Ok 6 ((k, k + 1 + (i : Int)) : Q2) := ⟨by show (0 : Int) < k + 1 + i; omega, Bd.of (m := 60) (by show (-60 : Int) < k; omega) (by show k < 60; omega) (by decide), Bd.of (m := 60) (by show (-60 : Int) < k + 1 + i; omega) (by show k + 1 + (i : Int) < 60; omega) (by decide)⟩
    refine ⟨_, rfl, _, rfl, _, rfl, (by show 2 ≤ sizeLine; decide), fun t2 ht2 => ?_⟩
    refine ⟨_, _, _, (k, k + 1 + (i : Int)), 7 * (i + 1), 6, rfl, pv'.same (same_upd ht2), Pr.new, o, o2, by omega, True.intro, fun H4 r sm4 pr => ?_⟩
    exact ⟨r, _, rfl, sm.trans ((same_upd ht2).trans sm4), pr⟩
  · obtain ⟨v, y3, rfl, sm, pv'⟩ := hW
    exact ⟨_, rfl, q _ _ sm pv' ((lmost_ok (k := k) (by omega) (by omega) _ (by omega)).mono (by omega))⟩

theorem ok__law_falling {k : Nat} (D : Df K mg "_law_falling" s__law_falling ["_law_row"]) (D__law_less : Df K mg "_law_less" s__law_less ["_law_a", "_law_b"]) (m_range : mg "range" = none) (m_len : mg "len" = none) (m_list : mg "list" = none) : FnOk P w K mg base CX0 (k + 2) D.f D.fd ["_law_row"] (sp_fall K) := by
  have G__law_less : FnOk P w K mg base CX0 1 D__law_less.f D__law_less.fd ["_law_a", "_law_b"] (sp_less K) := ok__law_less D__law_less
  refine D.F.ok sc__law_falling (fun vs H Q E h => ?_) (fun cdv A outer s H vs Q E hr h => ?_)
  · obtain ⟨p, xs, rfl, _⟩ := h
    rfl
  obtain ⟨p, xs, rfl, ⟨us, ep, hP⟩, hn, hx, q⟩ := h
  refine ⟨_, (pss_cons (ps_set (i := 1) sc__law_falling.nd rfl (.inl rfl) (pe_callTy call_list_of (by rfl) m_list PyProof.Rows.boot_list (pa_cons (pv 0) pa_nil)))
      (pss_cons (ps_set (i := 2) sc__law_falling.nd rfl (.inl rfl) (pe_lst pa_nil))
      (pss_cons (ps_while PassesOwn.never (pt_truth (pv 1) (by intro _; rfl)) (pss_cons (ps_set (i := 3) sc__law_falling.nd rfl (.inl rfl) pe_int)
      (pss_cons (ps_for PassesOwn.never rfl (pi_range1 (by rfl) m_range (pa_cons (pe_callB call_len_seq (by rfl) m_len PySem.boot_len (pa_cons (pv 1) pa_nil)) pa_nil)) (pg_name (i := 4) sc__law_falling.nd rfl (.inl rfl)) (pss_one (ps_if (pt_val (pe_call G__law_less (hr.mono (by omega)) (by rfl) D__law_less.g D__law_less.F.kp D__law_less.b .nil pass0 (pa_cons (pe_ix ix_list (pv 1) (pv 3) (fun _ _ => rfl)) (pa_cons (pe_ix ix_list (pv 1) (pv 4) (fun _ _ => rfl)) pa_nil)))) (pss_one (ps_set (i := 3) sc__law_falling.nd rfl (.inl rfl) (pv 4))) pss_nil)))
      (pss_one (ps_expr (pe_bm PySem.F.plainAttrs_list PySem.F.slot_list_append PySem.F.type_list_append mt_append (pv 2) (pa_cons (pe_bm PySem.F.plainAttrs_list PySem.F.slot_list_pop PySem.F.type_list_pop mt_popAt (pv 1) (pa_cons (pv 3) pa_nil)) pa_nil)))))))
      (pss_one (ps_ret (pv 2)))))), ?_⟩
  refine ⟨_, rfl, p, us, rfl, .inl (SqL.of ep), fun pr npr => ?_⟩
  have s1 := same_upd (o := .lst us) npr
  refine ⟨(by show 0 ≤ sizeLine; decide), fun pf npf' => ?_⟩
  have npf : H pf = none := s1.free npf'
  have hne : pr ≠ pf := ne_of_none (upd_same (H := H) (a := pr) (o := .lst us)) npf'
  refine ⟨fallW K H xs pr pf (fun σ => ∃ y3 y4 : Option V, σ = [some (.ref p), some (.ref pr), some (.ref pf), y3, y4]), ⟨_, xs, [], ⟨_, _, rfl⟩, rfl, ⟨us, same_upd npf' _ _ upd_same, (hP.same s1).same (same_upd npf')⟩, ⟨[], upd_same, .nil⟩, rfl, by rw [List.length_nil]; omega, hx, s1.trans (same_upd npf')⟩, fun m σ H' hW => ?_⟩
  obtain ⟨ys, done, ⟨y3, y4, rfl⟩, rfl, ⟨vs, evs, hvs⟩, ⟨ws, ews, hws⟩, hf, hl, hy, sm⟩ := hW
  refine ⟨_, rfl, _, .inl ⟨vs, SqL.of evs, rfl⟩, ite2 (fun e => ?_) (fun e => ?_)⟩
  · have h0 : 0 < ys.length := by
      rw [← hvs.len]
      cases vs with
      | nil => cases e
      | cons => exact Nat.succ_pos _
    have hul := hvs.len
    have ff := firstM_lt h0
    refine ⟨fun σ' H'' => ∃ m', m' < ys.length ∧ fallW K H xs pr pf (fun σ => ∃ y3 y4 : Option V, σ = [some (.ref p), some (.ref pr), some (.ref pf), y3, y4]) m' σ' H'', fun _ _ hN => hN, ?_⟩
    refine ⟨_, rfl, pr, vs, rfl, .inl (SqL.of evs), _, rfl, by omega, by omega, ?_⟩
    refine for_range (n := vs.length) (fun i σ H3 => ∃ y4, σ = [some (.ref p), some (.ref pr), some (.ref pf), some (.int (firstF ys i : Int)), y4] ∧ H3 = H') ⟨_, rfl, rfl⟩ (fun i σ H3 hi hW => ?_) (fun σ H3 hW => ?_)
    · obtain ⟨y2, rfl, rfl⟩ := hW
      have hf := firstF_lt ys i
      have hfl : firstF ys i < ys.length := by omega
      have hil : i < ys.length := by omega
      obtain ⟨v1, g1, p1⟩ := pps_at hvs (item_some hfl)
      obtain ⟨v2, g2, p2⟩ := pps_at hvs (item_some hil)
      have o1 := (item_ok hy hfl).1
      have o2 := (item_ok hy hil).1
      refine ⟨_, rfl, _, rfl, pr, vs, _, v1, rfl, rfl, SqL.of evs, atI_nat g1, _, rfl, _, rfl, pr, vs, _, v2, rfl, rfl, SqL.of evs, at_of (by omega) g2, v1, v2, _, _, _, _, 4000, rfl, p1, p2, ⟨o1.top, o1.bot, o2.top, o2.bot⟩, by decide, _, rfl, ite2 (fun e => ?_) (fun e => ?_)⟩
      · refine ⟨_, rfl, ?_⟩
        refine ⟨some (.int (0 + (i : Int))), ?_, rfl⟩
        have : firstF ys (i + 1) = i := by
          unfold firstF
          exact if_pos e
        rw [this, Int.zero_add]
        rfl
      · refine ⟨some (.int (0 + (i : Int))), ?_, rfl⟩
        have : firstF ys (i + 1) = firstF ys i := by
          show (if lessP (itemP ys (firstF ys i)) (itemP ys i) = true then i else firstF ys i) = _
          exact if_neg e
        rw [this]
        rfl
    · obtain ⟨y4', rfl, rfl⟩ := hW
      rw [hul]
      obtain ⟨v1, g1, p1⟩ := pps_at hvs (item_some ff)
      refine ⟨_, rfl, .inl ⟨rfl, _, SqL.of ews⟩, _, rfl, .inl ⟨rfl, _, SqL.of evs⟩, _, rfl, pr, vs, _, firstM ys, v1, rfl, rfl, evs, by omega, by show ((firstM ys : Nat) : Int) < 2 ^ 63; omega, by rw [hul]; exact six_nat ff, g1, ?_⟩
      have nw : pf ≠ pr := fun z => hne z.symm
      have e2 : upd H3 pr (.lst (vs.eraseIdx (firstM ys))) pf = some (.lst ws) := by rw [upd_ne nw]; exact ews
      have hk : ∀ b o, H3 b = some o → b ≠ pr → upd H3 pr (.lst (vs.eraseIdx (firstM ys))) b = some o := fun b o eb nb => by rw [upd_ne nb]; exact eb
      have hws2 := hws.off hk evs
      have hvs2 := (hvs.erase (firstM ys)).off hk evs
      have p2 := p1.off hk evs
      refine ⟨pf, ws, v1, rfl, rfl, e2, small1000 (by rw [hws.len]; omega), ?_⟩
      have hk2 : ∀ b o, upd H3 pr (.lst (vs.eraseIdx (firstM ys))) b = some o → b ≠ pf → upd (upd H3 pr (.lst (vs.eraseIdx (firstM ys)))) pf (.lst (ws ++ [v1])) b = some o := fun b o eb nb => by rw [upd_ne nb]; exact eb
      refine ⟨(ys.eraseIdx (firstM ys)).length, by rw [List.length_eraseIdx, if_pos ff]; omega, ys.eraseIdx (firstM ys), done ++ [itemP ys (firstM ys)], ⟨_, _, rfl⟩, rfl, ⟨_, by rw [upd_ne hne]; exact upd_same, hvs2.off hk2 e2⟩, ⟨_, upd_same, pps_grow e2 hws2 p2⟩, fall_split hf h0, by rw [List.length_append, List.length_eraseIdx, if_pos ff]; simp; omega, hy.erase _, same_at npf (same_at npr sm)⟩
  · have h0 : ys = [] := by
      have := hvs.len
      cases vs with
      | nil => exact List.length_eq_zero_iff.1 this.symm
      | cons v vs => exact absurd rfl e
    subst h0
    refine ⟨_, rfl, q _ _ sm npf ⟨ws, ews, ?_⟩⟩
    rw [hf, fall_nil, List.append_nil]
    exact hws

theorem ok__law_keeps {k : Nat} (D : Df K mg "_law_keeps" s__law_keeps ["_law_lags_here"]) (D__law_low : Df K mg "_law_low" s__law_low ["_law_top", "_law_bottom"]) (D__law_add : Df K mg "_law_add" s__law_add ["_law_a", "_law_b"]) (D__law_mul : Df K mg "_law_mul" s__law_mul ["_law_a", "_law_b"]) (D__law_less : Df K mg "_law_less" s__law_less ["_law_a", "_law_b"]) (D__law_falling : Df K mg "_law_falling" s__law_falling ["_law_row"])
    (m_abs : mg "abs" = none) (m_range : mg "range" = none) (m_len : mg "len" = none) (m_list : mg "list" = none) : FnOk P w K mg base CX0 (k + 4) D.f D.fd ["_law_lags_here"] (sp__law_keeps K) := by
  have G__law_add : FnOk P w K mg base CX0 3 D__law_add.f D__law_add.fd ["_law_a", "_law_b"] (sp_two K anyC addP) := ok__law_add D__law_add D__law_low m_abs
  have G__law_mul : FnOk P w K mg base CX0 3 D__law_mul.f D__law_mul.fd ["_law_a", "_law_b"] (sp_two K anyC mulP) := ok__law_mul D__law_mul D__law_low m_abs
  have G__law_less : FnOk P w K mg base CX0 3 D__law_less.f D__law_less.fd ["_law_a", "_law_b"] (sp_less K) := ok__law_less D__law_less
  have G__law_falling : FnOk P w K mg base CX0 3 D__law_falling.f D__law_falling.fd ["_law_row"] (sp_fall K) := ok__law_falling D__law_falling D__law_less m_range m_len m_list
  refine D.F.ok sc__law_keeps (fun vs H Q E h => ?_) (fun cdv A outer s H vs Q E hr h => ?_)
  · obtain ⟨p, xs, rfl, _⟩ := h
    rfl
  obtain ⟨p, xs, rfl, lp, h1, h24, hx, q⟩ := h
  obtain ⟨us, eus, hus⟩ := id lp
  refine ⟨_, (pss_cons (ps_set (i := 1) sc__law_keeps.nd rfl (.inl rfl) (pe_callB call_len_seq (by rfl) m_len PySem.boot_len (pa_cons (pv 0) pa_nil)))
      (pss_cons (ps_set (i := 2) sc__law_keeps.nd rfl (.inl rfl) (pe_lst (pa_cons (pe_tup (pa_cons pe_int (pa_cons pe_int pa_nil))) pa_nil)))
      (pss_cons (ps_for PassesOwn.never rfl (pi_range3 (by rfl) m_range (pa_cons (pv 1) (pa_cons pe_int (pa_cons (pe_un un_neg pe_int) pa_nil)))) (pg_name (i := 3) sc__law_keeps.nd rfl (.inl rfl)) (pss_one (ps_expr (pe_bm PySem.F.plainAttrs_list PySem.F.slot_list_append PySem.F.type_list_append mt_append (pv 2) (pa_cons (pe_call G__law_add (hr.mono (by omega)) (by rfl) D__law_add.g D__law_add.F.kp D__law_add.b .nil pass0 (pa_cons (pe_ix ix_list (pv 2) (pe_un un_neg pe_int) (fun _ _ => rfl)) (pa_cons (pe_tup (pa_cons pe_int (pa_cons (pv 3) pa_nil))) pa_nil))) pa_nil)))))
      (pss_cons (ps_set (i := 4) sc__law_keeps.nd rfl (.inl rfl) (pe_tup (pa_cons pe_int (pa_cons pe_int pa_nil))))
      (pss_cons (ps_set (i := 5) sc__law_keeps.nd rfl (.inl rfl) pe_int)
      (pss_cons (ps_for PassesOwn.never rfl (pi_list (pe_call G__law_falling (hr.mono (by omega)) (by rfl) D__law_falling.g D__law_falling.F.kp D__law_falling.b .nil pass0 (pa_cons (pv 0) pa_nil))) (pg_name (i := 6) sc__law_keeps.nd rfl (.inl rfl)) (pss_cons (ps_set (i := 5) sc__law_keeps.nd rfl (.inl rfl) (pe_op op_add (pv 5) pe_int))
      (pss_cons (ps_set (i := 4) sc__law_keeps.nd rfl (.inl rfl) (pe_call G__law_add (hr.mono (by omega)) (by rfl) D__law_add.g D__law_add.F.kp D__law_add.b .nil pass0 (pa_cons (pv 4) (pa_cons (pv 6) pa_nil))))
      (pss_one (ps_if (PW.pt (pw_or (pt_val (pe_call G__law_less (hr.mono (by omega)) (by rfl) D__law_less.g D__law_less.F.kp D__law_less.b .nil pass0 (pa_cons (pe_call G__law_mul (hr.mono (by omega)) (by rfl) D__law_mul.g D__law_mul.F.kp D__law_mul.b .nil pass0 (pa_cons (pe_ix ix_list (pv 2) (pe_op op_sub (pv 1) (pv 5)) (fun _ _ => rfl)) (pa_cons (pe_tup (pa_cons (pv 5) (pa_cons pe_int pa_nil))) pa_nil))) (pa_cons (pv 4) pa_nil)))) (pw_or1 (pt_val (pe_call G__law_less (hr.mono (by omega)) (by rfl) D__law_less.g D__law_less.F.kp D__law_less.b .nil pass0 (pa_cons (pv 6) (pa_cons (pe_tup (pa_cons (pe_op op_sub pe_int (pv 1)) (pa_cons (pv 1) pa_nil))) pa_nil))))))) (pss_one (ps_ret pe_bl)) pss_nil)))))
      (pss_one (ps_ret pe_bl)))))))), ?_⟩
  refine ⟨_, rfl, p, us, rfl, .inl (SqL.of eus), ?_⟩
  rw [hus.len]
  obtain ⟨n, en⟩ : ∃ n, n = xs.length := ⟨_, rfl⟩
  rw [← en]
  rw [← en] at h1 h24
  -- the bounds
  refine ⟨(by show 2 ≤ sizeLine; decide), fun t ht => ?_⟩
  have st := same_upd (o := .tup [.int 0, .int 1]) ht
  refine ⟨(by show 1 ≤ sizeLine; decide), fun pb hpb => ?_⟩
  have sb := same_upd (o := .lst [.ref t]) hpb
  have npb : H pb = none := st.free hpb
  refine ⟨_, rfl, _, rfl, (n : Int), 0, -1, ((n : Int) - 0).toNat, rfl, RgC.neg (by omega) (by omega) (by omega) (by omega), ?_⟩
  have ez : ((n : Int) - 0).toNat = n := by omega
  rw [ez]
  refine for_rangeC (lo := (n : Int)) (c := -1) (n := n) (fun i σ H' => ∃ y3, σ = [some (.ref p), some (.int n), some (.ref pb), y3, none, none, none] ∧ LP K H' pb (bnds n i) ∧ Same H H')
    ⟨_, rfl, ⟨_, upd_same, .cons ((Pr.new (a := 0) (b := 1)).same sb) .nil⟩, st.trans sb⟩ (fun i σ H' hi hW => ?_) (fun σ H1 hW => ?_)
  · obtain ⟨y3, rfl, ⟨ws, ews, hws⟩, sm⟩ := hW
    have hwl := hws.len
    rw [bnds_len] at hwl
    obtain ⟨v, gv, pv'⟩ := pps_at hws (bnds_at (n := n) (i := i) (j := i) (Nat.le_refl _))
    have o1 := bnd_ok h24 i (by omega)
    have ec : (n : Int) + (i : Nat) * (-1 : Int) = ((n - i : Nat) : Int) := by omega
    have o2 : Ok 6 ((1, ((n - i : Nat) : Int)) : Q2) := ⟨by show (0 : Int) < ((n - i : Nat) : Int); omega, show Bd 6 (1 : Int) by unfold Bd; decide, Bd.of (m := 60) (by show (-60 : Int) < ((n - i : Nat) : Int); omega) (by show ((n - i : Nat) : Int) < 60; omega) (by decide)⟩
    rw [ec]
    refine ⟨_, rfl, .inl ⟨rfl, _, SqL.of ews⟩, _, rfl, _, rfl, pb, ws, _, v, rfl, rfl, SqL.of ews, at_last hwl gv, _, rfl, (by show 2 ≤ sizeLine; decide), fun t2 ht2 => ?_⟩
    have st2 := same_upd (o := .tup [.int 1, .int ((n - i : Nat) : Int)]) ht2
    refine ⟨v, .ref t2, _, (1, ((n - i : Nat) : Int)), _, 6, rfl, pv'.same st2, Pr.new, o1, o2, by omega, True.intro, fun H4 v4 s4 p4 => ?_⟩
    have e4 := s4 _ _ (st2 _ _ ews)
    refine ⟨pb, ws, v4, rfl, rfl, e4, small1000 (by omega), _, rfl, ⟨ws ++ [v4], upd_same, ?_⟩, same_at npb (sm.trans (st2.trans s4))⟩
    rw [bnds_succ]
    exact pps_grow e4 ((hws.same st2).same s4) p4
  obtain ⟨y3, rfl, lb, s1⟩ := hW
  -- the sums
  refine ⟨(by show 2 ≤ sizeLine; decide), fun ts hts => ?_⟩
  have sts := same_upd (o := .tup [.int 0, .int 1]) hts
  refine ⟨_, rfl, p, xs, rfl, (lp.same s1).same sts, by omega, hx.mono (by decide), fun H4 pf s4 npf lpf => ?_⟩
  obtain ⟨fs, efs, hfs⟩ := lpf
  have hfl := fall_len hx.pos
  have hfo := fall_ok hx
  refine ⟨pf, rfl, ⟨_, SqL.of efs⟩, ?_⟩
  have lb4 := (lb.same sts).same s4
  have S4 : Same H H4 := s1.trans (sts.trans s4)
  obtain ⟨bs, ebs, hbs⟩ := lb4
  refine for_list (xs := fs) (fun i σ H' => ∃ v y3 y6, σ = [some (.ref p), some (.int n), some (.ref pb), y3, some v, some (.int (i : Int)), y6] ∧ Same H4 H' ∧ Pp K H' v (sumP ((fallM xs).take i)) ∧ Ok (355 * (i + 1)) (sumP ((fallM xs).take i)) ∧ ∀ j, j < i → okAt xs j = true)
    ⟨_, _, _, rfl, Same.refl _, (Pr.new (a := 0) (b := 1)).same s4, sumN0 354, fun j hj => absurd hj (by omega)⟩ (fun i σ H' _ hW => ?_) (fun i z σ H' hz hW => ?_) (fun σ H' hW => ?_)
  · obtain ⟨v, y3, y6, rfl, sm, _⟩ := hW
    exact SqL.of (sm _ _ efs)
  · obtain ⟨v, y3, y6, rfl, sm, pv', ov, hok⟩ := hW
    obtain ⟨x, hx', px⟩ := pps_get hfs hz
    have hi : i < xs.length := by
      rw [← hfl]
      exact (List.getElem?_eq_some_iff.1 hx').1
    have ex : itemP (fallM xs) i = x := by
      have := item_some (xs := fallM xs) (i := i) (by omega)
      rw [hx'] at this
      exact (Option.some.inj this).symm
    have oxx := (hfo x (List.mem_of_getElem? hx')).1
    have es := sumP_take hx'
    refine ⟨_, rfl, _, _, rfl, rfl, ?_⟩
    refine ⟨_, rfl, _, rfl, v, z, _, x, _, 354, rfl, pv', px.same sm, ov, oxx, by omega, True.intro, fun H5 r s5 pr => ?_⟩
    have oso : Ok (355 * (i + 1 + 1)) (sumP ((fallM xs).take (i + 1))) := by
      rw [es]
      exact (addP_ok ov oxx).mono (by omega)
    rw [← es] at pr
    have sm5 := sm.trans s5
    -- bounds[n - k]
    obtain ⟨vb, gb, pvb⟩ := pps_at hbs (bnds_at (n := n) (i := n) (j := n - (i + 1)) (by omega))
    have ob := bnd_ok h24 (n - (i + 1)) (by omega)
    have ok1 : Ok 6 ((((i + 1 : Nat) : Int), 1) : Q2) := ok_n1 (by omega) (by omega)
    refine ⟨_, rfl, _, rfl, _, rfl, _, _, rfl, rfl, pb, bs, _, vb, rfl, rfl, SqL.of (sm5 _ _ ebs), at_of (by omega) gb, _, rfl, (by show 2 ≤ sizeLine; decide), fun t6 ht6 => ?_⟩
    have st6 := same_upd (o := .tup [.int ((i : Int) + 1), .int 1]) ht6
    refine ⟨vb, .ref t6, _, (((i + 1 : Nat) : Int), 1), _, 6, rfl, (pvb.same sm5).same st6, Pr.new, ob, ok1, by omega, True.intro, fun H7 v7 s7 p7 => ?_⟩
    have om := mulP_ok ob ok1
    have pr7 := (Pp.same (x := sumP ((fallM xs).take (i + 1))) pr st6).same s7
    refine ⟨_, rfl, v7, r, _, _, _, _, 8890, rfl, p7, pr7, ⟨om.top.mono (by omega), om.bot.mono (by omega), oso.top.mono (by omega), oso.bot.mono (by omega)⟩, by decide, _, rfl, ite2 (fun e => ?_) (fun e => ?_)⟩
    · refine iteT ?_
      have : keepsB xs = false := keeps_no hi (by
        unfold okAt
        rw [← en]
        have e' : lessP (mulP (bndF n (n - (i + 1))) (((i + 1 : Nat) : Int), 1)) (sumP ((fallM xs).take (i + 1))) = true := e
        rw [e']
        rfl)
      rw [this] at q
      exact q _ (S4.trans (sm5.trans (st6.trans s7)))
    refine ⟨_, rfl, _, rfl, _, _, rfl, rfl, _, rfl, (by show 2 ≤ sizeLine; decide), fun t8 ht8 => ?_⟩
    have st8 := same_upd (o := .tup [.int (1 - (n : Int)), .int (n : Int)]) ht8
    have sm8 := (sm5.trans (st6.trans s7)).trans st8
    refine ⟨z, .ref t8, x.1, x.2, 1 - (n : Int), (n : Int), 354, rfl, px.same sm8, Pr.new, ⟨oxx.top, oxx.bot, (Bd.of (n := 5) (m := 30) (by omega) (by omega) (by decide)).mono (by decide), (Bd.of (n := 5) (m := 30) (by omega) (by omega) (by decide)).mono (by decide)⟩, by decide, _, rfl, ite2 (fun e2 => ?_) (fun e2 => ?_)⟩
    · have : keepsB xs = false := keeps_no hi (by
        unfold okAt
        rw [← en, ex]
        have e' : lessP x (1 - (n : Int), (n : Int)) = true := e2
        rw [e', Bool.and_comm]
        rfl)
      rw [this] at q
      exact q _ (S4.trans sm8)
    · refine ⟨r, _, _, rfl, sm8, pr7.same st8, oso, fun j hj => ?_⟩
      by_cases ej : j = i
      · rw [ej]
        unfold okAt
        rw [← en, ex, Bool.and_eq_true, Bool.not_eq_true', Bool.not_eq_true', ← Bool.not_eq_true, ← Bool.not_eq_true]
        exact ⟨e, e2⟩
      · exact hok j (by omega)
  · obtain ⟨v, y3, y6, rfl, sm, _, _, hok⟩ := hW
    have : keepsB xs = true := keeps_yes fun j hj => hok j (by rw [hfs.len, hfl]; exact hj)
    rw [this] at q
    exact q _ (S4.trans sm)

def sp__law_many_fields : Sp := fun vs H Q _ => ∃ x t : Int, vs = [.int x, .int t] ∧ 1 ≤ t ∧ ∀ n : Int, 1 ≤ n → n ≤ t → Q (.int n) H
theorem ok__law_many_fields {k : Nat} (D : Df K mg "_law_many_fields" s__law_many_fields ["_law_one", "_law_top"]) (m_min : mg "min" = none) : FnOk P w K mg base CX0 (k + 1) D.f D.fd ["_law_one", "_law_top"] sp__law_many_fields := by
  refine D.F.ok sc__law_many_fields (fun vs H Q E h => ?_) (fun cdv A outer s H vs Q E hr h => ?_)
  · obtain ⟨x, t, rfl, _⟩ := h
    rfl
  obtain ⟨x, t, rfl, ht, q⟩ := h
  refine ⟨_, (pss_cons (ps_if (pt_cmpR op_eq (pe_op op_mod (pv 0) pe_int) pe_int (nomark _)) (pss_one (ps_ret (pe_op op_add pe_int (pe_op op_mod (pe_op op_fdivW (pv 0) pe_int) (pv 1))))) pss_nil)
      (pss_one (ps_ret (pe_op op_add pe_int (pe_op op_mod (pe_op op_fdivW (pv 0) pe_int) (pe_callB (call_min2 rfl) (by rfl) m_min (by decide +kernel) (pa_cons (pv 1) (pa_cons pe_int pa_nil)))))))), ?_⟩
  have c4 : ∀ x : Int, CDivW x 4 := fun x => bd_divok (n := 20) (by decide) (by unfold Bd; decide) (by decide)
  refine ⟨_, rfl, _, _, rfl, rfl, (by show (0 : Int) < _; decide), rfl, _, rfl, ite2 (fun e => ?_) (fun e => ?_)⟩
  · have h1 := Int.emod_nonneg (x / 4) (show t ≠ 0 by omega)
    have h2 := Int.emod_lt_of_pos (x / 4) (show 0 < t by omega)
    exact ⟨_, rfl, _, _, rfl, rfl, c4 _, _, rfl, _, _, rfl, rfl, (show 0 < t by omega), _, _, rfl, rfl, q _ (by omega) (by omega)⟩
  · have hm : 0 < (if (5 : Int) < t then 5 else t) := by split <;> omega
    have hm2 : (if (5 : Int) < t then 5 else t) ≤ t := by split <;> omega
    have h1 := Int.emod_nonneg (x / 4) (show (if (5 : Int) < t then 5 else t) ≠ 0 by omega)
    have h2 := Int.emod_lt_of_pos (x / 4) hm
    exact ⟨_, rfl, _, _, rfl, rfl, c4 _, _, rfl, _, _, rfl, _, _, rfl, rfl, hm, _, _, rfl, rfl, q _ (by omega) (by omega)⟩

theorem ok__law_first {k : Nat} (D : Df K mg "_law_first" s__law_first ["_law_row"]) (D__law_less : Df K mg "_law_less" s__law_less ["_law_a", "_law_b"]) (m_range : mg "range" = none) (m_len : mg "len" = none) : FnOk P w K mg base CX0 (k + 2) D.f D.fd ["_law_row"] (sp_first K) := by
  have G__law_less : FnOk P w K mg base CX0 1 D__law_less.f D__law_less.fd ["_law_a", "_law_b"] (sp_less K) := ok__law_less D__law_less
  refine D.F.ok sc__law_first (fun vs H Q E h => ?_) (fun cdv A outer s H vs Q E hr h => ?_)
  · obtain ⟨p, xs, rfl, _⟩ := h
    rfl
  obtain ⟨p, xs, rfl, ⟨us, ep, hP⟩, h0, hn, hx, q⟩ := h
  refine ⟨_, (pss_cons (ps_set (i := 1) sc__law_first.nd rfl (.inl rfl) pe_int)
      (pss_cons (ps_for PassesOwn.never rfl (pi_range1 (by rfl) m_range (pa_cons (pe_callB call_len_seq (by rfl) m_len PySem.boot_len (pa_cons (pv 0) pa_nil)) pa_nil)) (pg_name (i := 2) sc__law_first.nd rfl (.inl rfl)) (pss_one (ps_if (pt_val (pe_call G__law_less (hr.mono (by omega)) (by rfl) D__law_less.g D__law_less.F.kp D__law_less.b .nil pass0 (pa_cons (pe_ix ix_list (pv 0) (pv 1) (fun _ _ => rfl)) (pa_cons (pe_ix ix_list (pv 0) (pv 2) (fun _ _ => rfl)) pa_nil)))) (pss_one (ps_set (i := 1) sc__law_first.nd rfl (.inl rfl) (pv 2))) pss_nil)))
      (pss_one (ps_ret (pv 1))))), ?_⟩
  have hul := hP.len
  refine ⟨_, rfl, p, us, rfl, .inl (SqL.of ep), _, rfl, by omega, by omega, ?_⟩
  refine for_range (n := us.length) (fun i σ H3 => ∃ y2, σ = [some (.ref p), some (.int (firstF xs i : Int)), y2] ∧ H3 = H) ⟨_, rfl, rfl⟩ (fun i σ H3 hi hW => ?_) (fun σ H3 hW => ?_)
  · obtain ⟨y2, rfl, rfl⟩ := hW
    have hf := firstF_lt xs i
    have hfl : firstF xs i < xs.length := by omega
    have hil : i < xs.length := by omega
    obtain ⟨v1, g1, p1⟩ := pps_at hP (item_some hfl)
    obtain ⟨v2, g2, p2⟩ := pps_at hP (item_some hil)
    have o1 := (item_ok hx hfl).1
    have o2 := (item_ok hx hil).1
    refine ⟨_, rfl, _, rfl, p, us, _, v1, rfl, rfl, SqL.of ep, atI_nat g1, _, rfl, _, rfl, p, us, _, v2, rfl, rfl, SqL.of ep, at_of (by omega) g2, v1, v2, _, _, _, _, 4000, rfl, p1, p2, ⟨o1.top, o1.bot, o2.top, o2.bot⟩, by decide, _, rfl, ite2 (fun e => ?_) (fun e => ?_)⟩
    · refine ⟨_, rfl, ?_⟩
      refine ⟨some (.int (0 + (i : Int))), ?_, rfl⟩
      have : firstF xs (i + 1) = i := by
        unfold firstF
        exact if_pos e
      rw [this, Int.zero_add]
      rfl
    · refine ⟨some (.int (0 + (i : Int))), ?_, rfl⟩
      have : firstF xs (i + 1) = firstF xs i := by
        show (if lessP (itemP xs (firstF xs i)) (itemP xs i) = true then i else firstF xs i) = _
        exact if_neg e
      rw [this]
      rfl
  · obtain ⟨y2, rfl, rfl⟩ := hW
    rw [hul]
    exact ⟨_, rfl, q⟩

def sp__law_shares (K : PySem.W.Frag) : Sp := fun vs H Q _ => ∃ (pr : Addr) (rs : List Int) (n : Nat), vs = [.ref pr, .int n] ∧ H pr = some (.lst (rs.map V.int)) ∧ 1 ≤ n ∧ n ≤ 24 ∧ n < rs.length ∧ (∀ r ∈ rs, 0 ≤ r ∧ r < 1000000) ∧
  ∀ H' p ws, Same H H' → H p = none → WsOk n ws → LP K H' p (sharesOf ws) → Q (.ref p) H'
theorem same_free {H H' : Hp} (s : Same H H') {p : Addr} (h : H' p = none) : H p = none := s.free h
theorem ws_in {rs : List Int} {n : Nat} {f : Int → Int} (hb : ∀ r ∈ rs, 0 ≤ r ∧ r < 1000000) (hf : ∀ r : Int, 0 ≤ r → r < 1000000 → 0 ≤ f r ∧ f r < 1000000) : ∀ w ∈ (rs.take n).map f, 0 ≤ w ∧ w < 1000000 := fun w hw => by
  obtain ⟨r, hr, rfl⟩ := List.mem_map.1 hw
  have h := hb r (List.mem_of_mem_take hr)
  exact hf r h.1 h.2
theorem sum_set' {ws : List Int} {j : Nat} {z : Int} (d : Int) (h : ws[j]? = some z) : (ws.set j (z + d)).sum = ws.sum + d := by
  rw [sum_set h]
  omega
theorem ok__law_shares {k : Nat} (D : Df K mg "_law_shares" s__law_shares ["_law_row", "_law_n"]) (D__law_low : Df K mg "_law_low" s__law_low ["_law_top", "_law_bottom"]) (m_abs : mg "abs" = none) (m_int : mg "int" = none) (m_sum : mg "sum" = none) : FnOk P w K mg base CX0 (k + 2) D.f D.fd ["_law_row", "_law_n"] (sp__law_shares K) := by
  have G__law_low : FnOk P w K mg base CX0 1 D__law_low.f D__law_low.fd ["_law_top", "_law_bottom"] (sp_lowest K) := ok__law_low D__law_low m_abs
  refine D.F.ok sc__law_shares (fun vs H Q E h => ?_) (fun cdv A outer s H vs Q E hr h => ?_)
  · obtain ⟨pr, rs, n, rfl, _⟩ := h
    rfl
  obtain ⟨pr, rs, n, rfl, epr, hn1, hn2, hnr, hb, q⟩ := h
  have bn := hb _ (getD_in hnr)
  have c5 : ∀ x : Int, CDivW x 5 := fun x => bd_divok (n := 20) (by decide) (by unfold Bd; decide) (by decide)
  have c131 : ∀ x : Int, CDivW x 131 := fun x => bd_divok (n := 20) (by decide) (by unfold Bd; decide) (by decide)
  refine ⟨_, (pss_cons (ps_setLc (i := 2) (own := [("_law_one", 4)]) (g := gName 4) (tt := tYes) rfl sc__law_shares.nd rfl rfl (sw_true rfl rfl rfl (by decide +kernel)) (pi_list (pe_slice sl_list (pv 0) po_none (po_some (pv 1)))) (blkOk_by (N := N__law_shares) (sc := defScope s__law_shares) (by decide +kernel)) (fun _ _ _ _ _ => pg_name (i := 4) sc__law_shares.nd rfl (Or.inl rfl)) (fun _ _ _ _ _ => pts_nil) (fun _ _ _ _ _ => (pe_op op_mod (pv 4) pe_int)))
      (C8.pss_cut (ps_if (pt_cmpR op_eq (pe_op op_mod (pe_ix ix_list (pv 0) (pv 1) (fun _ _ => rfl)) pe_int) pe_int (nomark _)) (pss_one (ps_setLc (i := 2) (own := [("_law_one", 4)]) (g := gName 4) (tt := tYes) rfl sc__law_shares.nd rfl rfl (sw_true rfl rfl rfl (by decide +kernel)) (pi_list (pe_slice sl_list (pv 0) po_none (po_some (pv 1)))) (blkOk_by (N := N__law_shares) (sc := defScope s__law_shares) (by decide +kernel)) (fun _ _ _ _ _ => pg_name (i := 4) sc__law_shares.nd rfl (Or.inl rfl)) (fun _ _ _ _ _ => pts_nil) (fun _ _ _ _ _ => (pe_op op_mod (pv 4) pe_int)))) pss_nil)
      (C8.pss_cut (ps_if (pt_cmpR op_eq (pe_op op_mod (pe_ix ix_list (pv 0) (pv 1) (fun _ _ => rfl)) pe_int) pe_int (nomark _)) (pss_one (ps_setLc (i := 2) (own := [("_law_one", 4)]) (g := gName 4) (tt := tYes) rfl sc__law_shares.nd rfl rfl (sw_true rfl rfl rfl (by decide +kernel)) (pi_list (pe_slice sl_list (pv 0) po_none (po_some (pv 1)))) (blkOk_by (N := N__law_shares) (sc := defScope s__law_shares) (by decide +kernel)) (fun _ _ _ _ _ => pg_name (i := 4) sc__law_shares.nd rfl (Or.inl rfl)) (fun _ _ _ _ _ => pts_nil) (fun _ _ _ _ _ => (pe_op op_mul (pv 4) (pe_callTy call_int1 (by rfl) m_int PyProof.Rows.boot_int (pa_cons (pe_cmpR op_eq (pe_op op_mod (pv 4) pe_int) pe_int (nomark _)) pa_nil)))))) pss_nil)
      (C8.pss_cut (ps_if (pt_cmpR op_eq (pe_op op_mod (pe_ix ix_list (pv 0) (pv 1) (fun _ _ => rfl)) pe_int) pe_int (nomark _)) (pss_one (ps_setLc (i := 2) (own := [("_law_one", 4)]) (g := gName 4) (tt := tYes) rfl sc__law_shares.nd rfl rfl (sw_true rfl rfl rfl (by decide +kernel)) (pi_list (pe_slice sl_list (pv 0) po_none (po_some (pv 1)))) (blkOk_by (N := N__law_shares) (sc := defScope s__law_shares) (by decide +kernel)) (fun _ _ _ _ _ => pg_name (i := 4) sc__law_shares.nd rfl (Or.inl rfl)) (fun _ _ _ _ _ => pts_nil) (fun _ _ _ _ _ => pe_int))) pss_nil)
      (pss_cons (ps_augS (pv 2) (pe_op op_mod (pe_op op_fdivW (pe_ix ix_list (pv 0) (pv 1) (fun _ _ => rfl)) pe_int) (pv 1)) get_list (pe_op op_add pe_int (pe_op op_mod (pe_op op_fdivW (pe_ix ix_list (pv 0) (pv 1) (fun _ _ => rfl)) pe_int) pe_int)) ip_add set_list)
      (pss_cons (ps_set (i := 3) sc__law_shares.nd rfl (.inr rfl) (pe_callB (cr_sum rfl) (by rfl) m_sum (by decide +kernel) (pa_cons (pv 2) pa_nil)))
      (pss_one (ps_ret (pe_lc (own := [("_law_weight", 5)]) (g := gName 5) (tt := tYes) rfl sc__law_shares.nd (pi_list (pv 2)) (blkOk_by (N := N__law_shares) (sc := defScope s__law_shares) (by decide +kernel)) (fun _ _ _ _ _ => pg_name (i := 5) sc__law_shares.nd rfl (Or.inl rfl)) (fun _ _ _ _ _ => pts_nil) (fun _ _ _ _ _ => (pe_call G__law_low (hr.mono (by omega)) (by rfl) D__law_low.g D__law_low.F.kp D__law_low.b .nil pass0 (pa_cons (pv 5) (pa_cons (pv 3) pa_nil))))))))))))), ?_⟩
  -- the first weights
  refine ⟨_, rfl, _, rfl, _, rfl, pr, _, rfl, SqL.of epr, fun pc hc => ?_⟩
  rw [cut_to rs n (by omega)]
  refine ⟨pc, rfl, ⟨_, SqL.of upd_same⟩, fun Dd hD => ?_⟩
  have nD : H Dd = none := same_free (same_upd hc) hD
  refine lc_list (xs := (rs.take n).map V.int) (fun i H' => H' Dd = some (.lst ((((rs.take n).take i).map (fun r => r % 12)).map V.int)) ∧ Same (upd H pc (.lst ((rs.take n).map V.int))) H') ⟨upd_same, same_upd hD⟩ (fun i H' _ hW => SqL.of (hW.2 _ _ upd_same)) (fun i x H' hx hW => ?_) (fun H6 hW => ?_)
  · obtain ⟨eD, sm⟩ := hW
    obtain ⟨r, hr', rfl⟩ := int_at hx
    refine ⟨rfl, ?_⟩
    dsimp only [tYes]
    rw [if_pos rfl]
    refine ⟨_, rfl, _, _, rfl, rfl, (by show (0 : Int) < _; decide), _, eD, small1000 (by rw [List.length_map, List.length_map, List.length_take, List.length_take]; omega), ?_, same_at hD sm⟩
    rw [upd_same]
    exact congrArg (fun z => some (HO.lst z)) (take_map hr' (fun r => r % 12))
  obtain ⟨eD0, sm0⟩ := hW
  rw [List.length_map, List.take_of_length_le (Nat.le_refl _)] at eD0
  have mid0 : ∃ (pw : Addr) (ws : List Int), H6 pw = some (.lst (ws.map V.int)) ∧ ws.length = n ∧ (∀ w ∈ ws, 0 ≤ w ∧ w < 1000000) ∧ H pw = none ∧ Same H H6 ∧ Dd = pw :=
    ⟨Dd, _, eD0, by rw [List.length_map, List.length_take]; omega, ws_in hb fun r h1 h2 => ⟨Int.emod_nonneg _ (by decide), Int.lt_of_lt_of_le (Int.emod_lt_of_pos _ (by decide)) (by decide)⟩, nD, (same_upd hc).trans sm0, rfl⟩
  obtain ⟨pw, ws, eW, lW, bW, nW, s6, rfl⟩ := mid0
  refine ⟨fun σ H' => ∃ (pw : Addr) (ws : List Int) (y3 y4 y5 : Option V), σ = [some (.ref pr), some (.int n), some (.ref pw), y3, y4, y5] ∧ H' pw = some (.lst (ws.map V.int)) ∧ ws.length = n ∧ (∀ w ∈ ws, 0 ≤ w ∧ w < 1000000) ∧ H pw = none ∧ Same H H', ?_, fun H7σ H7 hm => ?_⟩
  · refine ⟨_, rfl, _, rfl, pr, _, _, _, rfl, rfl, SqL.of (s6 _ _ epr), ls_at hnr, _, _, rfl, rfl, (by show (0 : Int) < _; decide), rfl, _, rfl, ite2 (fun e => ?_) (fun e => ?_)⟩
    · refine ⟨_, rfl, _, rfl, _, rfl, pr, _, rfl, (SqL.of (s6 _ _ epr)), fun pc hc => ?_⟩
      rw [cut_to rs n (by omega)]
      refine ⟨pc, rfl, ⟨_, SqL.of upd_same⟩, fun Dd hD => ?_⟩
      have nD : H6 Dd = none := same_free (same_upd hc) hD
      refine lc_list (xs := (rs.take n).map V.int) (fun i H' => H' Dd = some (.lst ((((rs.take n).take i).map (fun r => r % 2)).map V.int)) ∧ Same (upd H6 pc (.lst ((rs.take n).map V.int))) H') ⟨upd_same, same_upd hD⟩ (fun i H' _ hW => SqL.of (hW.2 _ _ upd_same)) (fun i x H' hx hW => ?_) (fun H' hW => ?_)
      · obtain ⟨eD, sm⟩ := hW
        obtain ⟨r, hr', rfl⟩ := int_at hx
        refine ⟨rfl, ?_⟩
        dsimp only [tYes]
        rw [if_pos rfl]
        refine ⟨_, rfl, _, _, rfl, rfl, (by show (0 : Int) < _; decide), _, eD, small1000 (by rw [List.length_map, List.length_map, List.length_take, List.length_take]; omega), ?_, same_at hD sm⟩
        rw [upd_same]
        exact congrArg (fun z => some (HO.lst z)) (take_map hr' (fun r => r % 2))
      · obtain ⟨eD, sm⟩ := hW
        rw [List.length_map, List.take_of_length_le (Nat.le_refl _)] at eD
        exact ⟨Dd, _, _, _, _, rfl, eD, (by rw [List.length_map, List.length_take]; omega), ws_in hb (fun r h1 h2 => ⟨Int.emod_nonneg _ (by decide), Int.lt_of_lt_of_le (Int.emod_lt_of_pos _ (by decide)) (by decide)⟩), same_free s6 nD, s6.trans ((same_upd hc).trans sm)⟩
    · exact ⟨Dd, ws, _, _, _, rfl, eW, lW, bW, nW, s6⟩
  obtain ⟨pw, ws, y3, y4, y5, rfl, eW, lW, bW, nW, sM⟩ := hm
  refine ⟨fun σ H' => ∃ (pw : Addr) (ws : List Int) (y3 y4 y5 : Option V), σ = [some (.ref pr), some (.int n), some (.ref pw), y3, y4, y5] ∧ H' pw = some (.lst (ws.map V.int)) ∧ ws.length = n ∧ (∀ w ∈ ws, 0 ≤ w ∧ w < 1000000) ∧ H pw = none ∧ Same H H', ?_, fun H8σ H8 hm => ?_⟩
  · refine ⟨_, rfl, _, rfl, pr, _, _, _, rfl, rfl, SqL.of (sM _ _ epr), ls_at hnr, _, _, rfl, rfl, (by show (0 : Int) < _; decide), rfl, _, rfl, ite2 (fun e => ?_) (fun e => ?_)⟩
    · refine ⟨_, rfl, _, rfl, _, rfl, pr, _, rfl, (SqL.of (sM _ _ epr)), fun pc hc => ?_⟩
      rw [cut_to rs n (by omega)]
      refine ⟨pc, rfl, ⟨_, SqL.of upd_same⟩, fun Dd hD => ?_⟩
      have nD : H7 Dd = none := same_free (same_upd hc) hD
      refine lc_list (xs := (rs.take n).map V.int) (fun i H' => H' Dd = some (.lst ((((rs.take n).take i).map (fun r => r * (if decide (V.int (r % 3) = V.int 0) = true then 1 else 0))).map V.int)) ∧ Same (upd H7 pc (.lst ((rs.take n).map V.int))) H') ⟨upd_same, same_upd hD⟩ (fun i H' _ hW => SqL.of (hW.2 _ _ upd_same)) (fun i x H' hx hW => ?_) (fun H' hW => ?_)
      · obtain ⟨eD, sm⟩ := hW
        obtain ⟨r, hr', rfl⟩ := int_at hx
        refine ⟨rfl, ?_⟩
        dsimp only [tYes]
        rw [if_pos rfl]
        refine ⟨_, rfl, _, rfl, _, _, rfl, rfl, (by show (0 : Int) < _; decide), rfl, .inr ⟨_, rfl, _, _, rfl, rfl, .inr ⟨by split <;> decide, by split <;> decide⟩, _, eD, small1000 (by rw [List.length_map, List.length_map, List.length_take, List.length_take]; omega), ?_, same_at hD sm⟩⟩
        rw [upd_same]
        exact congrArg (fun z => some (HO.lst z)) (take_map hr' (fun r => r * (if decide (V.int (r % 3) = V.int 0) = true then 1 else 0)))
      · obtain ⟨eD, sm⟩ := hW
        rw [List.length_map, List.take_of_length_le (Nat.le_refl _)] at eD
        exact ⟨Dd, _, _, _, _, rfl, eD, (by rw [List.length_map, List.length_take]; omega), ws_in hb (fun r h1 h2 => by split <;> omega), same_free sM nD, sM.trans ((same_upd hc).trans sm)⟩
    · exact ⟨pw, ws, _, _, _, rfl, eW, lW, bW, nW, sM⟩
  obtain ⟨pw, ws, y3, y4, y5, rfl, eW, lW, bW, nW, sM⟩ := hm
  refine ⟨fun σ H' => ∃ (pw : Addr) (ws : List Int) (y3 y4 y5 : Option V), σ = [some (.ref pr), some (.int n), some (.ref pw), y3, y4, y5] ∧ H' pw = some (.lst (ws.map V.int)) ∧ ws.length = n ∧ (∀ w ∈ ws, 0 ≤ w ∧ w < 1000000) ∧ H pw = none ∧ Same H H', ?_, fun H9σ H9 hm => ?_⟩
  · refine ⟨_, rfl, _, rfl, pr, _, _, _, rfl, rfl, SqL.of (sM _ _ epr), ls_at hnr, _, _, rfl, rfl, (by show (0 : Int) < _; decide), rfl, _, rfl, ite2 (fun e => ?_) (fun e => ?_)⟩
    · refine ⟨_, rfl, _, rfl, _, rfl, pr, _, rfl, (SqL.of (sM _ _ epr)), fun pc hc => ?_⟩
      rw [cut_to rs n (by omega)]
      refine ⟨pc, rfl, ⟨_, SqL.of upd_same⟩, fun Dd hD => ?_⟩
      have nD : H8 Dd = none := same_free (same_upd hc) hD
      refine lc_list (xs := (rs.take n).map V.int) (fun i H' => H' Dd = some (.lst ((((rs.take n).take i).map (fun _ => 0)).map V.int)) ∧ Same (upd H8 pc (.lst ((rs.take n).map V.int))) H') ⟨upd_same, same_upd hD⟩ (fun i H' _ hW => SqL.of (hW.2 _ _ upd_same)) (fun i x H' hx hW => ?_) (fun H' hW => ?_)
      · obtain ⟨eD, sm⟩ := hW
        obtain ⟨r, hr', rfl⟩ := int_at hx
        refine ⟨rfl, ?_⟩
        dsimp only [tYes]
        rw [if_pos rfl]
        refine ⟨_, eD, small1000 (by rw [List.length_map, List.length_map, List.length_take, List.length_take]; omega), ?_, same_at hD sm⟩
        rw [upd_same]
        exact congrArg (fun z => some (HO.lst z)) (take_map hr' (fun _ => 0))
      · obtain ⟨eD, sm⟩ := hW
        rw [List.length_map, List.take_of_length_le (Nat.le_refl _)] at eD
        exact ⟨Dd, _, _, _, _, rfl, eD, (by rw [List.length_map, List.length_take]; omega), ws_in hb (fun r h1 h2 => ⟨by decide, by decide⟩), same_free sM nD, sM.trans ((same_upd hc).trans sm)⟩
    · exact ⟨pw, ws, _, _, _, rfl, eW, lW, bW, nW, sM⟩
  obtain ⟨pw, ws, y3, y4, y5, rfl, eW, lW, bW, nW, sM⟩ := hm
  -- one of them raised
  have hL9 : SqL K H9 pr (rs.map V.int) := SqL.of (sM _ _ epr)
  have j1 := Int.emod_nonneg (rs.getD n 0 / 5) (show (n : Int) ≠ 0 by omega)
  have j2 := Int.emod_lt_of_pos (rs.getD n 0 / 5) (show (0 : Int) < n by omega)
  obtain ⟨j, hj, hjn⟩ : ∃ j : Nat, rs.getD n 0 / 5 % (n : Int) = (j : Int) ∧ j < n := ⟨(rs.getD n 0 / 5 % (n : Int)).toNat, by omega, by omega⟩
  have hwj : ws[j]? = some (ws.getD j 0) := by
    rw [List.getElem?_eq_getElem (by omega)]
    simp [List.getD, List.getElem?_eq_getElem (show j < ws.length by omega)]
  have bj := bW _ (getD_in (show j < ws.length by omega))
  have d1 := Int.emod_nonneg (rs.getD n 0 / 131) (show (4 : Int) ≠ 0 by decide)
  have d2 := Int.emod_lt_of_pos (rs.getD n 0 / 131) (show (0 : Int) < 4 by decide)
  refine ⟨_, rfl, _, rfl, _, rfl, pr, _, _, _, rfl, rfl, hL9, ls_at hnr, _, _, rfl, rfl, c5 _, _, rfl, _, _, rfl, rfl, (by show (0 : Int) < n; omega), ?_⟩
  refine ⟨pw, _, j, .int (ws.getD j 0), rfl, congrArg V.int hj, SqL.of eW, by rw [List.getElem?_map, hwj]; rfl, ?_⟩
  refine ⟨_, rfl, _, rfl, pr, _, _, _, rfl, rfl, hL9, ls_at hnr, _, _, rfl, rfl, c131 _, _, _, rfl, rfl, (by show (0 : Int) < _; decide), _, _, rfl, rfl, _, _, rfl, rfl, ?_⟩
  refine ⟨pw, _, _, j, rfl, rfl, eW, ?_, ?_⟩
  · rw [hj, List.length_map]
    unfold ixN
    rw [if_pos (by omega), if_pos (by omega), Int.toNat_natCast]
  rw [show (ws.map V.int).set j (V.int (ws.getD j 0 + (1 + rs.getD n 0 / 131 % 4))) = (ws.set j (ws.getD j 0 + (1 + rs.getD n 0 / 131 % 4))).map V.int from by rw [List.map_set]]
  obtain ⟨vs, evs⟩ : ∃ vs, vs = ws.set j (ws.getD j 0 + (1 + rs.getD n 0 / 131 % 4)) := ⟨_, rfl⟩
  rw [← evs]
  have hvs : WsOk n vs := by
    have hb2 : ∀ w ∈ vs, 0 ≤ w ∧ w < 1000005 := by
      intro w hw
      rw [evs] at hw
      rcases List.mem_or_eq_of_mem_set hw with h | h
      · have := bW w h
        omega
      · omega
    have hl : vs.length = n := by rw [evs, List.length_set, lW]
    have hs : vs.sum = ws.sum + (1 + rs.getD n 0 / 131 % 4) := by
      rw [evs]
      exact sum_set' _ hwj
    have h0 := sum_bound (ws := ws) fun w hw => by have := bW w hw; omega
    have h1 := sum_bound hb2
    rw [hl] at h1
    exact ⟨hl, hb2, by omega, h1.2⟩
  obtain ⟨hl, hb2, hs1, hs2⟩ := hvs
  -- their sum
  have s10 : Same H (upd H9 pw (.lst (vs.map V.int))) := same_at nW sM
  refine ⟨_, rfl, pw, vs, rfl, SqL.of upd_same, ?_⟩
  refine ⟨_, rfl, pw, rfl, ⟨_, SqL.of upd_same⟩, fun Dd' hD => ?_⟩
  have nD' : H Dd' = none := same_free s10 hD
  refine lc_list (xs := vs.map V.int) (fun i H' => ∃ us, H' Dd' = some (.lst us) ∧ Pps K H' us ((sharesOf vs).take i) ∧ Same (upd H9 pw (.lst (vs.map V.int))) H') ⟨[], upd_same, .nil, same_upd hD⟩ (fun i H' _ hW => ?_) (fun i x H' hx hW => ?_) (fun H' hW => ?_)
  · obtain ⟨us, _, _, sm⟩ := hW
    exact SqL.of (sm _ _ upd_same)
  · obtain ⟨us, eD, hP, sm⟩ := hW
    obtain ⟨r, hr', rfl⟩ := int_at hx
    have br := hb2 r (List.mem_of_getElem? hr')
    have hi := (List.getElem?_eq_some_iff.1 hr').1
    refine ⟨rfl, ?_⟩
    dsimp only [tYes]
    rw [if_pos rfl]
    refine ⟨_, rfl, _, rfl, r, vs.sum, rfl, hs1, Bd.of (m := 30000000) (by omega) (by omega) (by decide +kernel), fun H11 v11 s11 p11 => ?_⟩
    have eD11 := s11 _ _ eD
    refine ⟨us, eD11, small1000 (by rw [hP.len, List.length_take, shares_len]; omega), us ++ [v11], upd_same, ?_, same_at hD (sm.trans s11)⟩
    have et : (sharesOf vs).take (i + 1) = (sharesOf vs).take i ++ [lowP r vs.sum] := by
      rw [List.take_add_one]
      unfold sharesOf
      rw [List.getElem?_map, hr']
      rfl
    rw [et]
    exact pps_grow eD11 (hP.same s11) p11
  · obtain ⟨us, eD, hP, sm⟩ := hW
    rw [List.length_map, List.take_of_length_le (by rw [shares_len]; omega)] at hP
    exact q _ _ vs (s10.trans sm) nD' ⟨hl, hb2, hs1, hs2⟩ ⟨us, eD, hP⟩

theorem ok__law_hour {k : Nat} (D : Df K mg "_law_hour" s__law_hour ["_law_lags_here", "_law_shares_here"]) (D__law_low : Df K mg "_law_low" s__law_low ["_law_top", "_law_bottom"]) (D__law_add : Df K mg "_law_add" s__law_add ["_law_a", "_law_b"]) (D__law_sub : Df K mg "_law_sub" s__law_sub ["_law_a", "_law_b"]) (D__law_less : Df K mg "_law_less" s__law_less ["_law_a", "_law_b"]) (D__law_first : Df K mg "_law_first" s__law_first ["_law_row"]) (m_abs : mg "abs" = none) (m_range : mg "range" = none) (m_len : mg "len" = none) (m_zip : mg "zip" = none) :
    FnOk P w K mg base CX0 (k + 3) D.f D.fd ["_law_lags_here", "_law_shares_here"] (sp_hour K) := by
  have G__law_add : FnOk P w K mg base CX0 2 D__law_add.f D__law_add.fd ["_law_a", "_law_b"] (sp_two K anyC addP) := ok__law_add D__law_add D__law_low m_abs
  have G__law_sub : FnOk P w K mg base CX0 2 D__law_sub.f D__law_sub.fd ["_law_a", "_law_b"] (sp_two K anyC subP) := ok__law_sub D__law_sub D__law_low m_abs
  have G__law_first : FnOk P w K mg base CX0 2 D__law_first.f D__law_first.fd ["_law_row"] (sp_first K) := ok__law_first D__law_first D__law_less m_range m_len
  refine D.F.ok sc__law_hour (fun vs H Q E h => ?_) (fun cdv A outer s H vs Q E hr h => ?_)
  · obtain ⟨p, q, xs, ys, N, rfl, _⟩ := h
    rfl
  obtain ⟨p, r, xs, ys, N, rfl, ⟨us, ep, hP⟩, ⟨ws, er, hR⟩, hl, h0, hn, hx, hy, hN, q⟩ := h
  refine ⟨_, (pss_cons (ps_setLc (i := 2) (own := [("_law_lag", 4), ("_law_share", 5)]) (g := gTup K 2 (gCons (gName 4) (gCons (gName 5) gNil))) (tt := tYes) rfl sc__law_hour.nd rfl rfl (sw_true rfl rfl rfl (by decide +kernel)) (pi_zip (by rfl) m_zip (pa_cons (pv 0) (pa_cons (pv 1) pa_nil))) (blkOk_by (N := N__law_hour) (sc := defScope s__law_hour) (by decide +kernel)) (fun _ _ _ _ _ => pg_tup rfl (pgs_cons (pg_name (i := 4) sc__law_hour.nd rfl (Or.inl rfl)) (pgs_cons (pg_name (i := 5) sc__law_hour.nd rfl (Or.inl rfl)) pgs_nil))) (fun _ _ _ _ _ => pts_nil) (fun _ _ _ _ _ => (pe_call G__law_add (hr.mono (by omega)) (by rfl) D__law_add.g D__law_add.F.kp D__law_add.b .nil pass0 (pa_cons (pv 4) (pa_cons (pv 5) pa_nil)))))
      (pss_cons (ps_set (i := 3) sc__law_hour.nd rfl (.inl rfl) (pe_call G__law_first (hr.mono (by omega)) (by rfl) D__law_first.g D__law_first.F.kp D__law_first.b .nil pass0 (pa_cons (pv 2) pa_nil)))
      (pss_cons (ps_asg (pe_call G__law_sub (hr.mono (by omega)) (by rfl) D__law_sub.g D__law_sub.F.kp D__law_sub.b .nil pass0 (pa_cons (pe_ix ix_list (pv 2) (pv 3) (fun _ _ => rfl)) (pa_cons (pe_tup (pa_cons pe_int (pa_cons pe_int pa_nil))) pa_nil))) (pg_sub (pv 2) (pv 3) set_list))
      (pss_one (ps_ret (pe_tup (pa_cons (pv 3) (pa_cons (pv 2) pa_nil)))))))), ?_⟩
  refine ⟨_, rfl, _, rfl, p, r, us, ws, rfl, SqL.of ep, SqL.of er, fun Dd hD => ?_⟩
  refine lc_it (walk_zip (xs := us) (ys := ws) (n := xs.length) (by rw [hP.len, hR.len, hl, Nat.min_self])) (fun i H' => ∃ vs, H' Dd = some (.lst vs) ∧ Pps K H' vs ((List.zipWith addP xs ys).take i) ∧ Same H H') ⟨[], upd_same, .nil, same_upd hD⟩ (fun i H' _ hW => ?_) (fun i x H' H'' hi hW hy' => ?_) (fun H' hW => ?_)
  · obtain ⟨vs, _, _, sm⟩ := hW
    exact ⟨SqL.of (sm _ _ ep), SqL.of (sm _ _ er)⟩
  · obtain ⟨vs, eD, hV, sm⟩ := hW
    obtain ⟨T, x1, x2, rfl, nT, rfl, f1, f2⟩ := hy'
    obtain ⟨a, ha, pa⟩ := pps_get hP f1
    obtain ⟨b, hb, pb⟩ := pps_get hR f2
    have oa := hx a (List.mem_of_getElem? ha)
    have ob := hy b (List.mem_of_getElem? hb)
    have st := same_upd (o := .tup [x1, x2]) nT
    have sm2 := sm.trans st
    refine ⟨T, [x1, x2], rfl, SqT.of upd_same, rfl, x1, [x2], rfl, x2, [], rfl, rfl, ?_⟩
    refine ⟨rfl, ?_⟩
    dsimp only [tYes]
    rw [if_pos rfl]
    refine ⟨_, rfl, _, rfl, x1, x2, a, b, N, 26, rfl, pa.same sm2, pb.same sm2, oa.1, ob.1, by omega, True.intro, fun H4 v4 s4 p4 => ?_⟩
    have eD4 := s4 _ _ (st _ _ eD)
    refine ⟨vs, eD4, small1000 ?_, vs ++ [v4], upd_same, ?_, same_at hD (sm2.trans s4)⟩
    · rw [hV.len, List.length_take]
      omega
    · rw [zip_at ha hb]
      exact pps_grow eD4 ((hV.same st).same s4) p4
  obtain ⟨vs, eD, hV, sm⟩ := hW
  rw [List.take_of_length_le (by rw [List.length_zipWith]; omega)] at hV
  have lz : (List.zipWith addP xs ys).length = xs.length := by rw [List.length_zipWith]; omega
  have oz := zip_ok hx hy
  have hf := firstM_lt (xs := List.zipWith addP xs ys) (by omega)
  have oi := item_ok oz hf
  obtain ⟨v1, g1, p1⟩ := pps_at hV (item_some hf)
  have hvl := hV.len
  -- at = first(row)
  refine ⟨_, rfl, Dd, _, rfl, ⟨vs, eD, hV⟩, by omega, by omega, oz.mono (by omega), ?_⟩
  -- row[at] = sub(row[at], (1, 1))
  refine ⟨_, rfl, _, rfl, Dd, vs, _, v1, rfl, rfl, SqL.of eD, atI_nat g1, (by show 2 ≤ sizeLine; decide), fun t ht => ?_⟩
  have st := same_upd (o := .tup [.int 1, .int 1]) ht
  refine ⟨v1, .ref t, _, (1, 1), N + 26 + 1, 1, rfl, p1.same st, Pr.new, oi.1, ok11, by omega, True.intro, fun H5 v5 s5 p5 => ?_⟩
  have eD5 := s5 _ _ (st _ _ eD)
  refine ⟨_, rfl, _, rfl, Dd, vs, _, firstM (List.zipWith addP xs ys), rfl, rfl, eD5, ix_nat (by omega), ?_⟩
  have lp := LP.put eD5 ((hV.same st).same s5) p5 (firstM (List.zipWith addP xs ys))
  have s6 : Same H (upd H5 Dd (.lst (vs.set (firstM (List.zipWith addP xs ys)) v5))) := same_at hD (sm.trans (st.trans s5))
  -- return (at, row)
  refine ⟨_, rfl, _, rfl, (by show 2 ≤ sizeLine; decide), fun t2 ht2 => ?_⟩
  have st2 := same_upd (o := .tup [.int (firstM (List.zipWith addP xs ys) : Int), .ref Dd]) ht2
  exact q _ t2 Dd (s6.trans st2) hD (SqT.of upd_same) (lp.same st2)

def sp__law_lived (K : PySem.W.Frag) : Sp := fun vs H Q _ => ∃ (n : Nat) (pr : Addr) (rs : List Int) (h : Nat), vs = [.int n, .ref pr, .int h] ∧ H pr = some (.lst (rs.map V.int)) ∧ 1 ≤ n ∧ n ≤ 24 ∧ h ≤ 8 ∧ h * (n + 1) ≤ rs.length ∧ (∀ r ∈ rs, 0 ≤ r ∧ r < 1000000) ∧
  ∀ H' p xs, Same H H' → H p = none → LP K H' p xs → Lags n 233 xs → Q (.ref p) H'
theorem noughts_worth (n : Nat) : worth (List.replicate n (0, 1)) = 0 := by
  induction n with
  | zero => rfl
  | succ n ih =>
    rw [List.replicate_succ, worth_cons, ih, val_zero']
    grind
theorem noughts_ok (n : Nat) : AllOk 1 (List.replicate n ((0, 1) : Q2)) := fun x hx => by
  rw [(List.mem_replicate.1 hx).2]
  exact ⟨⟨by decide, by unfold Bd; decide, by unfold Bd; decide⟩, ⟨by decide, rfl⟩⟩
theorem ok__law_lived {k : Nat} (D : Df K mg "_law_lived" s__law_lived ["_law_n", "_law_row", "_law_hours"]) (D__law_low : Df K mg "_law_low" s__law_low ["_law_top", "_law_bottom"]) (D__law_add : Df K mg "_law_add" s__law_add ["_law_a", "_law_b"]) (D__law_sub : Df K mg "_law_sub" s__law_sub ["_law_a", "_law_b"]) (D__law_less : Df K mg "_law_less" s__law_less ["_law_a", "_law_b"]) (D__law_first : Df K mg "_law_first" s__law_first ["_law_row"]) (D__law_hour : Df K mg "_law_hour" s__law_hour ["_law_lags_here", "_law_shares_here"]) (D__law_shares : Df K mg "_law_shares" s__law_shares ["_law_row", "_law_n"])
    (m_abs : mg "abs" = none) (m_range : mg "range" = none) (m_len : mg "len" = none) (m_zip : mg "zip" = none) (m_int : mg "int" = none) (m_sum : mg "sum" = none) : FnOk P w K mg base CX0 (k + 4) D.f D.fd ["_law_n", "_law_row", "_law_hours"] (sp__law_lived K) := by
  have G__law_hour : FnOk P w K mg base CX0 3 D__law_hour.f D__law_hour.fd ["_law_lags_here", "_law_shares_here"] (sp_hour K) := ok__law_hour D__law_hour D__law_low D__law_add D__law_sub D__law_less D__law_first m_abs m_range m_len m_zip
  have G__law_shares : FnOk P w K mg base CX0 3 D__law_shares.f D__law_shares.fd ["_law_row", "_law_n"] (sp__law_shares K) := ok__law_shares D__law_shares D__law_low m_abs m_int m_sum
  refine D.F.ok sc__law_lived (fun vs H Q E h => ?_) (fun cdv A outer s H vs Q E hr h => ?_)
  · obtain ⟨n, pr, rs, h', rfl, _⟩ := h
    rfl
  obtain ⟨n, pr, rs, h, rfl, epr, hn1, hn2, hh, hlen, hb, q⟩ := h
  refine ⟨_, (pss_cons (ps_setLc (i := 4) (own := [("_law_k", 3)]) (g := gName 3) (tt := tYes) rfl sc__law_lived.nd rfl rfl (sw_true rfl rfl rfl (by decide +kernel)) (pi_range1 (by rfl) m_range (pa_cons (pv 0) pa_nil)) (blkOk_by (N := N__law_lived) (sc := defScope s__law_lived) (by decide +kernel)) (fun _ _ _ _ _ => pg_name (i := 3) sc__law_lived.nd rfl (Or.inl rfl)) (fun _ _ _ _ _ => pts_nil) (fun _ _ _ _ _ => (pe_tup (pa_cons pe_int (pa_cons pe_int pa_nil)))))
      (pss_cons (ps_for PassesOwn.never rfl (pi_range1 (by rfl) m_range (pa_cons (pv 2) pa_nil)) (pg_name (i := 3) sc__law_lived.nd rfl (.inl rfl)) (pss_one (ps_set (i := 4) sc__law_lived.nd rfl (.inl rfl) (pe_ix ix_tup (pe_call G__law_hour (hr.mono (by omega)) (by rfl) D__law_hour.g D__law_hour.F.kp D__law_hour.b .nil pass0 (pa_cons (pv 4) (pa_cons (pe_call G__law_shares (hr.mono (by omega)) (by rfl) D__law_shares.g D__law_shares.F.kp D__law_shares.b .nil pass0 (pa_cons (pe_slice sl_list (pv 1) (po_some (pe_op op_mul (pv 3) (pe_op op_add (pv 0) pe_int))) po_none) (pa_cons (pv 0) pa_nil))) pa_nil))) pe_int (fun _ _ => rfl)))))
      (pss_one (ps_ret (pv 4))))), ?_⟩
  -- noughts
  refine ⟨_, rfl, (n : Int), rfl, by omega, by omega, fun Dd hD => ?_⟩
  refine lc_range (n := n) (fun i H' => ∃ us, H' Dd = some (.lst us) ∧ Pps K H' us (List.replicate i (0, 1)) ∧ Same H H') ⟨[], upd_same, .nil, same_upd hD⟩ (fun i H' hi hW => ?_) (fun H1 hW => ?_)
  · obtain ⟨us, eD, hP, sm⟩ := hW
    refine ⟨rfl, ?_⟩
    dsimp only [tYes]
    rw [if_pos rfl]
    refine ⟨(by show 2 ≤ sizeLine; decide), fun t ht => ?_⟩
    have st := same_upd (o := .tup [.int 0, .int 1]) ht
    have eD2 := st _ _ eD
    refine ⟨us, eD2, small1000 (by rw [hP.len, List.length_replicate]; omega), us ++ [.ref t], upd_same, ?_, same_at hD (sm.trans st)⟩
    rw [List.replicate_succ']
    exact pps_grow eD2 (hP.same st) (x := (0, 1)) Pr.new
  obtain ⟨us, eD, hP, s1⟩ := hW
  -- the hours
  refine ⟨_, rfl, (h : Int), rfl, by omega, by omega, ?_⟩
  refine for_range (n := h) (fun i σ H3 => ∃ (pl : Addr) (xs : List Q2) (y4 : Option V), σ = [some (.int n), some (.ref pr), some (.int h), y4, some (.ref pl)] ∧ H pl = none ∧ LP K H3 pl xs ∧ Lags n (1 + 29 * i) xs ∧ Same H H3)
    ⟨_, _, _, rfl, hD, ⟨us, eD, hP⟩, ⟨by rw [List.length_replicate], noughts_ok n, noughts_worth n⟩, s1⟩ (fun i σ H3 hi hW => ?_) (fun σ H3 hW => ?_)
  · obtain ⟨pl, xs, y4, rfl, npl, lpl, hx, sm⟩ := hW
    have hk : i * (n + 1) + (n + 1) ≤ rs.length := by
      have : (i + 1) * (n + 1) ≤ h * (n + 1) := Nat.mul_le_mul_right _ hi
      rw [Nat.succ_mul] at this
      omega
    refine ⟨_, rfl, _, rfl, _, rfl, _, rfl, _, _, rfl, rfl, _, _, rfl, rfl, .inl ⟨by omega, by omega⟩, _, rfl, pr, _, rfl, SqL.of (sm _ _ epr), fun pc hc => ?_⟩
    rw [show (0 + (i : Int)) * ((n : Int) + 1) = ((i * (n + 1) : Nat) : Int) from by rw [Int.zero_add]; simp, cut_from rs (i * (n + 1)) (by omega)]
    have sc := same_upd (o := .lst ((rs.drop (i * (n + 1))).map V.int)) hc
    refine ⟨_, rfl, pc, _, n, rfl, upd_same, hn1, hn2, by rw [List.length_drop]; omega, fun r hr' => hb r (List.mem_of_mem_drop hr'), fun H5 ps ws s5 nps hws lps => ?_⟩
    have oy := shares_ok hws hn2
    have ly : (sharesOf ws).length = n := by rw [shares_len, hws.1]
    have wy := worth_shares hws
    have hxl := hx.len
    have hho := hour_ok hx.ok oy (by omega) (by omega)
    have hhw := hour_worth hx.ok oy (by omega) (by omega)
    refine ⟨pl, ps, xs, sharesOf ws, 1 + 29 * i, rfl, (lpl.same sc).same s5, lps, by omega, by omega, by omega, hx.ok, oy, by omega, fun H6 t r s6 nr hT lr => ?_⟩
    refine ⟨t, _, 1, _, rfl, rfl, hT, rfl, ?_⟩
    have s36 := sc.trans (s5.trans s6)
    refine ⟨r, _, _, rfl, ?_, lr, ⟨by omega, hho.1.mono (by omega), ?_⟩, sm.trans s36⟩
    · exact (sm.trans (sc.trans s5)).free nr
    · rw [hhw, hx.zero, wy]
      grind
  · obtain ⟨pl, xs, y4, rfl, npl, lpl, hx, sm⟩ := hW
    exact ⟨_, rfl, q _ _ _ sm npl lpl ⟨hx.len, hx.ok.mono (by omega), hx.zero⟩⟩

theorem ok__law_lags {k : Nat} (D : Df K mg "_law_lags" s__law_lags ["_law_n", "_law_row"]) (D__law_low : Df K mg "_law_low" s__law_low ["_law_top", "_law_bottom"]) (D__law_add : Df K mg "_law_add" s__law_add ["_law_a", "_law_b"]) (D__law_sub : Df K mg "_law_sub" s__law_sub ["_law_a", "_law_b"]) (D__law_less : Df K mg "_law_less" s__law_less ["_law_a", "_law_b"]) (D__law_first : Df K mg "_law_first" s__law_first ["_law_row"]) (D__law_hour : Df K mg "_law_hour" s__law_hour ["_law_lags_here", "_law_shares_here"]) (D__law_shares : Df K mg "_law_shares" s__law_shares ["_law_row", "_law_n"]) (D__law_lived : Df K mg "_law_lived" s__law_lived ["_law_n", "_law_row", "_law_hours"]) (D__law_most : Df K mg "_law_most" s__law_most ["_law_n", "_law_k"])
    (m_abs : mg "abs" = none) (m_range : mg "range" = none) (m_len : mg "len" = none) (m_zip : mg "zip" = none) (m_int : mg "int" = none) (m_sum : mg "sum" = none) (m_max : mg "max" = none) : FnOk P w K mg base CX0 (k + 5) D.f D.fd ["_law_n", "_law_row"] (sp__law_lags K) := by
  have G__law_lived : FnOk P w K mg base CX0 4 D__law_lived.f D__law_lived.fd ["_law_n", "_law_row", "_law_hours"] (sp__law_lived K) := ok__law_lived D__law_lived D__law_low D__law_add D__law_sub D__law_less D__law_first D__law_hour D__law_shares m_abs m_range m_len m_zip m_int m_sum
  have G__law_low : FnOk P w K mg base CX0 4 D__law_low.f D__law_low.fd ["_law_top", "_law_bottom"] (sp_lowest K) := ok__law_low D__law_low m_abs
  have G__law_add : FnOk P w K mg base CX0 4 D__law_add.f D__law_add.fd ["_law_a", "_law_b"] (sp_two K anyC addP) := ok__law_add D__law_add D__law_low m_abs
  have G__law_sub : FnOk P w K mg base CX0 4 D__law_sub.f D__law_sub.fd ["_law_a", "_law_b"] (sp_two K anyC subP) := ok__law_sub D__law_sub D__law_low m_abs
  have G__law_most : FnOk P w K mg base CX0 4 D__law_most.f D__law_most.fd ["_law_n", "_law_k"] (sp_lmost K) := ok__law_most D__law_most D__law_low D__law_add m_abs m_range
  refine D.F.ok sc__law_lags (fun vs H Q E h => ?_) (fun cdv A outer s H vs Q E hr h => ?_)
  · obtain ⟨n, pr, rs, rfl, _⟩ := h
    rfl
  obtain ⟨n, pr, rs, rfl, epr, hn1, hn2, hlen, hb, q⟩ := h
  refine ⟨_, (pss_cons (ps_set (i := 2) sc__law_lags.nd rfl (.inl rfl) (pe_call G__law_lived (hr.mono (by omega)) (by rfl) D__law_lived.g D__law_lived.F.kp D__law_lived.b .nil pass0 (pa_cons (pv 0) (pa_cons (pe_slice sl_list (pv 1) (po_some pe_int) po_none) (pa_cons (pe_op op_mod (pe_ix ix_list (pv 1) pe_int (fun _ _ => rfl)) pe_int) pa_nil)))))
      (pss_cons (ps_if (PW.pt (pw_or (pt_cmpR op_eq (pe_op op_mod (pe_op op_fdivW (pe_ix ix_list (pv 1) pe_int (fun _ _ => rfl)) pe_int) pe_int) pe_int (nomark _)) (pw_or1 (pt_cmpR op_eq (pv 0) pe_int (nomark _))))) (pss_one (ps_ret (pv 2))) pss_nil)
      (pss_cons (ps_set (i := 3) sc__law_lags.nd rfl (.inl rfl) (pe_op op_add pe_int (pe_op op_mod (pe_op op_fdivW (pe_ix ix_list (pv 1) pe_int (fun _ _ => rfl)) pe_int) (pv 0))))
      (C8.pss_cut (ps_if (pt_cmpR op_eq (pe_op op_mod (pe_op op_fdivW (pe_ix ix_list (pv 1) pe_int (fun _ _ => rfl)) pe_int) pe_int) pe_int (nomark _)) (pss_cons (ps_set (i := 4) sc__law_lags.nd rfl (.inr rfl) (pe_call G__law_low (hr.mono (by omega)) (by rfl) D__law_low.g D__law_low.F.kp D__law_low.b .nil pass0 (pa_cons (pe_ix ix_tup (pe_call G__law_most (hr.mono (by omega)) (by rfl) D__law_most.g D__law_most.F.kp D__law_most.b .nil pass0 (pa_cons (pv 0) (pa_cons (pv 3) pa_nil))) pe_int (fun _ _ => rfl)) (pa_cons (pe_op op_mulW (pe_ix ix_tup (pe_call G__law_most (hr.mono (by omega)) (by rfl) D__law_most.g D__law_most.F.kp D__law_most.b .nil pass0 (pa_cons (pv 0) (pa_cons (pv 3) pa_nil))) pe_int (fun _ _ => rfl)) (pv 3)) pa_nil))))
      (pss_cons (ps_set (i := 5) sc__law_lags.nd rfl (.inr rfl) (pe_call G__law_low (hr.mono (by omega)) (by rfl) D__law_low.g D__law_low.F.kp D__law_low.b .nil pass0 (pa_cons (pe_op op_mulW (pe_un un_neg (pe_ix ix_tup (pv 4) pe_int (fun _ _ => rfl))) (pv 3)) (pa_cons (pe_op op_mulW (pe_ix ix_tup (pv 4) pe_int (fun _ _ => rfl)) (pe_callB (call_max2 rfl) (by rfl) m_max (by decide +kernel) (pa_cons pe_int (pa_cons (pe_op op_sub (pv 0) (pv 3)) pa_nil)))) pa_nil))))
      (pss_one (ps_set (i := 2) sc__law_lags.nd rfl (.inl rfl) (pe_op op_cat (pe_lc (own := [("_law_k", 9)]) (g := gName 9) (tt := tYes) rfl sc__law_lags.nd (pi_range1 (by rfl) m_range (pa_cons (pv 3) pa_nil)) (blkOk_by (N := N__law_lags) (sc := defScope s__law_lags) (by decide +kernel)) (fun _ _ _ _ _ => pg_name (i := 9) sc__law_lags.nd rfl (Or.inl rfl)) (fun _ _ _ _ _ => pts_nil) (fun _ _ _ _ _ => (pv 4))) (pe_lc (own := [("_law_k", 9)]) (g := gName 9) (tt := tYes) rfl sc__law_lags.nd (pi_range1 (by rfl) m_range (pa_cons (pe_op op_sub (pv 0) (pv 3)) pa_nil)) (blkOk_by (N := N__law_lags) (sc := defScope s__law_lags) (by decide +kernel)) (fun _ _ _ _ _ => pg_name (i := 9) sc__law_lags.nd rfl (Or.inl rfl)) (fun _ _ _ _ _ => pts_nil) (fun _ _ _ _ _ => (pv 5)))))))) pss_nil)
      (pss_cons (ps_set (i := 6) sc__law_lags.nd rfl (.inl rfl) (pe_op op_mod (pe_op op_fdivW (pe_ix ix_list (pv 1) pe_int (fun _ _ => rfl)) pe_int) (pv 0)))
      (pss_cons (ps_set (i := 7) sc__law_lags.nd rfl (.inl rfl) (pe_op op_mod (pe_op op_fdivW (pe_ix ix_list (pv 1) pe_int (fun _ _ => rfl)) pe_int) (pv 0)))
      (pss_cons (ps_set (i := 8) sc__law_lags.nd rfl (.inl rfl) (pe_tup (pa_cons (pe_op op_sub (pe_op op_mod (pe_op op_fdivW (pe_ix ix_list (pv 1) pe_int (fun _ _ => rfl)) pe_int) pe_int) pe_int) (pa_cons (pe_op op_add pe_int (pe_op op_mod (pe_op op_fdivW (pe_ix ix_list (pv 1) pe_int (fun _ _ => rfl)) pe_int) pe_int)) pa_nil))))
      (C8.pss_cut (ps_if (pt_cmpR op_eq (pe_op op_mod (pe_op op_fdivW (pe_ix ix_list (pv 1) pe_int (fun _ _ => rfl)) pe_int) pe_int) pe_int (nomark _)) (pss_one (ps_set (i := 8) sc__law_lags.nd rfl (.inl rfl) (pe_tup (pa_cons (pe_ix ix_tup (pv 8) pe_int (fun _ _ => rfl)) (pa_cons (pe_op op_add (pe_op op_pow pe_int pe_int) (pv 0)) pa_nil))))) pss_nil)
      (pss_cons (ps_asg (pe_call G__law_add (hr.mono (by omega)) (by rfl) D__law_add.g D__law_add.F.kp D__law_add.b .nil pass0 (pa_cons (pe_ix ix_list (pv 2) (pv 6) (fun _ _ => rfl)) (pa_cons (pe_call G__law_low (hr.mono (by omega)) (by rfl) D__law_low.g D__law_low.F.kp D__law_low.b .nil pass0 (pa_cons (pe_ix ix_tup (pv 8) pe_int (fun _ _ => rfl)) (pa_cons (pe_ix ix_tup (pv 8) pe_int (fun _ _ => rfl)) pa_nil))) pa_nil))) (pg_sub (pv 2) (pv 6) set_list))
      (pss_cons (ps_asg (pe_call G__law_sub (hr.mono (by omega)) (by rfl) D__law_sub.g D__law_sub.F.kp D__law_sub.b .nil pass0 (pa_cons (pe_ix ix_list (pv 2) (pv 7) (fun _ _ => rfl)) (pa_cons (pe_call G__law_low (hr.mono (by omega)) (by rfl) D__law_low.g D__law_low.F.kp D__law_low.b .nil pass0 (pa_cons (pe_ix ix_tup (pv 8) pe_int (fun _ _ => rfl)) (pa_cons (pe_ix ix_tup (pv 8) pe_int (fun _ _ => rfl)) pa_nil))) pa_nil))) (pg_sub (pv 2) (pv 7) set_list))
      (pss_one (ps_ret (pe_op op_cat (pe_slice sl_list (pv 2) (po_some (pv 6)) po_none) (pe_slice sl_list (pv 2) po_none (po_some (pv 6)))))))))))))))), ?_⟩
  have cd : ∀ (x d : Int), 0 < d → d < 1000000 → CDivW x d := fun x d h1 h2 => bd_divok (n := 20) h1 (Bd.of (m := 1000000) (by omega) h2 (by decide)) (by decide)
  have r0 := hb _ (getD_in (show 0 < rs.length by omega))
  have hn0 : (0 : Int) < (n : Int) := by omega
  -- the hours lived
  refine ⟨_, rfl, _, rfl, 1, rfl, pr, _, rfl, SqL.of epr, fun pc hc => ?_⟩
  rw [show cutV (rs.map V.int) (some 1) none = (rs.drop 1).map V.int from cut_from rs 1 (by omega)]
  have sc := same_upd (o := .lst ((rs.drop 1).map V.int)) hc
  have g1 := Int.emod_nonneg (rs.getD 0 0) (show (9 : Int) ≠ 0 by decide)
  have g2 := Int.emod_lt_of_pos (rs.getD 0 0) (show (0 : Int) < 9 by decide)
  obtain ⟨h, eh, hh⟩ : ∃ h : Nat, rs.getD 0 0 % 9 = (h : Int) ∧ h ≤ 8 := ⟨(rs.getD 0 0 % 9).toNat, by omega, by omega⟩
  refine ⟨_, rfl, pr, _, _, _, rfl, rfl, SqL.of (sc _ _ epr), ls_z 0 rfl (by omega), _, _, rfl, rfl, (by show (0 : Int) < _; decide), ?_⟩
  refine ⟨n, pc, rs.drop 1, h, by rw [← eh]; rfl, upd_same, hn1, hn2, hh, ?_, fun r hr' => hb r (List.mem_of_mem_drop hr'), fun H1 pl xs s1 npl lpl hx => ?_⟩
  · have : h * (n + 1) ≤ 8 * (n + 1) := Nat.mul_le_mul_right _ hh
    rw [List.length_drop]
    omega
  have S1 : Same H H1 := sc.trans s1
  have nl : H pl = none := sc.free npl
  -- told as they are
  refine ⟨_, rfl, pr, _, _, _, rfl, rfl, SqL.of (S1 _ _ epr), ls_z 0 rfl (by omega), _, _, rfl, rfl, cd _ _ (by decide) (by decide), _, _, rfl, rfl, (by show (0 : Int) < _; decide), rfl, _, rfl, ite2 (fun e => ?_) (fun e => ?_)⟩
  · refine iteT ?_
    exact ⟨_, rfl, q _ _ _ S1 nl lpl ⟨hx.len, hx.ok.mono (by decide), hx.zero⟩⟩
  refine ⟨_, rfl, rfl, _, rfl, ite2 (fun e => ?_) (fun e => ?_)⟩
  · exact ⟨_, rfl, q _ _ _ S1 nl lpl ⟨hx.len, hx.ok.mono (by decide), hx.zero⟩⟩
  -- j
  have j1 := Int.emod_nonneg (rs.getD 0 0 / 27) (show (n : Int) ≠ 0 by omega)
  have j2 := Int.emod_lt_of_pos (rs.getD 0 0 / 27) hn0
  obtain ⟨j, ej, hj1, hj2⟩ : ∃ j : Nat, 1 + rs.getD 0 0 / 27 % (n : Int) = (j : Int) ∧ 1 ≤ j ∧ j ≤ n := ⟨(1 + rs.getD 0 0 / 27 % (n : Int)).toNat, by omega, by omega, by omega⟩
  refine ⟨_, rfl, pr, _, _, _, rfl, rfl, SqL.of (S1 _ _ epr), ls_z 0 rfl (by omega), _, _, rfl, rfl, cd _ _ (by decide) (by decide), _, rfl, _, _, rfl, rfl, hn0, _, _, rfl, rfl, ?_⟩
  dsimp only
  rw [ej]
  refine ⟨fun σ H' => ∃ (pl : Addr) (xs : List Q2) (y4 y5 y6 y7 y8 y9 : Option V), σ = [some (.int n), some (.ref pr), some (.ref pl), some (.int j), y4, y5, y6, y7, y8, y9] ∧ H pl = none ∧ LP K H' pl xs ∧ Lags n 236 xs ∧ Same H H', ?_, fun σ2 H2 hm => ?_⟩
  · refine ⟨_, rfl, pr, _, _, _, rfl, rfl, SqL.of (S1 _ _ epr), ls_z 0 rfl (by omega), _, _, rfl, rfl, cd _ _ (by decide) (by decide), _, _, rfl, rfl, (by show (0 : Int) < _; decide), rfl, _, rfl, ite2 (fun e => ?_) (fun e => ?_)⟩
    · -- high
      have om := lmost_ok' (n := n) (j := j) (by omega) (by omega) (by omega)
      have bj : Bd 5 (j : Int) := bd5 (by omega) (by omega)
      refine ⟨_, rfl, _, rfl, (n : Int), (j : Int), rfl, ⟨by omega, by omega⟩, ⟨by omega, by omega⟩, fun H3 v3 s3 p3 o3 => ?_⟩
      obtain ⟨a3, rfl, q3⟩ := p3
      refine ⟨a3, _, 0, _, rfl, rfl, q3, rfl, ?_⟩
      refine ⟨_, rfl, _, rfl, (n : Int), (j : Int), rfl, ⟨by omega, by omega⟩, ⟨by omega, by omega⟩, fun H4 v4 s4 p4 o4 => ?_⟩
      obtain ⟨a4, rfl, q4⟩ := p4
      refine ⟨a4, _, 1, _, rfl, rfl, q4, rfl, _, rfl, _, _, rfl, rfl, bd_mulok om.bot bj (by decide), ?_⟩
      refine ⟨_, _, rfl, Int.mul_pos om.pos (by omega), (om.bot.mul bj).mono (by decide), fun H5 v5 s5 p5 => ?_⟩
      have p5' : Pp K H5 v5 (highOf n j) := p5
      have oh := high_ok (n := n) (j := j) (by omega) (by omega) (by omega)
      obtain ⟨a5, rfl, q5⟩ := p5
      -- rest
      obtain ⟨m, em⟩ : ∃ m : Int, m = if (n : Int) - j > 1 then (n : Int) - j else 1 := ⟨_, rfl⟩
      have hm1 : 1 ≤ m := by rw [em]; split <;> omega
      have hm2 : m ≤ 24 := by rw [em]; split <;> omega
      refine ⟨_, rfl, a5, _, 0, _, rfl, rfl, q5, rfl, _, rfl, _, rfl, _, _, rfl, rfl, bd_mulok oh.1.top.neg bj (by decide), ?_⟩
      refine ⟨_, rfl, a5, _, 1, _, rfl, rfl, q5, rfl, _, rfl, _, rfl, _, _, rfl, rfl, _, _, rfl, ?_⟩
      rw [← em]
      refine ⟨_, _, rfl, rfl, bd_mulok oh.1.bot (bd5 (by omega) hm2) (by decide), ?_⟩
      refine ⟨_, _, rfl, Int.mul_pos oh.1.pos (by omega), (oh.1.bot.mul (bd5 (by omega) hm2)).mono (by decide), fun H6 v6 s6 p6 => ?_⟩
      have p6' : Pp K H6 v6 (restOf n j m) := p6
      have S6 : Same H H6 := S1.trans (s3.trans (s4.trans (s5.trans s6)))
      -- the two lists
      refine ⟨_, rfl, (j : Int), rfl, by omega, by omega, fun D1 hD1 => ?_⟩
      refine lc_range (n := j) (fun i H' => ∃ us, H' D1 = some (.lst us) ∧ Pps K H' us (List.replicate i (highOf n j)) ∧ Same H6 H') ⟨[], upd_same, .nil, same_upd hD1⟩ (fun i H' hi hW => ?_) (fun H7 hW => ?_)
      · obtain ⟨us, eD, hP, sm⟩ := hW
        refine ⟨rfl, ?_⟩
        dsimp only [tYes]
        rw [if_pos rfl]
        refine ⟨_, rfl, us, eD, small1000 (by rw [hP.len, List.length_replicate]; omega), us ++ [.ref a5], upd_same, ?_, same_at hD1 sm⟩
        rw [List.replicate_succ']
        exact pps_grow eD hP ((p5'.same s6).same sm)
      obtain ⟨us1, e1, P1, s7⟩ := hW
      refine ⟨_, rfl, _, rfl, _, _, rfl, rfl, ((n - j : Nat) : Int), by rw [show ((n - j : Nat) : Int) = (n : Int) - (j : Int) by omega], by omega, by omega, fun D2 hD2 => ?_⟩
      refine lc_range (n := n - j) (fun i H' => ∃ us, H' D2 = some (.lst us) ∧ Pps K H' us (List.replicate i (restOf n j m)) ∧ Same H7 H') ⟨[], upd_same, .nil, same_upd hD2⟩ (fun i H' hi hW => ?_) (fun H8 hW => ?_)
      · obtain ⟨us, eD, hP, sm⟩ := hW
        refine ⟨rfl, ?_⟩
        dsimp only [tYes]
        rw [if_pos rfl]
        refine ⟨_, rfl, us, eD, small1000 (by rw [hP.len, List.length_replicate]; omega), us ++ [v6], upd_same, ?_, same_at hD2 sm⟩
        rw [List.replicate_succ']
        exact pps_grow eD hP ((p6'.same s7).same sm)
      obtain ⟨us2, e2, P2, s8⟩ := hW
      have l1 := P1.len
      have l2 := P2.len
      rw [List.length_replicate] at l1 l2
      refine ⟨D1, D2, us1, us2, rfl, rfl, s8 _ _ e1, e2, Nat.le_trans (show us1.length + us2.length ≤ 24 by omega) (by decide), fun p9 hp9 => ?_⟩
      have st := same_upd (o := .lst (us1 ++ us2)) hp9
      have S9 := S6.trans (s7.trans (s8.trans st))
      exact ⟨p9, _, _, _, _, _, _, _, rfl, (S6.trans (s7.trans s8)).free hp9, ⟨_, upd_same, Pps.app (P2.same st) ((P1.same s8).same st)⟩, ⟨(edge_lags hj1 hj2 hn2 em).len, (edge_lags hj1 hj2 hn2 em).ok.mono (by decide), (edge_lags hj1 hj2 hn2 em).zero⟩, S9⟩
    · exact ⟨pl, xs, _, _, _, _, _, _, rfl, nl, lpl, ⟨hx.len, hx.ok.mono (by decide), hx.zero⟩, S1⟩
  clear lpl hx nl npl S1 s1
  obtain ⟨pl, xs, y4, y5, y6, y7, y8, y9, rfl, nl, lpl, hx, S2⟩ := hm
  -- at, to
  have a1 := Int.emod_nonneg (rs.getD 0 0 / 700) (show (n : Int) ≠ 0 by omega)
  have a2 := Int.emod_lt_of_pos (rs.getD 0 0 / 700) hn0
  obtain ⟨f, ef, hf⟩ : ∃ f : Nat, rs.getD 0 0 / 700 % (n : Int) = (f : Int) ∧ f < n := ⟨(rs.getD 0 0 / 700 % (n : Int)).toNat, by omega, by omega⟩
  have b1 := Int.emod_nonneg (rs.getD 0 0 / 17000) (show (n : Int) ≠ 0 by omega)
  have b2 := Int.emod_lt_of_pos (rs.getD 0 0 / 17000) hn0
  obtain ⟨g, eg, hg⟩ : ∃ g : Nat, rs.getD 0 0 / 17000 % (n : Int) = (g : Int) ∧ g < n := ⟨(rs.getD 0 0 / 17000 % (n : Int)).toNat, by omega, by omega⟩
  refine ⟨_, rfl, pr, _, _, _, rfl, rfl, SqL.of (S2 _ _ epr), ls_z 0 rfl (by omega), _, _, rfl, rfl, cd _ _ (by decide) (by decide), _, rfl, _, _, rfl, rfl, hn0, ?_⟩
  dsimp only
  rw [ef]
  refine ⟨_, rfl, pr, _, _, _, rfl, rfl, SqL.of (S2 _ _ epr), ls_z 0 rfl (by omega), _, _, rfl, rfl, cd _ _ (by decide) (by decide), _, rfl, _, _, rfl, rfl, hn0, ?_⟩
  dsimp only
  rw [eg]
  -- by
  refine ⟨_, rfl, pr, _, _, _, rfl, rfl, SqL.of (S2 _ _ epr), ls_z 0 rfl (by omega), _, _, rfl, rfl, cd _ _ (by decide) (by decide), _, _, rfl, rfl, (by show (0 : Int) < _; decide), _, _, rfl, rfl, ?_⟩
  refine ⟨_, rfl, pr, _, _, _, rfl, rfl, SqL.of (S2 _ _ epr), ls_z 0 rfl (by omega), _, _, rfl, rfl, cd _ _ (by decide) (by decide), _, _, rfl, rfl, (by show (0 : Int) < _; decide), _, _, rfl, rfl, (by show 2 ≤ sizeLine; decide), fun t ht => ?_⟩
  have u1 := Int.emod_nonneg (rs.getD 0 0 / 3000) (show (3 : Int) ≠ 0 by decide)
  have u2 := Int.emod_lt_of_pos (rs.getD 0 0 / 3000) (show (0 : Int) < 3 by decide)
  have w1 := Int.emod_nonneg (rs.getD 0 0 / 9000) (show (60 : Int) ≠ 0 by decide)
  have w2 := Int.emod_lt_of_pos (rs.getD 0 0 / 9000) (show (0 : Int) < 60 by decide)
  have st := same_upd (o := .tup [.int (rs.getD 0 0 / 3000 % 3 - 1), .int (1 + rs.getD 0 0 / 9000 % 60)]) ht
  have bt : Bd 41 (rs.getD 0 0 / 3000 % 3 - 1) := Bd.of (m := 3) (by omega) (by omega) (by decide)
  refine ⟨fun σ H' => ∃ (v : V) (c d : Int) (y4 y5 y9 : Option V), σ = [some (.int n), some (.ref pr), some (.ref pl), some (.int j), y4, y5, some (.int f), some (.int g), some v, y9] ∧ Pr K H' v c d ∧ 0 < d ∧ Bd 41 c ∧ Bd 41 d ∧ LP K H' pl xs ∧ Same H H', ?_, fun σ3 H3 hm => ?_⟩
  · refine ⟨_, rfl, pr, _, _, _, rfl, rfl, SqL.of (st _ _ (S2 _ _ epr)), ls_z 0 rfl (by omega), _, _, rfl, rfl, cd _ _ (by decide) (by decide), _, _, rfl, rfl, (by show (0 : Int) < _; decide), rfl, _, rfl, ite2 (fun e => ?_) (fun e => ?_)⟩
    · refine ⟨_, rfl, t, _, 0, _, rfl, rfl, SqT.of upd_same, rfl, _, _, rfl, rfl, ⟨by decide, by decide, by decide⟩, _, rfl, _, _, rfl, rfl, (by show 2 ≤ sizeLine; decide), fun t2 ht2 => ?_⟩
      have ep : (10 : Int) ^ (12 : Int).toNat = 1000000000000 := by decide
      refine ⟨.ref t2, _, _, _, _, _, rfl, Pr.new, by rw [ep]; omega, bt, Bd.of (m := 2000000000000) (by rw [ep]; omega) (by rw [ep]; omega) (by decide), (lpl.same st).same (same_upd ht2), S2.trans (st.trans (same_upd ht2))⟩
    · exact ⟨.ref t, _, _, _, _, _, rfl, Pr.new, by omega, bt, Bd.of (m := 100) (by omega) (by omega) (by decide), lpl.same st, S2.trans st⟩
  clear lpl S2
  obtain ⟨v, c, d, y4', y5', y9', rfl, pv', hd, bc, bd', lpl, S3⟩ := hm
  have ob : Ok 41 (lowP c d) := lowP_ok hd bc bd'
  have hxl := hx.len
  have mv := move_lags hx ob hf hg
  obtain ⟨us, eus, hus⟩ := lpl
  have hul := hus.len
  -- the one
  have i1 := item_ok hx.ok (i := f) (by omega)
  obtain ⟨v1, gv1, pv1⟩ := pps_at hus (item_some (show f < xs.length by omega))
  obtain ⟨pb, rfl, qb⟩ := id pv'
  refine ⟨_, rfl, _, rfl, pl, us, _, v1, rfl, rfl, SqL.of eus, atI_nat gv1, ?_⟩
  refine ⟨_, rfl, pb, _, 0, _, rfl, rfl, qb, rfl, _, rfl, pb, _, 1, _, rfl, rfl, qb, rfl, c, d, rfl, hd, bd'.mono (by decide), fun H4 v4 s4 p4 => ?_⟩
  refine ⟨v1, v4, _, lowP c d, 236, 41, rfl, pv1.same s4, p4, i1.1, ob, by decide, True.intro, fun H5 v5 s5 p5 => ?_⟩
  have eus5 := s5 _ _ (s4 _ _ eus)
  refine ⟨_, rfl, _, rfl, pl, us, _, f, rfl, rfl, eus5, ix_nat (by omega), ?_⟩
  have lp6 := LP.put eus5 ((hus.same s4).same s5) p5 f
  have S6 : Same H (upd H5 pl (.lst (us.set f v5))) := same_at nl (S3.trans (s4.trans s5))
  have pb6 : Pp K (upd H5 pl (.lst (us.set f v5))) (.ref pb) (c, d) := Pp.off (x := (c, d)) ((Pp.same (x := (c, d)) pv' s4).same s5) (fun b o eb nb => by rw [upd_ne nb]; exact eb) eus5
  generalize upd H5 pl (.lst (us.set f v5)) = H6 at lp6 S6 pb6
  clear eus5 hus eus pv1 pv' qb p4 p5 s4 s5 S3
  -- the other
  obtain ⟨us6, eus, hus⟩ := lp6
  have hul6 := hus.len
  rw [List.length_set] at hul6
  have i2 := item_ok mv.2 (i := g) (by rw [List.length_set]; omega)
  obtain ⟨v1', gv1', pv1⟩ := pps_at hus (item_some (show g < (xs.set f (addP (itemP xs f) (lowP c d))).length by rw [List.length_set]; omega))
  obtain ⟨pb', epb, qb⟩ := id pb6
  cases epb
  refine ⟨_, rfl, _, rfl, pl, us6, _, v1', rfl, rfl, SqL.of eus, atI_nat gv1', ?_⟩
  refine ⟨_, rfl, pb, _, 0, _, rfl, rfl, qb, rfl, _, rfl, pb, _, 1, _, rfl, rfl, qb, rfl, c, d, rfl, hd, bd'.mono (by decide), fun H7 v7 s7 p7 => ?_⟩
  refine ⟨v1', v7, _, lowP c d, 278, 41, rfl, pv1.same s7, p7, i2.1, ob, by decide, True.intro, fun H8 v8 s8 p8 => ?_⟩
  have eus8 := s8 _ _ (s7 _ _ eus)
  refine ⟨_, rfl, _, rfl, pl, us6, _, g, rfl, rfl, eus8, ix_nat (by omega), ?_⟩
  have lp9 := LP.put eus8 ((hus.same s7).same s8) p8 g
  have S9 : Same H (upd H8 pl (.lst (us6.set g v8))) := same_at nl (S6.trans (s7.trans s8))
  have ml := mv.1
  generalize upd H8 pl (.lst (us6.set g v8)) = H9 at lp9 S9
  generalize (xs.set f (addP (itemP xs f) (lowP c d))).set g (subP (itemP (xs.set f (addP (itemP xs f) (lowP c d))) g) (lowP c d)) = zs at lp9 ml
  -- told
  obtain ⟨ws, ews, hws⟩ := lp9
  have hwl := hws.len
  have hzl := ml.len
  refine ⟨_, rfl, _, rfl, (f : Int), rfl, pl, ws, rfl, SqL.of ews, fun t1 ht1 => ?_⟩
  rw [cutV_from ws f (by omega)]
  have st1 := same_upd (o := .lst (ws.drop f)) ht1
  refine ⟨_, rfl, _, rfl, (f : Int), rfl, pl, ws, rfl, SqL.of (st1 _ _ ews), fun t2 ht2 => ?_⟩
  rw [cutV_to ws f (by omega)]
  have st2 := same_upd (o := .lst (ws.take f)) ht2
  refine ⟨t1, t2, ws.drop f, ws.take f, rfl, rfl, st2 _ _ upd_same, upd_same, Nat.le_trans (show (ws.drop f).length + (ws.take f).length ≤ 24 by rw [List.length_drop, List.length_take]; omega) (by decide), fun t3 ht3 => ?_⟩
  have st3 := same_upd (o := .lst (ws.drop f ++ ws.take f)) ht3
  have s13 := st1.trans (st2.trans st3)
  refine q _ t3 _ (S9.trans s13) ((S9.trans (st1.trans st2)).free ht3) ⟨_, upd_same, Pps.app ((hws.take f).same s13) ((hws.drop f).same s13)⟩ ?_
  have tl := turn_lags ml f
  exact ⟨tl.len, tl.ok.mono (by decide), tl.zero⟩

def sp_common : Sp := fun vs H Q _ => ∃ a b : Int, vs = [.int a, .int b] ∧ 0 < b ∧ Q (.int (gc a b)) H
theorem ok_common {k : Nat} (D : Df K mg "common" s_common ["a", "b"]) : FnOk P w K mg base CX0 (k + 1) D.f D.fd ["a", "b"] sp_common := by
  refine D.F.ok sc_common (fun vs H Q E h => ?_) (fun cdv A outer s H vs Q E hr h => ?_)
  · obtain ⟨a, b, rfl, _⟩ := h
    rfl
  · obtain ⟨a, b, rfl, hb, q⟩ := h
    refine ⟨_, (pss_cons (ps_while PassesOwn.never (pt_cmpR op_gt (pv 1) pe_int (nomark _)) (pss_one (ps_par (i := 0) (j := 1) (by rfl) sc_common.nd rfl rfl (by decide) rfl rfl (pa_cons (pv 1) (pa_cons (pe_op op_mod (pv 0) (pv 1)) pa_nil)) (by rfl))))
      (pss_one (ps_ret (pv 0)))), ?_⟩
    refine while_by (fun σ H' => ∃ x y : Int, σ = [some (.int x), some (.int y)] ∧ H' = H ∧ 0 ≤ y ∧ Int.gcd x y = Int.gcd a b ∧ (y = 0 → 0 ≤ x))
      (fun σ _ => match σ with | [_, some (.int y)] => y.toNat | _ => 0) ⟨a, b, rfl, rfl, by omega, rfl, by omega⟩ ?_ ?_
    · rintro σ H' ⟨x, y, rfl, rfl, h0, hg, hz⟩
      refine ⟨_, rfl, _, _, rfl, rfl, _, rfl, ite2 (fun e => ?_) (fun e => ?_)⟩
      · have e1 : 0 < y := of_decide_eq_true e
        refine ⟨_, rfl, _, rfl, _, rfl, _, _, rfl, rfl, e1, _, _, rfl, ⟨y, x % y, rfl, rfl, Int.emod_nonneg x (by omega), gc_step.trans hg, fun _ => by omega⟩, ?_⟩
        show (x % y).toNat < y.toNat
        have := Int.emod_lt_of_pos x e1
        have := Int.emod_nonneg x (show y ≠ 0 by omega)
        omega
      · have e1 : ¬ 0 < y := fun z => e (decide_eq_true z)
        have e2 : y = 0 := by omega
        subst e2
        refine ⟨_, rfl, ?_⟩
        have e3 : x = gc a b := by
          unfold gc
          rw [← hg, Int.gcd_zero]
          have := hz rfl
          omega
        rw [e3]
        exact q
    · rintro σ H' Q1 Q2 hq ⟨v, e, i, j, e1, e2, c, e3, r⟩
      exact ⟨v, e, i, j, e1, e2, c, e3, hq _ _ r⟩

theorem ok_lowest {k : Nat} (D : Df K mg "lowest" s_lowest ["top", "bottom"]) (D_common : Df K mg "common" s_common ["a", "b"]) : FnOk P w K mg base CX0 (k + 2) D.f D.fd ["top", "bottom"] (sp_lowest K) := by
  have G_common : FnOk P w K mg base CX0 1 D_common.f D_common.fd ["a", "b"] sp_common := ok_common D_common
  refine D.F.ok sc_lowest (fun vs H Q E h => ?_) (fun cdv A outer s H vs Q E hr h => ?_)
  · obtain ⟨a, b, rfl, _⟩ := h
    rfl
  · obtain ⟨t, b, rfl, hb, hB, q⟩ := h
    refine ⟨_, (pss_cons (ps_set (i := 2) sc_lowest.nd rfl (.inl rfl) (pe_call G_common (hr.mono (by omega)) (by rfl) D_common.g D_common.F.kp D_common.b .nil pass0 (pa_cons (pv 0) (pa_cons (pv 1) pa_nil))))
      (pss_one (ps_ret (pe_tup (pa_cons (pe_op op_fdivW (pv 0) (pv 2)) (pa_cons (pe_op op_fdivW (pv 1) (pv 2)) pa_nil)))))), ?_⟩
    have hg := gc_pos (a := t) hb
    have hk := hB.gc (x := t) hb
    refine ⟨_, rfl, _, rfl, t, b, rfl, hb, ?_⟩
    refine ⟨_, rfl, _, rfl, _, _, rfl, rfl, bd_divok hg hk (by decide), _, rfl, _, rfl, _, _, rfl, rfl, bd_divok hg hk (by decide), (by show 2 ≤ sizeLine; decide), fun p hp => ?_⟩
    exact q _ _ (same_upd hp) Pr.new

theorem ok_plus {k : Nat} (D : Df K mg "plus" s_plus ["a", "b"]) (D_common : Df K mg "common" s_common ["a", "b"]) : FnOk P w K mg base CX0 (k + 2) D.f D.fd ["a", "b"] (sp_two K lowC addP) := by
  have G_common : FnOk P w K mg base CX0 1 D_common.f D_common.fd ["a", "b"] sp_common := ok_common D_common
  refine D.F.ok sc_plus (fun vs H Q E h => len_two h) (fun cdv A outer s H vs Q E hr h => ?_)
  obtain ⟨v, u, x, y, n, m, rfl, ⟨p, rfl, hp⟩, ⟨r, rfl, hq⟩, ox, oy, hn, ⟨lx, ly⟩, q⟩ := h
  refine ⟨_, (pss_cons (ps_set (i := 2) sc_plus.nd rfl (.inl rfl) (pe_call G_common (hr.mono (by omega)) (by rfl) D_common.g D_common.F.kp D_common.b .nil pass0 (pa_cons (pe_ix ix_tup (pv 0) pe_int (fun _ _ => rfl)) (pa_cons (pe_ix ix_tup (pv 1) pe_int (fun _ _ => rfl)) pa_nil))))
      (pss_cons (ps_set (i := 3) sc_plus.nd rfl (.inl rfl) (pe_op op_fdivW (pe_ix ix_tup (pv 0) pe_int (fun _ _ => rfl)) (pv 2)))
      (pss_cons (ps_set (i := 4) sc_plus.nd rfl (.inl rfl) (pe_op op_add (pe_op op_mulW (pe_ix ix_tup (pv 0) pe_int (fun _ _ => rfl)) (pe_op op_fdivW (pe_ix ix_tup (pv 1) pe_int (fun _ _ => rfl)) (pv 2))) (pe_op op_mulW (pe_ix ix_tup (pv 1) pe_int (fun _ _ => rfl)) (pv 3))))
      (pss_cons (ps_set (i := 5) sc_plus.nd rfl (.inl rfl) (pe_call G_common (hr.mono (by omega)) (by rfl) D_common.g D_common.F.kp D_common.b .nil pass0 (pa_cons (pv 4) (pa_cons (pv 2) pa_nil))))
      (pss_one (ps_ret (pe_tup (pa_cons (pe_op op_fdivW (pv 4) (pv 5)) (pa_cons (pe_op op_mulW (pv 3) (pe_op op_fdivW (pe_ix ix_tup (pv 1) pe_int (fun _ _ => rfl)) (pv 5))) pa_nil))))))))), ?_⟩
  have hs := gc_pos (a := x.2) oy.pos
  have bs := oy.bot.gc (x := x.2) oy.pos
  have br := ox.bot.div (gc_dl x.2 y.2)
  have bt := (ox.top.mul (oy.bot.div (gc_dr x.2 y.2))).add ((oy.top.mul br).mono (show m + n ≤ n + m by omega))
  have hg := gc_pos (a := x.1 * (y.2 / gc x.2 y.2) + y.1 * (x.2 / gc x.2 y.2)) hs
  have bg := bs.gc (x := x.1 * (y.2 / gc x.2 y.2) + y.1 * (x.2 / gc x.2 y.2)) hs
  have gd : gc (x.1 * (y.2 / gc x.2 y.2) + y.1 * (x.2 / gc x.2 y.2)) (gc x.2 y.2) ∣ y.2 := Int.dvd_trans (gc_dr _ _) (gc_dr _ _)
  refine ⟨_, rfl, p, _, 1, _, rfl, rfl, hp, rfl, _, rfl, r, _, 1, _, rfl, rfl, hq, rfl, _, _, rfl, oy.pos, ?_⟩
  refine ⟨_, rfl, p, _, 1, _, rfl, rfl, hp, rfl, _, rfl, _, _, rfl, rfl, bd_divok hs bs (by omega), ?_⟩
  refine ⟨_, rfl, p, _, 0, _, rfl, rfl, hp, rfl, _, rfl, r, _, 1, _, rfl, rfl, hq, rfl, _, rfl, _, _, rfl, rfl, bd_divok hs bs (by omega), _, _, rfl, rfl, bd_mulok ox.top (oy.bot.div (gc_dr x.2 y.2)) (by omega), _, rfl, r, _, 0, _, rfl, rfl, hq, rfl, _, rfl, _, _, rfl, rfl, bd_mulok oy.top br (by omega), _, _, rfl, rfl, ?_⟩
  refine ⟨_, rfl, _, rfl, _, _, rfl, hs, ?_⟩
  refine ⟨_, rfl, _, rfl, _, _, rfl, rfl, bd_divok hg bg (by omega), _, rfl, _, rfl, r, _, 1, _, rfl, rfl, hq, rfl, _, rfl, _, _, rfl, rfl, bd_divok hg bg (by omega), _, _, rfl, rfl, bd_mulok br (oy.bot.div gd) (by omega), (by show 2 ≤ sizeLine; decide), fun t ht => ?_⟩
  refine q _ _ (same_upd ht) ?_
  obtain ⟨e1, e2⟩ := plus_is lx ly
  show Pr K _ _ (addP x y).1 (addP x y).2
  unfold addP lowP
  dsimp only
  rw [← e1, ← e2]
  exact Pr.new

theorem ok_times {k : Nat} (D : Df K mg "times" s_times ["a", "b"]) (D_common : Df K mg "common" s_common ["a", "b"]) (D_lowest : Df K mg "lowest" s_lowest ["top", "bottom"]) : FnOk P w K mg base CX0 (k + 3) D.f D.fd ["a", "b"] (sp_two K anyC mulP) := by
  have G_lowest : FnOk P w K mg base CX0 2 D_lowest.f D_lowest.fd ["top", "bottom"] (sp_lowest K) := ok_lowest D_lowest D_common
  refine D.F.ok sc_times (fun vs H Q E h => len_two h) (fun cdv A outer s H vs Q E hr h => ?_)
  obtain ⟨v, u, x, y, n, m, rfl, ⟨p, rfl, hp⟩, ⟨r, rfl, hq⟩, ox, oy, hn, _, q⟩ := h
  refine ⟨_, (pss_one (ps_ret (pe_call G_lowest (hr.mono (by omega)) (by rfl) D_lowest.g D_lowest.F.kp D_lowest.b .nil pass0 (pa_cons (pe_op op_mulW (pe_ix ix_tup (pv 0) pe_int (fun _ _ => rfl)) (pe_ix ix_tup (pv 1) pe_int (fun _ _ => rfl))) (pa_cons (pe_op op_mulW (pe_ix ix_tup (pv 0) pe_int (fun _ _ => rfl)) (pe_ix ix_tup (pv 1) pe_int (fun _ _ => rfl))) pa_nil))))), ?_⟩
  refine ⟨_, rfl, p, _, 0, _, rfl, rfl, hp, rfl, _, rfl, r, _, 0, _, rfl, rfl, hq, rfl, _, _, rfl, rfl, bd_mulok ox.top oy.top (by omega), ?_⟩
  refine ⟨_, rfl, p, _, 1, _, rfl, rfl, hp, rfl, _, rfl, r, _, 1, _, rfl, rfl, hq, rfl, _, _, rfl, rfl, bd_mulok ox.bot oy.bot (by omega), ?_⟩
  exact ⟨_, _, rfl, Int.mul_pos ox.pos oy.pos, (ox.bot.mul oy.bot).mono (by omega), fun H' r' sm pr => q _ _ sm pr⟩

theorem ok_total {k : Nat} (D : Df K mg "total" s_total ["row"]) (D_common : Df K mg "common" s_common ["a", "b"]) (D_plus : Df K mg "plus" s_plus ["a", "b"]) : FnOk P w K mg base CX0 (k + 3) D.f D.fd ["row"] (sp_sum K lowS) := by
  have G_plus : FnOk P w K mg base CX0 2 D_plus.f D_plus.fd ["a", "b"] (sp_two K lowC addP) := ok_plus D_plus D_common
  refine D.F.ok sc_total (fun vs H Q E h => ?_) (fun cdv A outer s H vs Q E hr h => ?_)
  · obtain ⟨l, us, xs, rfl, _⟩ := h
    rfl
  obtain ⟨l, us, xs, rfl, hl, hP, ho, hn, hC, q⟩ := h
  refine ⟨_, (pss_cons (ps_set (i := 1) sc_total.nd rfl (.inl rfl) (pe_tup (pa_cons pe_int (pa_cons pe_int pa_nil))))
      (pss_cons (ps_for PassesOwn.never rfl (pi_list (pv 0)) (pg_name (i := 2) sc_total.nd rfl (.inl rfl)) (pss_one (ps_set (i := 1) sc_total.nd rfl (.inl rfl) (pe_call G_plus (hr.mono (by omega)) (by rfl) D_plus.g D_plus.F.kp D_plus.b .nil pass0 (pa_cons (pv 1) (pa_cons (pv 2) pa_nil))))))
      (pss_one (ps_ret (pv 1))))), ?_⟩
  refine ⟨(by show 2 ≤ sizeLine; decide), fun t ht => ?_⟩
  refine ⟨_, rfl, l, rfl, ⟨_, (same_upd ht).seq hl⟩, ?_⟩
  refine for_list (xs := us) (fun i σ H3 => ∃ v y2, σ = [some (.ref l), some v, y2] ∧ Same H H3 ∧ Pp K H3 v (sumP (xs.take i)) ∧ Ok (201 * (i + 1)) (sumP (xs.take i)) ∧ Low (sumP (xs.take i)).1 (sumP (xs.take i)).2)
    ⟨_, _, rfl, same_upd ht, Pr.new, sumP_ok0, sumP_low0⟩ (fun i σ H3 _ hW => ?_) (fun i z σ H3 hz hW => ?_) (fun σ H3 hW => ?_)
  · obtain ⟨v, y2, rfl, sm, _⟩ := hW
    exact sm.seq hl
  · obtain ⟨v, y2, rfl, sm, pv', ov, lv⟩ := hW
    obtain ⟨x, hx, px⟩ := pps_get hP hz
    have hi := List.getElem?_eq_some_iff.1 hx
    obtain ⟨hi, ex⟩ := hi
    have hmem : x ∈ xs := ex ▸ List.getElem_mem hi
    refine ⟨_, rfl, _, rfl, v, z, _, x, _, 200, rfl, pv', px.same sm, ov, ho x hmem, by omega, ⟨lv, hC x hmem⟩, fun H4 r sm4 pr => ?_⟩
    have es := sumP_take hx
    refine ⟨r, _, rfl, sm.trans sm4, ?_, ?_, ?_⟩
    · rw [es]
      exact pr
    · rw [es]
      exact (addP_ok ov (ho x hmem)).mono (by omega)
    · rw [es]
      exact addP_low ov.pos (ho x hmem).pos
  · obtain ⟨v, y2, rfl, sm, pv', ov, lv⟩ := hW
    rw [hP.len, List.take_length] at pv' ov lv
    exact ⟨_, rfl, q _ _ sm pv' (ov.mono (by omega)) lv⟩

theorem ok_minus {k : Nat} (D : Df K mg "minus" s_minus ["a", "b"]) (D_common : Df K mg "common" s_common ["a", "b"]) (D_plus : Df K mg "plus" s_plus ["a", "b"]) : FnOk P w K mg base CX0 (k + 3) D.f D.fd ["a", "b"] (sp_two K lowC subP) := by
  have G_plus : FnOk P w K mg base CX0 2 D_plus.f D_plus.fd ["a", "b"] (sp_two K lowC addP) := ok_plus D_plus D_common
  refine D.F.ok sc_minus (fun vs H Q E h => len_two h) (fun cdv A outer s H vs Q E hr h => ?_)
  obtain ⟨v, u, x, y, n, m, rfl, hp, ⟨r, rfl, hq⟩, ox, oy, hn, ⟨lx, ly⟩, q⟩ := h
  refine ⟨_, (pss_one (ps_ret (pe_call G_plus (hr.mono (by omega)) (by rfl) D_plus.g D_plus.F.kp D_plus.b .nil pass0 (pa_cons (pv 0) (pa_cons (pe_tup (pa_cons (pe_un un_neg (pe_ix ix_tup (pv 1) pe_int (fun _ _ => rfl))) (pa_cons (pe_ix ix_tup (pv 1) pe_int (fun _ _ => rfl)) pa_nil))) pa_nil))))), ?_⟩
  refine ⟨_, rfl, _, rfl, r, _, 0, _, rfl, rfl, hq, rfl, _, rfl, _, rfl, r, _, 1, _, rfl, rfl, hq, rfl, (by show 2 ≤ sizeLine; decide), fun t ht => ?_⟩
  refine ⟨_, _, x, (-y.1, y.2), n, m, rfl, hp.same (same_upd ht), Pr.new, ox, ⟨oy.pos, oy.top.neg, oy.bot⟩, hn, ⟨lx, low_neg ly⟩, fun H' r' sm pr => ?_⟩
  rw [subP_eq] at pr
  exact q _ _ ((same_upd ht).trans sm) pr

def sp_below (K : PySem.W.Frag) : Sp := fun vs H Q _ => ∃ (v u : V) (a b c d : Int) (n : Nat), vs = [v, u] ∧ Pr K H v a b ∧ Pr K H u c d ∧ (Bd n a ∧ Bd n b ∧ Bd n c ∧ Bd n d) ∧ n ≤ 9000 ∧ Q (.bl (decide (a * d < c * b))) H
theorem ok_below {k : Nat} (D : Df K mg "below" s_below ["a", "b"]) : FnOk P w K mg base CX0 (k + 1) D.f D.fd ["a", "b"] (sp_below K) := by
  refine D.F.ok sc_below (fun vs H Q E h => ?_) (fun cdv A outer s H vs Q E hr h => ?_)
  · obtain ⟨v, u, a, b, c, d, n, rfl, _⟩ := h
    rfl
  · obtain ⟨v, u, a, b, c, d, n, rfl, ⟨p, rfl, hp⟩, ⟨r, rfl, hq⟩, ⟨b1, b2, b3, b4⟩, hn, q⟩ := h
    refine ⟨_, (pss_one (ps_ret (pe_cmpR op_lt (pe_op op_mulW (pe_ix ix_tup (pv 0) pe_int (fun _ _ => rfl)) (pe_ix ix_tup (pv 1) pe_int (fun _ _ => rfl))) (pe_op op_mulW (pe_ix ix_tup (pv 1) pe_int (fun _ _ => rfl)) (pe_ix ix_tup (pv 0) pe_int (fun _ _ => rfl))) (nomark _)))), ?_⟩
    refine ⟨_, rfl, p, _, 0, _, rfl, rfl, hp, rfl, _, rfl, r, _, 1, _, rfl, rfl, hq, rfl, _, _, rfl, rfl, bd_mulok b1 b4 (by omega), ?_⟩
    exact ⟨_, rfl, r, _, 0, _, rfl, rfl, hq, rfl, _, rfl, p, _, 1, _, rfl, rfl, hp, rfl, _, _, rfl, rfl, bd_mulok b3 b2 (by omega), _, _, rfl, rfl, q⟩

theorem ok_unit_sum {k : Nat} (D : Df K mg "unit_sum" s_unit_sum ["first", "last"]) (D_common : Df K mg "common" s_common ["a", "b"]) (D_plus : Df K mg "plus" s_plus ["a", "b"]) (D_total : Df K mg "total" s_total ["row"]) (m_range : mg "range" = none) : FnOk P w K mg base CX0 (k + 4) D.f D.fd ["first", "last"] (sp_unit K) := by
  have G_total : FnOk P w K mg base CX0 3 D_total.f D_total.fd ["row"] (sp_sum K lowS) := ok_total D_total D_common D_plus
  refine D.F.ok sc_unit_sum (fun vs H Q E h => ?_) (fun cdv A outer s H vs Q E hr h => ?_)
  · obtain ⟨f, l, rfl, _⟩ := h
    rfl
  obtain ⟨f, l, rfl, hf, hl, q⟩ := h
  refine ⟨_, (pss_one (ps_ret (pe_call G_total (hr.mono (by omega)) (by rfl) D_total.g D_total.F.kp D_total.b .nil pass0 (pa_cons (pe_lc (own := [("number", 2)]) (g := gName 2) (tt := tYes) rfl sc_unit_sum.nd (pi_range2 (by rfl) m_range (pa_cons (pv 0) (pa_cons (pe_op op_add (pv 1) pe_int) pa_nil))) (blkOk_by (N := N_unit_sum) (sc := defScope s_unit_sum) (by decide +kernel)) (fun _ _ _ _ _ => pg_name (i := 2) sc_unit_sum.nd rfl (Or.inl rfl)) (fun _ _ _ _ _ => pts_nil) (fun _ _ _ _ _ => (pe_tup (pa_cons pe_int (pa_cons (pv 2) pa_nil))))) pa_nil)))), ?_⟩
  refine ⟨_, rfl, _, rfl, _, _, rfl, rfl, _, _, rfl, ⟨by omega, by omega, by omega, by omega⟩, fun Dd hD => ?_⟩
  refine lc_range (fun i H' => ∃ us, H' Dd = some (.lst us) ∧ Pps K H' us (units f i) ∧ Same H H') ⟨[], upd_same, .nil, same_upd hD⟩ (fun i H' hi hW => ?_) (fun H' hW => ?_)
  · obtain ⟨us, eD, hP, sm⟩ := hW
    refine ⟨rfl, ?_⟩
    dsimp only [tYes]
    rw [if_pos rfl]
    refine ⟨_, rfl, (by show 2 ≤ sizeLine; decide), fun t ht => ?_⟩
    have st : Same H' (upd H' t (.tup [.int 1, .int (f + (i : Int))])) := same_upd ht
    have eD2 := st _ _ eD
    refine ⟨us, eD2, small1000 (by rw [hP.len, units_len]; omega), us ++ [.ref t], upd_same, ?_, ?_⟩
    · rw [units_succ]
      have sd : ∀ b o, (upd H' t (.tup [.int 1, .int (f + (i : Int))])) b = some o → b ≠ Dd → upd (upd H' t (.tup [.int 1, .int (f + (i : Int))])) Dd (.lst (us ++ [.ref t])) b = some o := fun b o e n => by
        rw [upd_ne n]
        exact e
      exact ((hP.same st).off sd eD2).snoc (Pp.off (x := (1, f + (i : Int))) (Pr.new) sd eD2)
    · intro b o e
      show upd (upd H' t _) Dd _ b = some o
      rw [upd_ne (ne_of_none e hD)]
      exact st _ _ (sm _ _ e)
  · obtain ⟨us, eD, hP, sm⟩ := hW
    have hn : (l + 1 - f).toNat ≤ 30 := by omega
    exact ⟨Dd, us, _, rfl, SqL.of eD, hP, fun x hx => (units_in hf.1 hf.2 hn hx).1, by rw [units_len]; exact hn, fun x hx => (units_in hf.1 hf.2 hn hx).2, fun Ha r sa pr o l' => q _ _ (sm.trans sa) pr o l'⟩

theorem ok_before {k : Nat} (D : Df K mg "before" s_before ["many"]) (D_common : Df K mg "common" s_common ["a", "b"]) (D_lowest : Df K mg "lowest" s_lowest ["top", "bottom"]) : FnOk P w K mg base CX0 (k + 3) D.f D.fd ["many"] (sp_of K beforeM) := by
  have G_lowest : FnOk P w K mg base CX0 2 D_lowest.f D_lowest.fd ["top", "bottom"] (sp_lowest K) := ok_lowest D_lowest D_common
  refine D.F.ok sc_before (fun vs H Q E h => ?_) (fun cdv A outer s H vs Q E hr h => ?_)
  · obtain ⟨n, rfl, _⟩ := h
    rfl
  obtain ⟨n, rfl, hn, q⟩ := h
  refine ⟨_, (pss_one (ps_ret (pe_call G_lowest (hr.mono (by omega)) (by rfl) D_lowest.g D_lowest.F.kp D_lowest.b .nil pass0 (pa_cons (pe_op op_sub (pv 0) pe_int) (pa_cons (pv 0) pa_nil))))), ?_⟩
  have b1 : Bd 6 (n - 1) := Bd.of (m := 60) (by omega) (by omega) (by decide)
  have b2 : Bd 6 n := Bd.of (m := 60) (by omega) (by omega) (by decide)
  exact ⟨_, rfl, _, _, rfl, rfl, _, rfl, n - 1, n, rfl, by omega, b2.mono (by decide), fun H' r sm pr => q _ _ sm pr ((lowP_ok (by omega) b1 b2).mono (by decide)) (lowP_low (by omega))⟩

def sp_most (K : PySem.W.Frag) (f : Int → Int → Q2) : Sp := fun vs H Q _ => ∃ n k : Int, vs = [.int n, .int k] ∧ (1 ≤ n ∧ n ≤ 24) ∧ (1 ≤ k ∧ k ≤ n) ∧ ∀ H' r, Same H H' → Pp K H' r (f n k) → Ok 6400 (f n k) → Q r H'
theorem ok_most {k : Nat} (D : Df K mg "most" s_most ["many", "k"]) (D_common : Df K mg "common" s_common ["a", "b"]) (D_lowest : Df K mg "lowest" s_lowest ["top", "bottom"]) (D_plus : Df K mg "plus" s_plus ["a", "b"]) (D_times : Df K mg "times" s_times ["a", "b"]) (D_total : Df K mg "total" s_total ["row"]) (D_unit_sum : Df K mg "unit_sum" s_unit_sum ["first", "last"]) (m_range : mg "range" = none) :
    FnOk P w K mg base CX0 (k + 5) D.f D.fd ["many", "k"] (sp_most K mostM) := by
  have G_unit_sum : FnOk P w K mg base CX0 4 D_unit_sum.f D_unit_sum.fd ["first", "last"] (sp_unit K) := ok_unit_sum D_unit_sum D_common D_plus D_total m_range
  have G_times : FnOk P w K mg base CX0 4 D_times.f D_times.fd ["a", "b"] (sp_two K anyC mulP) := ok_times D_times D_common D_lowest
  refine D.F.ok sc_most (fun vs H Q E h => ?_) (fun cdv A outer s H vs Q E hr h => ?_)
  · obtain ⟨n, k, rfl, _⟩ := h
    rfl
  obtain ⟨n, k, rfl, hn, hk, q⟩ := h
  refine ⟨_, (pss_one (ps_ret (pe_call G_times (hr.mono (by omega)) (by rfl) D_times.g D_times.F.kp D_times.b .nil pass0 (pa_cons (pe_tup (pa_cons (pv 1) (pa_cons pe_int pa_nil))) (pa_cons (pe_call G_unit_sum (hr.mono (by omega)) (by rfl) D_unit_sum.g D_unit_sum.F.kp D_unit_sum.b .nil pass0 (pa_cons (pe_op op_add (pv 1) pe_int) (pa_cons (pv 0) pa_nil))) pa_nil))))), ?_⟩
  have ok : Ok 6 ((k, 1) : Q2) := ok_n1 (by omega) (by omega)
  refine ⟨_, rfl, (by show 2 ≤ sizeLine; decide), fun t ht => ?_⟩
  refine ⟨_, rfl, _, _, rfl, rfl, _, rfl, k + 1, n, rfl, ⟨by omega, by omega⟩, ⟨by omega, by omega⟩, fun H' r sm pr o _ => ?_⟩
  exact ⟨_, _, (k, 1), _, 6, 6300, rfl, Pp.same (Pr.new : Pp K _ _ (k, 1)) sm, pr, ok, o, by decide, True.intro, fun H'' r' sm' pr' => q _ _ ((same_upd ht).trans (sm.trans sm')) pr' ((mulP_ok ok o).mono (by decide))⟩

def sp_turn (K : PySem.W.Frag) : Sp := fun vs H Q _ => ∃ (p : Addr) (xs : List Q2), vs = [.ref p] ∧ LP K H p xs ∧ 0 < xs.length ∧ xs.length ≤ 1000 ∧ AllOk 4000 xs ∧ ∀ H', Same H H' → Q (.int (firstM xs : Int)) H'
theorem ok_turn_of {k : Nat} (D : Df K mg "turn_of" s_turn_of ["row"]) (D_below : Df K mg "below" s_below ["a", "b"]) (m_enumerate : mg "enumerate" = none) : FnOk P w K mg base CX0 (k + 2) D.f D.fd ["row"] (sp_turn K) := by
  have G_below : FnOk P w K mg base CX0 1 D_below.f D_below.fd ["a", "b"] (sp_below K) := ok_below D_below
  refine D.F.ok sc_turn_of (fun vs H Q E h => ?_) (fun cdv A outer s H vs Q E hr h => ?_)
  · obtain ⟨p, xs, rfl, _⟩ := h
    rfl
  obtain ⟨p, xs, rfl, ⟨us, ep, hP⟩, h0, hn, hx, q⟩ := h
  refine ⟨_, (pss_cons (ps_set (i := 1) sc_turn_of.nd rfl (.inl rfl) pe_int)
      (pss_cons (ps_for PassesOwn.never rfl (pi_enum (by rfl) m_enumerate (pa_cons (pv 0) pa_nil)) (pg_tup rfl (pgs_cons (pg_name (i := 2) sc_turn_of.nd rfl (.inl rfl)) (pgs_cons (pg_name (i := 3) sc_turn_of.nd rfl (.inl rfl)) pgs_nil))) (pss_one (ps_if (pt_val (pe_call G_below (hr.mono (by omega)) (by rfl) D_below.g D_below.F.kp D_below.b .nil pass0 (pa_cons (pe_ix ix_list (pv 0) (pv 1) (fun _ _ => rfl)) (pa_cons (pv 3) pa_nil)))) (pss_one (ps_set (i := 1) sc_turn_of.nd rfl (.inl rfl) (pv 2))) pss_nil)))
      (pss_one (ps_ret (pv 1))))), ?_⟩
  have hul := hP.len
  refine ⟨_, rfl, p, us, rfl, SqL.of ep, ?_⟩
  refine for_it (walk_enum (xs := us)) (fun i σ H3 => ∃ y2 y3, σ = [some (.ref p), some (.int (firstF xs i : Int)), y2, y3] ∧ Same H H3) ⟨_, _, rfl, Same.refl _⟩ (fun i σ H3 _ hW => ?_) (fun i x σ H3 H4 hi hW hy => ?_) (fun σ H3 hW => ?_)
  · obtain ⟨_, _, _, sm⟩ := hW
    exact SqL.of (sm _ _ ep)
  · obtain ⟨y2, y3, rfl, sm⟩ := hW
    obtain ⟨T, x1, x2, rfl, nT, rfl, f1, f2⟩ := hy
    cases f1
    have hf := firstF_lt xs i
    have hfl : firstF xs i < xs.length := by omega
    have hil : i < xs.length := by omega
    obtain ⟨v1, g1, p1⟩ := pps_at hP (item_some hfl)
    obtain ⟨v2, g2, p2⟩ := pps_at hP (item_some hil)
    obtain rfl : x2 = v2 := Option.some.inj (f2.symm.trans g2)
    have st := same_upd (o := .tup [.int ((i : Nat) : Int), x2]) nT
    have sm2 := sm.trans st
    have o1 := (item_ok hx hfl).1
    have o2 := (item_ok hx hil).1
    refine ⟨T, _, rfl, SqT.of upd_same, rfl, _, _, rfl, _, _, rfl, rfl, ?_⟩
    refine ⟨_, rfl, _, rfl, p, us, _, v1, rfl, rfl, SqL.of (sm2 _ _ ep), atI_nat g1, _, rfl, v1, x2, _, _, _, _, 4000, rfl, p1.same sm2, p2.same sm2, ⟨o1.top, o1.bot, o2.top, o2.bot⟩, by decide, _, rfl, ite2 (fun e => ?_) (fun e => ?_)⟩
    · refine ⟨_, rfl, some (.int ((i : Nat) : Int)), some x2, ?_, sm2⟩
      have : firstF xs (i + 1) = i := by
        unfold firstF
        exact if_pos e
      rw [this]
      rfl
    · refine ⟨some (.int ((i : Nat) : Int)), some x2, ?_, sm2⟩
      have : firstF xs (i + 1) = firstF xs i := by
        show (if lessP (itemP xs (firstF xs i)) (itemP xs i) = true then i else firstF xs i) = _
        exact if_neg e
      rw [this]
      rfl
  · obtain ⟨y2, y3, rfl, sm⟩ := hW
    rw [hul]
    exact ⟨_, rfl, q _ sm⟩

theorem ok_by_size {k : Nat} (D : Df K mg "by_size" s_by_size ["lags"]) (D_below : Df K mg "below" s_below ["a", "b"]) (D_turn_of : Df K mg "turn_of" s_turn_of ["row"]) (m_enumerate : mg "enumerate" = none) (m_list : mg "list" = none) : FnOk P w K mg base CX0 (k + 3) D.f D.fd ["lags"] (sp_fall K) := by
  have G_turn_of : FnOk P w K mg base CX0 2 D_turn_of.f D_turn_of.fd ["row"] (sp_turn K) := ok_turn_of D_turn_of D_below m_enumerate
  refine D.F.ok sc_by_size (fun vs H Q E h => ?_) (fun cdv A outer s H vs Q E hr h => ?_)
  · obtain ⟨p, xs, rfl, _⟩ := h
    rfl
  obtain ⟨p, xs, rfl, ⟨us, ep, hP⟩, hn, hx, q⟩ := h
  refine ⟨_, (pss_cons (ps_set (i := 1) sc_by_size.nd rfl (.inl rfl) (pe_callTy call_list_of (by rfl) m_list PyProof.Rows.boot_list (pa_cons (pv 0) pa_nil)))
      (pss_cons (ps_set (i := 2) sc_by_size.nd rfl (.inl rfl) (pe_lst pa_nil))
      (pss_cons (ps_while PassesOwn.never (pt_truth (pv 1) (by intro _; rfl)) (pss_one (ps_expr (pe_bm PySem.F.plainAttrs_list PySem.F.slot_list_append PySem.F.type_list_append mt_append (pv 2) (pa_cons (pe_bm PySem.F.plainAttrs_list PySem.F.slot_list_pop PySem.F.type_list_pop mt_popAt (pv 1) (pa_cons (pe_call G_turn_of (hr.mono (by omega)) (by rfl) D_turn_of.g D_turn_of.F.kp D_turn_of.b .nil pass0 (pa_cons (pv 1) pa_nil)) pa_nil)) pa_nil)))))
      (pss_one (ps_ret (pv 2)))))), ?_⟩
  refine ⟨_, rfl, p, us, rfl, .inl (SqL.of ep), fun pr npr => ?_⟩
  have s1 := same_upd (o := .lst us) npr
  refine ⟨(by show 0 ≤ sizeLine; decide), fun pf npf' => ?_⟩
  have npf : H pf = none := s1.free npf'
  have hne : pr ≠ pf := ne_of_none (upd_same (H := H) (a := pr) (o := .lst us)) npf'
  refine ⟨fallW K H xs pr pf (fun σ => σ = [some (.ref p), some (.ref pr), some (.ref pf)]), ⟨_, xs, [], rfl, rfl, ⟨us, same_upd npf' _ _ upd_same, (hP.same s1).same (same_upd npf')⟩, ⟨[], upd_same, .nil⟩, rfl, by rw [List.length_nil]; omega, hx, s1.trans (same_upd npf')⟩, fun m σ H' hW => ?_⟩
  obtain ⟨ys, done, rfl, rfl, ⟨vs, evs, hvs⟩, ⟨ws, ews, hws⟩, hf, hl, hy, sm⟩ := hW
  refine ⟨_, rfl, _, .inl ⟨vs, SqL.of evs, rfl⟩, ite2 (fun e => ?_) (fun e => ?_)⟩
  · have h0 : 0 < ys.length := by
      rw [← hvs.len]
      cases vs with
      | nil => cases e
      | cons => exact Nat.succ_pos _
    have hul := hvs.len
    have ff := firstM_lt h0
    refine ⟨fun σ' H'' => ∃ m', m' < ys.length ∧ fallW K H xs pr pf (fun σ => σ = [some (.ref p), some (.ref pr), some (.ref pf)]) m' σ' H'', fun _ _ hN => hN, ?_⟩
    obtain ⟨v1, g1, p1⟩ := pps_at hvs (item_some ff)
    refine ⟨_, rfl, .inl ⟨rfl, _, SqL.of ews⟩, _, rfl, .inl ⟨rfl, _, SqL.of evs⟩, _, rfl, pr, ys, rfl, ⟨vs, evs, hvs⟩, h0, by omega, hy, fun H3 s3 => ?_⟩
    have evs3 := s3 _ _ evs
    have ews3 := s3 _ _ ews
    refine ⟨pr, vs, _, firstM ys, v1, rfl, rfl, evs3, by omega, by show ((firstM ys : Nat) : Int) < 2 ^ 63; omega, by rw [hul]; exact six_nat ff, g1, ?_⟩
    have nw : pf ≠ pr := fun z => hne z.symm
    have e2 : upd H3 pr (.lst (vs.eraseIdx (firstM ys))) pf = some (.lst ws) := by rw [upd_ne nw]; exact ews3
    have hk : ∀ b o, H3 b = some o → b ≠ pr → upd H3 pr (.lst (vs.eraseIdx (firstM ys))) b = some o := fun b o eb nb => by rw [upd_ne nb]; exact eb
    have hws2 := (hws.same s3).off hk evs3
    have hvs2 := ((hvs.same s3).erase (firstM ys)).off hk evs3
    have p2 := (p1.same s3).off hk evs3
    refine ⟨pf, ws, v1, rfl, rfl, e2, small1000 (by rw [hws.len]; omega), ?_⟩
    have hk2 : ∀ b o, upd H3 pr (.lst (vs.eraseIdx (firstM ys))) b = some o → b ≠ pf → upd (upd H3 pr (.lst (vs.eraseIdx (firstM ys)))) pf (.lst (ws ++ [v1])) b = some o := fun b o eb nb => by rw [upd_ne nb]; exact eb
    refine ⟨(ys.eraseIdx (firstM ys)).length, by rw [List.length_eraseIdx, if_pos ff]; omega, ys.eraseIdx (firstM ys), done ++ [itemP ys (firstM ys)], rfl, rfl, ⟨_, by rw [upd_ne hne]; exact upd_same, hvs2.off hk2 e2⟩, ⟨_, upd_same, pps_grow e2 hws2 p2⟩, fall_split hf h0, by rw [List.length_append, List.length_eraseIdx, if_pos ff]; simp; omega, hy.erase _, same_at npf (same_at npr (sm.trans s3))⟩
  · have h0 : ys = [] := by
      have := hvs.len
      cases vs with
      | nil => exact List.length_eq_zero_iff.1 this.symm
      | cons v vs => exact absurd rfl e
    subst h0
    refine ⟨_, rfl, q _ _ sm npf ⟨ws, ews, ?_⟩⟩
    rw [hf, fall_nil, List.append_nil]
    exact hws

theorem ok_keeps {k : Nat} (D : Df K mg "keeps" s_keeps ["lags"]) (D_common : Df K mg "common" s_common ["a", "b"]) (D_lowest : Df K mg "lowest" s_lowest ["top", "bottom"]) (D_plus : Df K mg "plus" s_plus ["a", "b"]) (D_minus : Df K mg "minus" s_minus ["a", "b"]) (D_times : Df K mg "times" s_times ["a", "b"]) (D_total : Df K mg "total" s_total ["row"]) (D_below : Df K mg "below" s_below ["a", "b"])
    (D_unit_sum : Df K mg "unit_sum" s_unit_sum ["first", "last"]) (D_before : Df K mg "before" s_before ["many"]) (D_most : Df K mg "most" s_most ["many", "k"]) (D_turn_of : Df K mg "turn_of" s_turn_of ["row"]) (D_by_size : Df K mg "by_size" s_by_size ["lags"])
    (m_enumerate : mg "enumerate" = none) (m_list : mg "list" = none) (m_len : mg "len" = none) (m_range : mg "range" = none) (m_any : mg "any" = none) : FnOk P w K mg base CX0 (k + 6) D.f D.fd ["lags"] (sp__law_keeps K) := by
  have G_by_size : FnOk P w K mg base CX0 5 D_by_size.f D_by_size.fd ["lags"] (sp_fall K) := ok_by_size D_by_size D_below D_turn_of m_enumerate m_list
  have G_minus : FnOk P w K mg base CX0 5 D_minus.f D_minus.fd ["a", "b"] (sp_two K lowC subP) := ok_minus D_minus D_common D_plus
  have G_plus : FnOk P w K mg base CX0 5 D_plus.f D_plus.fd ["a", "b"] (sp_two K lowC addP) := ok_plus D_plus D_common
  have G_before : FnOk P w K mg base CX0 5 D_before.f D_before.fd ["many"] (sp_of K beforeM) := ok_before D_before D_common D_lowest
  have G_most : FnOk P w K mg base CX0 5 D_most.f D_most.fd ["many", "k"] (sp_most K mostM) := ok_most D_most D_common D_lowest D_plus D_times D_total D_unit_sum m_range
  have G_below : FnOk P w K mg base CX0 5 D_below.f D_below.fd ["a", "b"] (sp_below K) := ok_below D_below
  refine D.F.ok sc_keeps (fun vs H Q E h => ?_) (fun cdv A outer s H vs Q E hr h => ?_)
  · obtain ⟨p, xs, rfl, _⟩ := h
    rfl
  obtain ⟨p, xs, rfl, lp, h1, h2, ox, q⟩ := h
  refine ⟨_, (pss_cons (ps_set (i := 1) sc_keeps.nd rfl (.inl rfl) (pe_callB call_len_seq (by rfl) m_len PySem.boot_len (pa_cons (pv 0) pa_nil)))
      (pss_cons (ps_set (i := 2) sc_keeps.nd rfl (.inr rfl) (pe_call G_minus (hr.mono (by omega)) (by rfl) D_minus.g D_minus.F.kp D_minus.b .nil pass0 (pa_cons (pe_tup (pa_cons pe_int (pa_cons pe_int pa_nil))) (pa_cons (pe_call G_before (hr.mono (by omega)) (by rfl) D_before.g D_before.F.kp D_before.b .nil pass0 (pa_cons (pv 1) pa_nil)) pa_nil))))
      (pss_cons (ps_if (pt_val (pe_callB (cr_any rfl) (by rfl) m_any (by decide +kernel) (pa_cons (pe_lc (own := [("lag", 3)]) (g := gName 3) (tt := tYes) rfl sc_keeps.nd (pi_list (pv 0)) (blkOk_by (N := N_keeps) (sc := defScope s_keeps) (by decide +kernel)) (fun _ _ _ _ _ => pg_name (i := 3) sc_keeps.nd rfl (Or.inl rfl)) (fun _ _ _ _ _ => pts_nil) (fun _ _ _ _ _ => (pe_call G_below (hr.mono (by omega)) (by rfl) D_below.g D_below.F.kp D_below.b .nil pass0 (pa_cons (pv 3) (pa_cons (pv 2) pa_nil))))) pa_nil))) (pss_one (ps_ret pe_bl)) pss_nil)
      (pss_cons (ps_set (i := 4) sc_keeps.nd rfl (.inl rfl) (pe_tup (pa_cons pe_int (pa_cons pe_int pa_nil))))
      (pss_cons (ps_for PassesOwn.never rfl (pi_enumS (by rfl) m_enumerate (pa_cons (pe_call G_by_size (hr.mono (by omega)) (by rfl) D_by_size.g D_by_size.F.kp D_by_size.b .nil pass0 (pa_cons (pv 0) pa_nil)) pa_nil) (pk_cons pe_int pk_nil)) (pg_tup rfl (pgs_cons (pg_name (i := 5) sc_keeps.nd rfl (.inl rfl)) (pgs_cons (pg_name (i := 3) sc_keeps.nd rfl (.inl rfl)) pgs_nil))) (pss_cons (ps_set (i := 4) sc_keeps.nd rfl (.inl rfl) (pe_call G_plus (hr.mono (by omega)) (by rfl) D_plus.g D_plus.F.kp D_plus.b .nil pass0 (pa_cons (pv 4) (pa_cons (pv 3) pa_nil))))
      (pss_one (ps_if (pt_val (pe_call G_below (hr.mono (by omega)) (by rfl) D_below.g D_below.F.kp D_below.b .nil pass0 (pa_cons (pe_call G_most (hr.mono (by omega)) (by rfl) D_most.g D_most.F.kp D_most.b .nil pass0 (pa_cons (pv 1) (pa_cons (pv 5) pa_nil))) (pa_cons (pv 4) pa_nil)))) (pss_one (ps_ret pe_bl)) pss_nil))))
      (pss_one (ps_ret pe_bl))))))), ?_⟩
  obtain ⟨us, ep, hP⟩ := id lp
  have hul := hP.len
  have ob : Ok 12 (((1 - (xs.length : Int), (xs.length : Int))) : Q2) := ⟨by show (0 : Int) < (xs.length : Int); omega, Bd.of (m := 60) (by show (-60 : Int) < 1 - (xs.length : Int); omega) (by show 1 - (xs.length : Int) < 60; omega) (by decide), Bd.of (m := 60) (by show (-60 : Int) < (xs.length : Int); omega) (by show (xs.length : Int) < 60; omega) (by decide)⟩
  refine ⟨_, rfl, p, us, rfl, .inl (SqL.of ep), ?_⟩
  rw [hul]
  refine ⟨(by show 2 ≤ sizeLine; decide), fun t ht => ?_⟩
  have st := same_upd (o := .tup [.int 0, .int 1]) ht
  refine ⟨_, rfl, (xs.length : Int), rfl, ⟨by omega, by omega⟩, fun H1 r1 s1 p1 o1 l1 => ?_⟩
  refine ⟨.ref t, r1, (0, 1), beforeM (xs.length : Int), 1, 6300, rfl, Pp.same (Pr.new : Pp K _ _ (0, 1)) s1, p1, ⟨by decide, by unfold Bd; decide, by unfold Bd; decide⟩, o1, by decide, ⟨⟨by decide, rfl⟩, l1⟩, fun H2 r2 s2 p2 => ?_⟩
  rw [least_eq h2 h1] at p2
  have S2 := st.trans (s1.trans s2)
  -- any
  refine ⟨_, rfl, p, rfl, ⟨_, SqL.of (S2 _ _ ep)⟩, fun Dd hD => ?_⟩
  refine lc_list (xs := us) (fun i H' => H' Dd = some (.lst (((xs.take i).map fun x => lessP x (1 - (xs.length : Int), (xs.length : Int))).map V.bl)) ∧ Same H2 H') ⟨upd_same, same_upd hD⟩ (fun i H' _ hW => ?_) (fun i z H' hz hW => ?_) (fun H3 hW => ?_)
  · exact SqL.of (hW.2 _ _ (S2 _ _ ep))
  · obtain ⟨eD, sm⟩ := hW
    obtain ⟨x, hx, px⟩ := pps_get hP hz
    have hmem := List.mem_of_getElem? hx
    refine ⟨rfl, ?_⟩
    dsimp only [tYes]
    rw [if_pos rfl]
    have oo := (ox x hmem).1
    refine ⟨_, rfl, _, rfl, z, r2, _, _, _, _, 354, rfl, px.same (S2.trans sm), p2.same sm, ⟨oo.top, oo.bot, ob.top.mono (by decide), ob.bot.mono (by decide)⟩, by decide, ?_⟩
    refine ⟨_, eD, small1000 (by rw [List.length_map, List.length_map, List.length_take]; omega), ?_, same_at hD sm⟩
    rw [upd_same, List.take_add_one, hx]
    simp only [List.map_append, Option.toList_some, List.map_cons, List.map_nil]
    rfl
  obtain ⟨eD, s3⟩ := hW
  rw [hul, List.take_length] at eD
  have S3 := S2.trans s3
  refine ⟨Dd, _, rfl, SqL.of eD, _, rfl, ite2 (fun e => ?_) (fun e => ?_)⟩
  · refine (?_ : Q _ _)
    rw [show V.bl false = V.bl (keepsB xs) by rw [below_one ox.pos e]]
    exact q _ S3
  have e' := Bool.eq_false_iff.2 e
  have hno := fun i hi => below_none ox.pos e' (i := i) hi
  refine ⟨(by show 2 ≤ sizeLine; decide), fun t2 ht2 => ?_⟩
  have st2 := same_upd (o := .tup [.int 0, .int 1]) ht2
  refine ⟨_, rfl, p, xs, rfl, (lp.same S3).same st2, by omega, ox.mono (by decide), fun H4 pf s4 npf lpf => ?_⟩
  obtain ⟨fs, efs, hfs⟩ := lpf
  have hfl := fall_len ox.pos
  have hfsl := hfs.len
  have fo := fall_ok ox
  refine ⟨pf, fs, 1, rfl, rfl, SqL.of efs, by decide, by decide, ?_⟩
  refine for_it (walk_enumS (xs := fs)) (fun i σ H5 => ∃ v y3 y5, σ = [some (.ref p), some (.int (xs.length : Int)), some r2, y3, some v, y5] ∧ Same H4 H5 ∧ Pp K H5 v (sumP ((fallM xs).take i)) ∧ Ok (355 * (i + 1)) (sumP ((fallM xs).take i)) ∧ Low (sumP ((fallM xs).take i)).1 (sumP ((fallM xs).take i)).2 ∧ ∀ j, j < i → okAt xs j = true)
    ⟨_, _, _, rfl, Same.refl _, Pp.same (Pr.new : Pp K _ _ (0, 1)) s4, (⟨by decide, by unfold Bd; decide, by unfold Bd; decide⟩ : Ok 1 (sumP [])).mono (by decide), sumP_low0, fun j hj => absurd hj (Nat.not_lt_zero _)⟩ (fun i σ H5 _ hW => ?_) (fun i x σ H5 H6 hi hW hy => ?_) (fun σ H5 hW => ?_)
  · obtain ⟨_, _, _, _, sm, _⟩ := hW
    exact SqL.of (sm _ _ efs)
  · obtain ⟨v, y3, y5, rfl, sm, pv', ov, lv, hok⟩ := hW
    obtain ⟨T, x1, x2, rfl, nT, rfl, f1, f2⟩ := hy
    cases f1
    obtain ⟨z, hz, pz⟩ := pps_get hfs f2
    have hil : i < (fallM xs).length := by omega
    have ez : z = itemP (fallM xs) i := Option.some.inj (hz.symm.trans (item_some hil))
    have oz := fo z (List.mem_of_getElem? hz)
    have sT := same_upd (o := .tup [.int (1 + ((i : Nat) : Int)), x2]) nT
    have sm2 := sm.trans sT
    refine ⟨T, _, rfl, SqT.of upd_same, rfl, _, _, rfl, _, _, rfl, rfl, ?_⟩
    refine ⟨_, rfl, _, rfl, v, x2, _, z, _, 354, rfl, pv'.same sT, pz.same sm2, ov, oz.1, by omega, ⟨lv, oz.2⟩, fun H7 r7 s7 p7 => ?_⟩
    rw [ez, ← sum_step hil] at p7
    have o7 : Ok (355 * (i + 1 + 1)) (sumP ((fallM xs).take (i + 1))) := by
      rw [sum_step hil, ← ez]
      exact (addP_ok ov oz.1).mono (by omega)
    have l7 : Low (sumP ((fallM xs).take (i + 1))).1 (sumP ((fallM xs).take (i + 1))).2 := by
      rw [sum_step hil, ← ez]
      exact addP_low ov.pos oz.1.pos
    refine ⟨_, rfl, _, rfl, (xs.length : Int), 1 + ((i : Nat) : Int), rfl, ⟨by omega, by omega⟩, ⟨by omega, by omega⟩, fun H8 r8 s8 p8 o8 => ?_⟩
    have ek : (1 + ((i : Nat) : Int)) = ((i + 1 : Nat) : Int) := by omega
    rw [ek] at p8 o8
    refine ⟨_, rfl, r8, r7, _, _, _, _, 8900, rfl, p8, p7.same s8, ⟨o8.top.mono (by decide), o8.bot.mono (by decide), o7.top.mono (by omega), o7.bot.mono (by omega)⟩, by decide, _, rfl, ite2 (fun e2 => ?_) (fun e2 => ?_)⟩
    · refine (?_ : Q _ _)
      have hf : okAt xs i = false := by
        rw [okAt_eq h2 (by omega)]
        have : lessP (mostM (xs.length : Int) ((i + 1 : Nat) : Int)) (sumP ((fallM xs).take (i + 1))) = true := e2
        rw [this]
        rfl
      rw [show V.bl false = V.bl (keepsB xs) by rw [keeps_no (by omega) hf]]
      exact q _ (S3.trans (st2.trans (s4.trans (sm2.trans (s7.trans s8)))))
    · refine ⟨r7, some x2, some (.int (1 + ((i : Nat) : Int))), rfl, sm2.trans (s7.trans s8), p7.same s8, o7, l7, fun j hj => ?_⟩
      by_cases hji : j < i
      · exact hok j hji
      · obtain rfl : j = i := by omega
        rw [okAt_eq h2 (by omega), hno j (by omega)]
        have : lessP (mostM (xs.length : Int) ((j + 1 : Nat) : Int)) (sumP ((fallM xs).take (j + 1))) = false := Bool.eq_false_iff.2 e2
        rw [this]
        rfl
  · obtain ⟨v, y3, y5, rfl, sm, _, _, _, hok⟩ := hW
    refine (?_ : Q _ _)
    rw [show V.bl true = V.bl (keepsB xs) by rw [keeps_yes fun j hj => hok j (by omega)]]
    exact q _ (S3.trans (st2.trans (s4.trans sm)))

def rs0 (rs : List Int) (z : Int) : List Int := rs ++ [z]
def sp__law_flow (K : PySem.W.Frag) : Sp := fun vs H Q _ => ∃ (a : Addr) (ns : List Int) (m : Nat), vs = [.ref a, .int m] ∧ SqL K H a (ns.map V.int) ∧ ns.length ≤ 63 ∧ m ≤ 500 ∧
  ∀ H' v rs, Same H H' → Ls H' v rs → rs.length = m → (∀ r ∈ rs, 0 ≤ r ∧ r < 1000000) → Q v H'
theorem ok__law_flow {k : Nat} (D : Df K mg "_law_flow" s__law_flow ["_law_script", "_law_many"]) (m_abs : mg "abs" = none) (m_len : mg "len" = none) (m_range : mg "range" = none) :
    FnOk P w K mg base CX0 (k + 1) D.f D.fd ["_law_script", "_law_many"] (sp__law_flow K) := by
  refine D.F.ok sc__law_flow (fun vs H Q E h => ?_) (fun cdv A outer s H vs Q E hr h => ?_)
  · obtain ⟨a, ns, m, rfl, _⟩ := h
    rfl
  · obtain ⟨a, ns, m, rfl, hS, hlen, hm, q⟩ := h
    refine ⟨_, (pss_cons (ps_set (i := 2) sc__law_flow.nd rfl (.inl rfl) pe_int)
      (pss_cons (ps_if (PW.pt (pw_and (pt_cmpR op_gt (pe_callB call_len_seq (by rfl) m_len PySem.boot_len (pa_cons (pv 0) pa_nil)) pe_int (nomark _)) (pw_and1 (pt_cmpR op_ge (pe_callB call_abs (by rfl) m_abs boot_abs (pa_cons (pe_ix ix_list (pv 0) pe_int (fun _ _ => rfl)) pa_nil)) (pe_op op_pow pe_int pe_int) (nomark _))))) (pss_one (ps_set (i := 2) sc__law_flow.nd rfl (.inl rfl) (pe_op op_sub (pe_callB call_abs (by rfl) m_abs boot_abs (pa_cons (pe_ix ix_list (pv 0) pe_int (fun _ _ => rfl)) pa_nil)) (pe_op op_pow pe_int pe_int)))) pss_nil)
      (pss_cons (ps_set (i := 3) sc__law_flow.nd rfl (.inl rfl) (pe_lst pa_nil))
      (pss_cons (ps_for PassesOwn.never rfl (pi_range1 (by rfl) m_range (pa_cons (pv 1) pa_nil)) (pg_name (i := 4) sc__law_flow.nd rfl (.inl rfl)) (pss_one (ps_if (pt_cmpR op_gt (pv 2) pe_int (nomark _)) (pss_cons (ps_expr (pe_bm PySem.F.plainAttrs_list PySem.F.slot_list_append PySem.F.type_list_append mt_append (pv 3) (pa_cons (pe_op op_mod (pv 2) pe_int) pa_nil)))
      (pss_one (ps_set (i := 2) sc__law_flow.nd rfl (.inl rfl) (pe_op op_fdivW (pv 2) pe_int)))) (pss_cons (ps_set (i := 5) sc__law_flow.nd rfl (.inl rfl) (pe_op op_add (pv 4) pe_int))
      (pss_cons (ps_if (pt_cmpR op_gt (pe_callB call_len_seq (by rfl) m_len PySem.boot_len (pa_cons (pv 0) pa_nil)) pe_int (nomark _)) (pss_one (ps_set (i := 5) sc__law_flow.nd rfl (.inl rfl) (pe_ix ix_list (pv 0) (pe_op op_mod (pv 4) (pe_callB call_len_seq (by rfl) m_len PySem.boot_len (pa_cons (pv 0) pa_nil))) (fun _ _ => rfl)))) pss_nil)
      (pss_cons (ps_set (i := 6) sc__law_flow.nd rfl (.inl rfl) (pe_op op_mod (pe_op op_add (pe_op op_add (pe_op op_mul (pv 5) pe_int) (pe_op op_mul (pv 4) pe_int)) pe_int) pe_int))
      (pss_cons (ps_set (i := 6) sc__law_flow.nd rfl (.inl rfl) (pe_op op_mod (pe_op op_add (pe_op op_add (pe_op op_mul (pv 6) pe_int) (pe_op op_mul (pv 4) pe_int)) (pe_callB call_len_seq (by rfl) m_len PySem.boot_len (pa_cons (pv 0) pa_nil))) pe_int))
      (pss_one (ps_expr (pe_bm PySem.F.plainAttrs_list PySem.F.slot_list_append PySem.F.type_list_append mt_append (pv 3) (pa_cons (pe_op op_mod (pe_op op_fdivW (pv 6) pe_int) pe_int) pa_nil)))))))))))
      (pss_one (ps_ret (pv 3))))))), ?_⟩
    -- the loop and what follows, for any great
    have c1 : ∀ x : Int, CDivW x 1000000 := fun x => bd_divok (n := 20) (by decide) (by unfold Bd; decide) (by decide)
    have c19 : ∀ x : Int, CDivW x 19 := fun x => bd_divok (n := 20) (by decide) (by unfold Bd; decide) (by decide)
    have mk : ∀ x c : Int, -(2 ^ 64) < c → c < 2 ^ 64 → CMul x c := fun x c h1 h2 => .inr ⟨h1, h2⟩
    refine ⟨_, rfl, a, _, rfl, .inl hS, _, _, rfl, rfl, _, rfl, ite2 (fun e => ?_) (fun e => ?_)⟩
    · have hpos : 0 < ns.length := by
        have := of_decide_eq_true e
        rw [List.length_map] at this
        omega
      have g0 : atI (ns.map V.int) 0 = some (.int (ns.getD 0 0)) := ls_at (j := 0) hpos
      refine ⟨_, rfl, a, _, 0, _, rfl, rfl, hS, g0, _, rfl, _, _, rfl, rfl, ⟨by decide, by decide, by decide⟩, _, _, rfl, rfl, _, rfl, ite2 (fun e2 => ?_) (fun e2 => ?_)⟩
      · refine ⟨_, rfl, a, _, 0, _, rfl, rfl, hS, g0, _, rfl, _, _, rfl, rfl, ⟨by decide, by decide, by decide⟩, _, _, rfl, rfl, ?_⟩
        refine ⟨Nat.zero_le _, fun p hp => ?_⟩
        refine ⟨_, rfl, (m : Int), rfl, (by omega), (by omega), ?_⟩
        refine for_range (n := m) (fun i σ H3 => ∃ (g : Int) (rs : List Int) (y4 y5 y6 : Option V), σ = [some (.ref a), some (.int m), some (.int g), some (.ref p), y4, y5, y6] ∧ Same H H3 ∧ H3 p = some (.lst (rs.map V.int)) ∧ rs.length = i ∧ ∀ r ∈ rs, 0 ≤ r ∧ r < 1000000)
          ⟨_, [], _, _, _, rfl, same_upd hp, upd_same, rfl, fun r hr => nomatch hr⟩ (fun i σ H3 hi hW => ?_) (fun σ H3 hW => ?_)
        · obtain ⟨g, rs, y4, y5, y6, rfl, sm, hL, hl, hb⟩ := hW
          have hS3 := sm.seq hS
          have step : ∀ (z : Int), (0 ≤ z ∧ z < 1000000) →
              Same H (upd H3 p (.lst ((rs0 rs z).map V.int))) ∧ (upd H3 p (.lst ((rs0 rs z).map V.int))) p = some (.lst ((rs0 rs z).map V.int)) ∧ (rs0 rs z).length = i + 1 ∧ ∀ r ∈ rs0 rs z, 0 ≤ r ∧ r < 1000000 := by
            intro z hz
            refine ⟨fun b o eb => ?_, upd_same, ?_, ?_⟩
            · rw [upd_ne (ne_of_none eb hp)]
              exact sm _ _ eb
            · unfold rs0
              rw [List.length_append, hl]
              rfl
            · intro r hr
              unfold rs0 at hr
              rcases List.mem_append.1 hr with h | h
              · exact hb r h
              · rw [List.mem_singleton.1 h]
                exact hz
          have em : ∀ z : Int, (rs.map V.int) ++ [V.int z] = (rs0 rs z).map V.int := fun z => by
            unfold rs0
            rw [List.map_append]
            rfl
          have hsz : (rs.map V.int).length < sizeLine := small1000 (by rw [List.length_map]; omega)
          refine ⟨_, rfl, _, _, rfl, rfl, _, rfl, ite2 (fun e => ?_) (fun e => ?_)⟩
          · refine ⟨_, rfl, .inl ⟨rfl, _, SqL.of hL⟩, _, rfl, _, _, rfl, rfl, (by show (0 : Int) < _; decide), p, _, _, rfl, rfl, hL, hsz, ?_⟩
            rw [em]
            refine ⟨_, rfl, _, _, rfl, rfl, c1 _, ?_⟩
            exact ⟨_, _, _, _, _, rfl, step _ ⟨Int.emod_nonneg _ (by decide), Int.emod_lt_of_pos _ (by decide)⟩⟩
          · refine ⟨_, rfl, _, _, rfl, rfl, ?_⟩
            refine ⟨_, rfl, a, _, rfl, .inl hS3, _, _, rfl, rfl, _, rfl, ite2 (fun e1 => ?_) (fun e1 => ?_)⟩
            · have hpos : 0 < ns.length := by
                have := of_decide_eq_true e1
                rw [List.length_map] at this
                omega
              have hlt : i % ns.length < ns.length := Nat.mod_lt _ hpos
              have gk : atI (ns.map V.int) ((0 + (i : Int)) % ((ns.map V.int).length : Int)) = some (.int (ns.getD (i % ns.length) 0)) := by
                rw [Int.zero_add, List.length_map, ← Int.natCast_emod]
                exact ls_at hlt
              refine ⟨_, rfl, _, rfl, _, rfl, a, _, rfl, .inl hS3, _, _, rfl, rfl, (by rw [List.length_map]; omega), a, _, _, _, rfl, rfl, hS3, gk, ?_⟩
              refine ⟨_, rfl, _, _, rfl, rfl, mk _ _ (by decide) (by decide), _, rfl, _, _, rfl, rfl, mk _ _ (by decide) (by decide), _, _, rfl, rfl, _, _, rfl, rfl, _, _, rfl, rfl, (by show (0 : Int) < _; decide), ?_⟩
              refine ⟨_, rfl, _, _, rfl, rfl, mk _ _ (by decide) (by decide), _, rfl, _, _, rfl, rfl, mk _ _ (by decide) (by decide), _, _, rfl, rfl, _, rfl, a, _, rfl, .inl hS3, _, _, rfl, rfl, _, _, rfl, rfl, (by show (0 : Int) < _; decide), ?_⟩
              refine ⟨_, rfl, .inl ⟨rfl, _, SqL.of hL⟩, _, rfl, _, _, rfl, rfl, c19 _, _, _, rfl, rfl, (by show (0 : Int) < _; decide), p, _, _, rfl, rfl, hL, hsz, ?_⟩
              rw [em]
              exact ⟨_, _, _, _, _, rfl, step _ ⟨Int.emod_nonneg _ (by decide), Int.emod_lt_of_pos _ (by decide)⟩⟩
            · refine ⟨_, rfl, _, _, rfl, rfl, mk _ _ (by decide) (by decide), _, rfl, _, _, rfl, rfl, mk _ _ (by decide) (by decide), _, _, rfl, rfl, _, _, rfl, rfl, _, _, rfl, rfl, (by show (0 : Int) < _; decide), ?_⟩
              refine ⟨_, rfl, _, _, rfl, rfl, mk _ _ (by decide) (by decide), _, rfl, _, _, rfl, rfl, mk _ _ (by decide) (by decide), _, _, rfl, rfl, _, rfl, a, _, rfl, .inl hS3, _, _, rfl, rfl, _, _, rfl, rfl, (by show (0 : Int) < _; decide), ?_⟩
              refine ⟨_, rfl, .inl ⟨rfl, _, SqL.of hL⟩, _, rfl, _, _, rfl, rfl, c19 _, _, _, rfl, rfl, (by show (0 : Int) < _; decide), p, _, _, rfl, rfl, hL, hsz, ?_⟩
              rw [em]
              exact ⟨_, _, _, _, _, rfl, step _ ⟨Int.emod_nonneg _ (by decide), Int.emod_lt_of_pos _ (by decide)⟩⟩
        · obtain ⟨g, rs, y4, y5, y6, rfl, sm, hL, hl, hb⟩ := hW
          exact ⟨_, rfl, q H3 _ rs sm ⟨p, rfl, hL⟩ hl hb⟩
      · refine ⟨Nat.zero_le _, fun p hp => ?_⟩
        refine ⟨_, rfl, (m : Int), rfl, (by omega), (by omega), ?_⟩
        refine for_range (n := m) (fun i σ H3 => ∃ (g : Int) (rs : List Int) (y4 y5 y6 : Option V), σ = [some (.ref a), some (.int m), some (.int g), some (.ref p), y4, y5, y6] ∧ Same H H3 ∧ H3 p = some (.lst (rs.map V.int)) ∧ rs.length = i ∧ ∀ r ∈ rs, 0 ≤ r ∧ r < 1000000)
          ⟨_, [], _, _, _, rfl, same_upd hp, upd_same, rfl, fun r hr => nomatch hr⟩ (fun i σ H3 hi hW => ?_) (fun σ H3 hW => ?_)
        · obtain ⟨g, rs, y4, y5, y6, rfl, sm, hL, hl, hb⟩ := hW
          have hS3 := sm.seq hS
          have step : ∀ (z : Int), (0 ≤ z ∧ z < 1000000) →
              Same H (upd H3 p (.lst ((rs0 rs z).map V.int))) ∧ (upd H3 p (.lst ((rs0 rs z).map V.int))) p = some (.lst ((rs0 rs z).map V.int)) ∧ (rs0 rs z).length = i + 1 ∧ ∀ r ∈ rs0 rs z, 0 ≤ r ∧ r < 1000000 := by
            intro z hz
            refine ⟨fun b o eb => ?_, upd_same, ?_, ?_⟩
            · rw [upd_ne (ne_of_none eb hp)]
              exact sm _ _ eb
            · unfold rs0
              rw [List.length_append, hl]
              rfl
            · intro r hr
              unfold rs0 at hr
              rcases List.mem_append.1 hr with h | h
              · exact hb r h
              · rw [List.mem_singleton.1 h]
                exact hz
          have em : ∀ z : Int, (rs.map V.int) ++ [V.int z] = (rs0 rs z).map V.int := fun z => by
            unfold rs0
            rw [List.map_append]
            rfl
          have hsz : (rs.map V.int).length < sizeLine := small1000 (by rw [List.length_map]; omega)
          refine ⟨_, rfl, _, _, rfl, rfl, _, rfl, ite2 (fun e => ?_) (fun e => ?_)⟩
          · refine ⟨_, rfl, .inl ⟨rfl, _, SqL.of hL⟩, _, rfl, _, _, rfl, rfl, (by show (0 : Int) < _; decide), p, _, _, rfl, rfl, hL, hsz, ?_⟩
            rw [em]
            refine ⟨_, rfl, _, _, rfl, rfl, c1 _, ?_⟩
            exact ⟨_, _, _, _, _, rfl, step _ ⟨Int.emod_nonneg _ (by decide), Int.emod_lt_of_pos _ (by decide)⟩⟩
          · refine ⟨_, rfl, _, _, rfl, rfl, ?_⟩
            refine ⟨_, rfl, a, _, rfl, .inl hS3, _, _, rfl, rfl, _, rfl, ite2 (fun e1 => ?_) (fun e1 => ?_)⟩
            · have hpos : 0 < ns.length := by
                have := of_decide_eq_true e1
                rw [List.length_map] at this
                omega
              have hlt : i % ns.length < ns.length := Nat.mod_lt _ hpos
              have gk : atI (ns.map V.int) ((0 + (i : Int)) % ((ns.map V.int).length : Int)) = some (.int (ns.getD (i % ns.length) 0)) := by
                rw [Int.zero_add, List.length_map, ← Int.natCast_emod]
                exact ls_at hlt
              refine ⟨_, rfl, _, rfl, _, rfl, a, _, rfl, .inl hS3, _, _, rfl, rfl, (by rw [List.length_map]; omega), a, _, _, _, rfl, rfl, hS3, gk, ?_⟩
              refine ⟨_, rfl, _, _, rfl, rfl, mk _ _ (by decide) (by decide), _, rfl, _, _, rfl, rfl, mk _ _ (by decide) (by decide), _, _, rfl, rfl, _, _, rfl, rfl, _, _, rfl, rfl, (by show (0 : Int) < _; decide), ?_⟩
              refine ⟨_, rfl, _, _, rfl, rfl, mk _ _ (by decide) (by decide), _, rfl, _, _, rfl, rfl, mk _ _ (by decide) (by decide), _, _, rfl, rfl, _, rfl, a, _, rfl, .inl hS3, _, _, rfl, rfl, _, _, rfl, rfl, (by show (0 : Int) < _; decide), ?_⟩
              refine ⟨_, rfl, .inl ⟨rfl, _, SqL.of hL⟩, _, rfl, _, _, rfl, rfl, c19 _, _, _, rfl, rfl, (by show (0 : Int) < _; decide), p, _, _, rfl, rfl, hL, hsz, ?_⟩
              rw [em]
              exact ⟨_, _, _, _, _, rfl, step _ ⟨Int.emod_nonneg _ (by decide), Int.emod_lt_of_pos _ (by decide)⟩⟩
            · refine ⟨_, rfl, _, _, rfl, rfl, mk _ _ (by decide) (by decide), _, rfl, _, _, rfl, rfl, mk _ _ (by decide) (by decide), _, _, rfl, rfl, _, _, rfl, rfl, _, _, rfl, rfl, (by show (0 : Int) < _; decide), ?_⟩
              refine ⟨_, rfl, _, _, rfl, rfl, mk _ _ (by decide) (by decide), _, rfl, _, _, rfl, rfl, mk _ _ (by decide) (by decide), _, _, rfl, rfl, _, rfl, a, _, rfl, .inl hS3, _, _, rfl, rfl, _, _, rfl, rfl, (by show (0 : Int) < _; decide), ?_⟩
              refine ⟨_, rfl, .inl ⟨rfl, _, SqL.of hL⟩, _, rfl, _, _, rfl, rfl, c19 _, _, _, rfl, rfl, (by show (0 : Int) < _; decide), p, _, _, rfl, rfl, hL, hsz, ?_⟩
              rw [em]
              exact ⟨_, _, _, _, _, rfl, step _ ⟨Int.emod_nonneg _ (by decide), Int.emod_lt_of_pos _ (by decide)⟩⟩
        · obtain ⟨g, rs, y4, y5, y6, rfl, sm, hL, hl, hb⟩ := hW
          exact ⟨_, rfl, q H3 _ rs sm ⟨p, rfl, hL⟩ hl hb⟩
    · refine ⟨Nat.zero_le _, fun p hp => ?_⟩
      refine ⟨_, rfl, (m : Int), rfl, (by omega), (by omega), ?_⟩
      refine for_range (n := m) (fun i σ H3 => ∃ (g : Int) (rs : List Int) (y4 y5 y6 : Option V), σ = [some (.ref a), some (.int m), some (.int g), some (.ref p), y4, y5, y6] ∧ Same H H3 ∧ H3 p = some (.lst (rs.map V.int)) ∧ rs.length = i ∧ ∀ r ∈ rs, 0 ≤ r ∧ r < 1000000)
        ⟨_, [], _, _, _, rfl, same_upd hp, upd_same, rfl, fun r hr => nomatch hr⟩ (fun i σ H3 hi hW => ?_) (fun σ H3 hW => ?_)
      · obtain ⟨g, rs, y4, y5, y6, rfl, sm, hL, hl, hb⟩ := hW
        have hS3 := sm.seq hS
        have step : ∀ (z : Int), (0 ≤ z ∧ z < 1000000) →
            Same H (upd H3 p (.lst ((rs0 rs z).map V.int))) ∧ (upd H3 p (.lst ((rs0 rs z).map V.int))) p = some (.lst ((rs0 rs z).map V.int)) ∧ (rs0 rs z).length = i + 1 ∧ ∀ r ∈ rs0 rs z, 0 ≤ r ∧ r < 1000000 := by
          intro z hz
          refine ⟨fun b o eb => ?_, upd_same, ?_, ?_⟩
          · rw [upd_ne (ne_of_none eb hp)]
            exact sm _ _ eb
          · unfold rs0
            rw [List.length_append, hl]
            rfl
          · intro r hr
            unfold rs0 at hr
            rcases List.mem_append.1 hr with h | h
            · exact hb r h
            · rw [List.mem_singleton.1 h]
              exact hz
        have em : ∀ z : Int, (rs.map V.int) ++ [V.int z] = (rs0 rs z).map V.int := fun z => by
          unfold rs0
          rw [List.map_append]
          rfl
        have hsz : (rs.map V.int).length < sizeLine := small1000 (by rw [List.length_map]; omega)
        refine ⟨_, rfl, _, _, rfl, rfl, _, rfl, ite2 (fun e => ?_) (fun e => ?_)⟩
        · refine ⟨_, rfl, .inl ⟨rfl, _, SqL.of hL⟩, _, rfl, _, _, rfl, rfl, (by show (0 : Int) < _; decide), p, _, _, rfl, rfl, hL, hsz, ?_⟩
          rw [em]
          refine ⟨_, rfl, _, _, rfl, rfl, c1 _, ?_⟩
          exact ⟨_, _, _, _, _, rfl, step _ ⟨Int.emod_nonneg _ (by decide), Int.emod_lt_of_pos _ (by decide)⟩⟩
        · refine ⟨_, rfl, _, _, rfl, rfl, ?_⟩
          refine ⟨_, rfl, a, _, rfl, .inl hS3, _, _, rfl, rfl, _, rfl, ite2 (fun e1 => ?_) (fun e1 => ?_)⟩
          · have hpos : 0 < ns.length := by
              have := of_decide_eq_true e1
              rw [List.length_map] at this
              omega
            have hlt : i % ns.length < ns.length := Nat.mod_lt _ hpos
            have gk : atI (ns.map V.int) ((0 + (i : Int)) % ((ns.map V.int).length : Int)) = some (.int (ns.getD (i % ns.length) 0)) := by
              rw [Int.zero_add, List.length_map, ← Int.natCast_emod]
              exact ls_at hlt
            refine ⟨_, rfl, _, rfl, _, rfl, a, _, rfl, .inl hS3, _, _, rfl, rfl, (by rw [List.length_map]; omega), a, _, _, _, rfl, rfl, hS3, gk, ?_⟩
            refine ⟨_, rfl, _, _, rfl, rfl, mk _ _ (by decide) (by decide), _, rfl, _, _, rfl, rfl, mk _ _ (by decide) (by decide), _, _, rfl, rfl, _, _, rfl, rfl, _, _, rfl, rfl, (by show (0 : Int) < _; decide), ?_⟩
            refine ⟨_, rfl, _, _, rfl, rfl, mk _ _ (by decide) (by decide), _, rfl, _, _, rfl, rfl, mk _ _ (by decide) (by decide), _, _, rfl, rfl, _, rfl, a, _, rfl, .inl hS3, _, _, rfl, rfl, _, _, rfl, rfl, (by show (0 : Int) < _; decide), ?_⟩
            refine ⟨_, rfl, .inl ⟨rfl, _, SqL.of hL⟩, _, rfl, _, _, rfl, rfl, c19 _, _, _, rfl, rfl, (by show (0 : Int) < _; decide), p, _, _, rfl, rfl, hL, hsz, ?_⟩
            rw [em]
            exact ⟨_, _, _, _, _, rfl, step _ ⟨Int.emod_nonneg _ (by decide), Int.emod_lt_of_pos _ (by decide)⟩⟩
          · refine ⟨_, rfl, _, _, rfl, rfl, mk _ _ (by decide) (by decide), _, rfl, _, _, rfl, rfl, mk _ _ (by decide) (by decide), _, _, rfl, rfl, _, _, rfl, rfl, _, _, rfl, rfl, (by show (0 : Int) < _; decide), ?_⟩
            refine ⟨_, rfl, _, _, rfl, rfl, mk _ _ (by decide) (by decide), _, rfl, _, _, rfl, rfl, mk _ _ (by decide) (by decide), _, _, rfl, rfl, _, rfl, a, _, rfl, .inl hS3, _, _, rfl, rfl, _, _, rfl, rfl, (by show (0 : Int) < _; decide), ?_⟩
            refine ⟨_, rfl, .inl ⟨rfl, _, SqL.of hL⟩, _, rfl, _, _, rfl, rfl, c19 _, _, _, rfl, rfl, (by show (0 : Int) < _; decide), p, _, _, rfl, rfl, hL, hsz, ?_⟩
            rw [em]
            exact ⟨_, _, _, _, _, rfl, step _ ⟨Int.emod_nonneg _ (by decide), Int.emod_lt_of_pos _ (by decide)⟩⟩
      · obtain ⟨g, rs, y4, y5, y6, rfl, sm, hL, hl, hb⟩ := hW
        exact ⟨_, rfl, q H3 _ rs sm ⟨p, rfl, hL⟩ hl hb⟩

theorem ok_law (D : Df K mg "law" s_law ["_law_script"]) (D__law_low : Df K mg "_law_low" s__law_low ["_law_top", "_law_bottom"]) (D__law_add : Df K mg "_law_add" s__law_add ["_law_a", "_law_b"]) (D__law_sub : Df K mg "_law_sub" s__law_sub ["_law_a", "_law_b"]) (D__law_mul : Df K mg "_law_mul" s__law_mul ["_law_a", "_law_b"]) (D__law_less : Df K mg "_law_less" s__law_less ["_law_a", "_law_b"]) (D__law_most : Df K mg "_law_most" s__law_most ["_law_n", "_law_k"]) (D__law_falling : Df K mg "_law_falling" s__law_falling ["_law_row"]) (D__law_keeps : Df K mg "_law_keeps" s__law_keeps ["_law_lags_here"]) (D__law_many_fields : Df K mg "_law_many_fields" s__law_many_fields ["_law_one", "_law_top"]) (D__law_first : Df K mg "_law_first" s__law_first ["_law_row"]) (D__law_shares : Df K mg "_law_shares" s__law_shares ["_law_row", "_law_n"]) (D__law_hour : Df K mg "_law_hour" s__law_hour ["_law_lags_here", "_law_shares_here"]) (D__law_lived : Df K mg "_law_lived" s__law_lived ["_law_n", "_law_row", "_law_hours"]) (D__law_lags : Df K mg "_law_lags" s__law_lags ["_law_n", "_law_row"]) (D_common : Df K mg "common" s_common ["a", "b"]) (D_lowest : Df K mg "lowest" s_lowest ["top", "bottom"]) (D_plus : Df K mg "plus" s_plus ["a", "b"]) (D_times : Df K mg "times" s_times ["a", "b"]) (D_total : Df K mg "total" s_total ["row"]) (D_minus : Df K mg "minus" s_minus ["a", "b"]) (D_below : Df K mg "below" s_below ["a", "b"]) (D_unit_sum : Df K mg "unit_sum" s_unit_sum ["first", "last"]) (D_before : Df K mg "before" s_before ["many"]) (D_most : Df K mg "most" s_most ["many", "k"]) (D_turn_of : Df K mg "turn_of" s_turn_of ["row"]) (D_by_size : Df K mg "by_size" s_by_size ["lags"]) (D_keeps : Df K mg "keeps" s_keeps ["lags"]) (D__law_flow : Df K mg "_law_flow" s__law_flow ["_law_script", "_law_many"])
    (m_abs : mg "abs" = none) (m_range : mg "range" = none) (m_list : mg "list" = none) (m_len : mg "len" = none) (m_min : mg "min" = none) (m_int : mg "int" = none) (m_sum : mg "sum" = none) (m_zip : mg "zip" = none) (m_max : mg "max" = none) (m_enumerate : mg "enumerate" = none) (m_any : mg "any" = none) : FnOk P w K mg base CX0 7 D.f D.fd ["_law_script"] (sp_law K) := by
  have G_keeps : FnOk P w K mg base CX0 6 D_keeps.f D_keeps.fd ["lags"] (sp__law_keeps K) := ok_keeps D_keeps D_common D_lowest D_plus D_minus D_times D_total D_below D_unit_sum D_before D_most D_turn_of D_by_size m_enumerate m_list m_len m_range m_any
  have G__law_many_fields : FnOk P w K mg base CX0 6 D__law_many_fields.f D__law_many_fields.fd ["_law_one", "_law_top"] sp__law_many_fields := ok__law_many_fields D__law_many_fields m_min
  have G__law_keeps : FnOk P w K mg base CX0 6 D__law_keeps.f D__law_keeps.fd ["_law_lags_here"] (sp__law_keeps K) := ok__law_keeps D__law_keeps D__law_low D__law_add D__law_mul D__law_less D__law_falling m_abs m_range m_len m_list
  have G__law_lags : FnOk P w K mg base CX0 6 D__law_lags.f D__law_lags.fd ["_law_n", "_law_row"] (sp__law_lags K) := ok__law_lags D__law_lags D__law_low D__law_add D__law_sub D__law_less D__law_first D__law_hour D__law_shares D__law_lived D__law_most m_abs m_range m_len m_zip m_int m_sum m_max
  have G__law_flow : FnOk P w K mg base CX0 6 D__law_flow.f D__law_flow.fd ["_law_script", "_law_many"] (sp__law_flow K) := ok__law_flow D__law_flow m_abs m_len m_range
  refine D.F.ok sc_law (fun vs H Q E h => ?_) (fun cdv A outer s H vs Q E hr h => ?_)
  · obtain ⟨a, ns, rfl, _⟩ := h
    rfl
  obtain ⟨a, ns, rfl, hS, hlen, q⟩ := h
  refine ⟨_, (pss_cons (ps_set (i := 1) sc_law.nd rfl (.inl rfl) (pe_call G__law_flow (hr.mono (by omega)) (by rfl) D__law_flow.g D__law_flow.F.kp D__law_flow.b .nil pass0 (pa_cons (pv 0) (pa_cons pe_int pa_nil))))
      (pss_cons (ps_set (i := 2) sc_law.nd rfl (.inl rfl) (pe_call G__law_many_fields (hr.mono (by omega)) (by rfl) D__law_many_fields.g D__law_many_fields.F.kp D__law_many_fields.b .nil pass0 (pa_cons (pe_ix ix_list (pv 1) pe_int (fun _ _ => rfl)) (pa_cons pe_int pa_nil))))
      (pss_cons (ps_set (i := 3) sc_law.nd rfl (.inl rfl) (pe_call G__law_lags (hr.mono (by omega)) (by rfl) D__law_lags.g D__law_lags.F.kp D__law_lags.b .nil pass0 (pa_cons (pv 2) (pa_cons (pe_slice sl_list (pv 1) (po_some pe_int) po_none) pa_nil))))
      (pss_cons (ps_set (i := 4) sc_law.nd rfl (.inl rfl) (pe_op op_mod (pe_ix ix_list (pv 1) pe_int (fun _ _ => rfl)) (pe_op op_add (pv 2) pe_int)))
      (pss_cons (ps_set (i := 5) sc_law.nd rfl (.inl rfl) (pe_op op_cat (pe_op op_cat (pe_slice sl_list (pv 3) po_none (po_some (pv 4))) (pe_lst (pa_cons (pe_tup (pa_cons pe_int (pa_cons pe_int pa_nil))) pa_nil))) (pe_slice sl_list (pv 3) (po_some (pv 4)) po_none)))
      (pss_cons (ps_set (i := 6) sc_law.nd rfl (.inl rfl) (pe_call G_keeps (hr.mono (by omega)) (by rfl) D_keeps.g D_keeps.F.kp D_keeps.b .nil pass0 (pa_cons (pe_callTy call_list_of (by rfl) m_list PyProof.Rows.boot_list (pa_cons (pv 3) pa_nil)) pa_nil)))
      (pss_cons (ps_set (i := 7) sc_law.nd rfl (.inl rfl) (pe_call G_keeps (hr.mono (by omega)) (by rfl) D_keeps.g D_keeps.F.kp D_keeps.b .nil pass0 (pa_cons (pe_callTy call_list_of (by rfl) m_list PyProof.Rows.boot_list (pa_cons (pv 5) pa_nil)) pa_nil)))
      (pss_cons (ps_if (PW.pt (pw_and (pt_cmpR op_isBl (pv 6) pe_bl (nomark _)) (pw_and1 (pt_cmpR op_notBl (pv 7) pe_bl (nomark _))))) (pss_one (ps_ret pe_bl)) pss_nil)
      (pss_one (ps_ret (pe_and (pe_cmpR op_eq (pv 6) (pe_call G__law_keeps (hr.mono (by omega)) (by rfl) D__law_keeps.g D__law_keeps.F.kp D__law_keeps.b .nil pass0 (pa_cons (pv 3) pa_nil)) (nomark _)) (pe_one (pe_cmpR op_eq (pv 7) (pe_call G__law_keeps (hr.mono (by omega)) (by rfl) D__law_keeps.g D__law_keeps.F.kp D__law_keeps.b .nil pass0 (pa_cons (pv 5) pa_nil)) (nomark _)))))))))))))), ?_⟩
  refine ⟨_, rfl, a, ns, 230, rfl, hS, hlen, (by decide), fun H1 v rs sm1 ls1 hl hb => ?_⟩
  obtain ⟨p, rfl, ep⟩ := ls1
  refine ⟨_, rfl, p, _, _, _, rfl, rfl, SqL.of ep, ls_z 0 rfl (by omega), _, _, rfl, by decide, fun n hn1 hn2 => ?_⟩
  obtain ⟨m, rfl⟩ : ∃ m : Nat, n = (m : Int) := ⟨n.toNat, by omega⟩
  -- the lags
  refine ⟨_, rfl, _, rfl, 2, rfl, p, _, rfl, SqL.of ep, fun pc hc => ?_⟩
  rw [show cutV (rs.map V.int) (some 2) none = (rs.drop 2).map V.int from cut_from rs 2 (by omega)]
  have sc := same_upd (o := .lst ((rs.drop 2).map V.int)) hc
  refine ⟨m, pc, rs.drop 2, rfl, upd_same, by omega, by omega, by rw [List.length_drop]; omega, fun r hr' => hb r (List.mem_of_mem_drop hr'), fun H2 pl xs s2 npl lpl hx => ?_⟩
  have hxl := hx.len
  have S2 := sc.trans s2
  -- the place
  have j1 := Int.emod_nonneg (rs.getD 1 0) (show (m : Int) + 1 ≠ 0 by omega)
  have j2 := Int.emod_lt_of_pos (rs.getD 1 0) (show (0 : Int) < (m : Int) + 1 by omega)
  obtain ⟨f, ef, hf⟩ : ∃ f : Nat, rs.getD 1 0 % ((m : Int) + 1) = (f : Int) ∧ f ≤ m := ⟨(rs.getD 1 0 % ((m : Int) + 1)).toNat, by omega, by omega⟩
  refine ⟨_, rfl, p, _, _, _, rfl, rfl, SqL.of (S2 _ _ ep), ls_z 1 rfl (by omega), _, rfl, _, _, rfl, rfl, _, _, rfl, rfl, (show (0 : Int) < (m : Int) + 1 by omega), ?_⟩
  dsimp only
  rw [ef]
  -- the longer one
  obtain ⟨us, eus, hus⟩ := id lpl
  have hul := hus.len
  refine ⟨_, rfl, _, rfl, (f : Int), rfl, pl, us, rfl, SqL.of eus, fun t1 ht1 => ?_⟩
  rw [cutV_to us f (by omega)]
  have st1 := same_upd (o := .lst (us.take f)) ht1
  refine ⟨(by show 2 ≤ sizeLine; decide), fun t2 ht2 => ?_⟩
  have st2 := same_upd (o := .tup [.int 0, .int 1]) ht2
  refine ⟨(by show 1 ≤ sizeLine; decide), fun t3 ht3 => ?_⟩
  have st3 := same_upd (o := .lst [.ref t2]) ht3
  refine ⟨t1, t3, us.take f, [.ref t2], rfl, rfl, st3 _ _ (st2 _ _ upd_same), upd_same, Nat.le_trans (show (us.take f).length + 1 ≤ 25 by rw [List.length_take]; omega) (by decide), fun t4 ht4 => ?_⟩
  have st4 := same_upd (o := .lst (us.take f ++ [.ref t2])) ht4
  have s14 := st1.trans (st2.trans (st3.trans st4))
  refine ⟨_, rfl, _, rfl, (f : Int), rfl, pl, us, rfl, SqL.of (s14 _ _ eus), fun t5 ht5 => ?_⟩
  rw [cutV_from us f (by omega)]
  have st5 := same_upd (o := .lst (us.drop f)) ht5
  refine ⟨t4, t5, us.take f ++ [.ref t2], us.drop f, rfl, rfl, st5 _ _ upd_same, upd_same, Nat.le_trans (show (us.take f ++ [V.ref t2]).length + (us.drop f).length ≤ 25 by rw [List.length_append, List.length_take, List.length_drop]; simp; omega) (by decide), fun t6 ht6 => ?_⟩
  have st6 := same_upd (o := .lst (us.take f ++ [.ref t2] ++ us.drop f)) ht6
  have s16 := s14.trans (st5.trans st6)
  have p01 : Pp K (upd (upd H2 t1 (.lst (us.take f))) t2 (.tup [.int 0, .int 1])) (.ref t2) (0, 1) := Pr.new
  have Lz : LP K (upd (upd (upd (upd (upd (upd H2 t1 (.lst (us.take f))) t2 (.tup [.int 0, .int 1])) t3 (.lst [.ref t2])) t4 (.lst (us.take f ++ [.ref t2]))) t5 (.lst (us.drop f))) t6 (.lst (us.take f ++ [.ref t2] ++ us.drop f))) t6 (xs.take f ++ [(0, 1)] ++ xs.drop f) :=
    ⟨_, upd_same, Pps.app ((hus.drop f).same s16) (Pps.app (.cons (p01.same (st3.trans (st4.trans (st5.trans st6)))) .nil) ((hus.take f).same s16))⟩
  have Ll := lpl.same s16
  generalize upd (upd (upd (upd (upd (upd H2 t1 (.lst (us.take f))) t2 (.tup [.int 0, .int 1])) t3 (.lst [.ref t2])) t4 (.lst (us.take f ++ [.ref t2]))) t5 (.lst (us.drop f))) t6 (.lst (us.take f ++ [.ref t2] ++ us.drop f)) = H3 at Lz Ll
  have oz := nought_ok hx.ok (by decide) f
  have lz : (xs.take f ++ [(0, 1)] ++ xs.drop f).length = m + 1 := by
    rw [List.length_append, List.length_append, List.length_take, List.length_drop]
    simp
    omega
  have key := nought_in hx.ok (by omega) (by omega) f
  generalize xs.take f ++ [(0, 1)] ++ xs.drop f = zs at Lz oz lz key
  -- told
  obtain ⟨us1, e1, k1⟩ := id Ll
  refine ⟨_, rfl, pl, us1, rfl, .inl (SqL.of e1), fun l1 h1 => ?_⟩
  have t1' := same_upd (o := .lst us1) h1
  refine ⟨l1, xs, rfl, ⟨us1, upd_same, k1.same t1'⟩, by omega, by omega, hx.ok.mono (by decide), fun H4 s4 => ?_⟩
  obtain ⟨us2, e2, k2⟩ := (Lz.same t1').same s4
  refine ⟨_, rfl, t6, us2, rfl, .inl (SqL.of e2), fun l2 h2 => ?_⟩
  have t2' := same_upd (o := .lst us2) h2
  refine ⟨l2, zs, rfl, ⟨us2, upd_same, k2.same t2'⟩, by omega, by omega, oz.mono (by decide), fun H5 s5 => ?_⟩
  have s35 := t1'.trans (s4.trans (t2'.trans s5))
  refine ⟨_, rfl, _, _, rfl, rfl, _, rfl, ite2 (fun e => ?_) (fun e => ?_)⟩
  · have hk := key (of_decide_eq_true e)
    refine ⟨_, rfl, _, _, rfl, rfl, _, rfl, iteNS hk ?_⟩
    refine ⟨_, rfl, _, rfl, pl, xs, rfl, Ll.same s35, by omega, by omega, hx.ok.mono (by decide), fun H6 s6 => ?_⟩
    refine ⟨rfl, ?_⟩
    rw [decide_eq_true rfl]
    refine ⟨_, rfl, iteT ?_⟩
    refine ⟨_, rfl, _, rfl, t6, zs, rfl, (Lz.same s35).same s6, by omega, by omega, oz.mono (by decide), fun H7 s7 => ?_⟩
    refine ⟨rfl, ?_⟩
    rw [decide_eq_true rfl]
    exact q _
  · refine iteF ?_
    refine ⟨_, rfl, _, rfl, pl, xs, rfl, Ll.same s35, by omega, by omega, hx.ok.mono (by decide), fun H6 s6 => ?_⟩
    refine ⟨rfl, ?_⟩
    rw [decide_eq_true rfl]
    refine ⟨_, rfl, iteT ?_⟩
    refine ⟨_, rfl, _, rfl, t6, zs, rfl, (Lz.same s35).same s6, by omega, by omega, oz.mono (by decide), fun H7 s7 => ?_⟩
    refine ⟨rfl, ?_⟩
    rw [decide_eq_true rfl]
    exact q _

end
theorem all_mk {l : PySem.W.OpenLaw} {w : World} {K : PySem.W.Frag} {h : Heap} {mg : Str → Option Value} {fa f0 f1 f2 f3 f4 f5 f6 f7 f8 f9 f10 f11 f12 f13 f14 f15 f16 f17 f18 f19 f20 f21 f22 f23 f24 f25 f26 f27 f28 : Addr} (X : K.In h) (G : h.Ns mainGlobals mg) (hfa : mg "law" = some (.ref fa))
    {od0 an0 : Option Addr} {sl0 : Array (Option Value)} {oc0 kV0 dc0 pm0 cd0 ct0 : Value}
    (a0 : PySem.W.nsIn K mainGlobals "_law_low" = some (some (.ref f0))) (l0 : K.lookup f0 = some ⟨oc0, od0, .func (PySem.W.fnOf "_law_low" "_law_low" (defArgs s__law_low) (defBody s__law_low) (defScope s__law_low) .none kV0 dc0 pm0 an0 cd0 ct0), sl0⟩) (c0 : PySem.W.codeIn K cd0 "_law_low" = true) (k0 : PySem.W.keepIn K (.ref f0) = true)
    {od1 an1 : Option Addr} {sl1 : Array (Option Value)} {oc1 kV1 dc1 pm1 cd1 ct1 : Value}
    (a1 : PySem.W.nsIn K mainGlobals "_law_add" = some (some (.ref f1))) (l1 : K.lookup f1 = some ⟨oc1, od1, .func (PySem.W.fnOf "_law_add" "_law_add" (defArgs s__law_add) (defBody s__law_add) (defScope s__law_add) .none kV1 dc1 pm1 an1 cd1 ct1), sl1⟩) (c1 : PySem.W.codeIn K cd1 "_law_add" = true) (k1 : PySem.W.keepIn K (.ref f1) = true)
    {od2 an2 : Option Addr} {sl2 : Array (Option Value)} {oc2 kV2 dc2 pm2 cd2 ct2 : Value}
    (a2 : PySem.W.nsIn K mainGlobals "_law_sub" = some (some (.ref f2))) (l2 : K.lookup f2 = some ⟨oc2, od2, .func (PySem.W.fnOf "_law_sub" "_law_sub" (defArgs s__law_sub) (defBody s__law_sub) (defScope s__law_sub) .none kV2 dc2 pm2 an2 cd2 ct2), sl2⟩) (c2 : PySem.W.codeIn K cd2 "_law_sub" = true) (k2 : PySem.W.keepIn K (.ref f2) = true)
    {od3 an3 : Option Addr} {sl3 : Array (Option Value)} {oc3 kV3 dc3 pm3 cd3 ct3 : Value}
    (a3 : PySem.W.nsIn K mainGlobals "_law_mul" = some (some (.ref f3))) (l3 : K.lookup f3 = some ⟨oc3, od3, .func (PySem.W.fnOf "_law_mul" "_law_mul" (defArgs s__law_mul) (defBody s__law_mul) (defScope s__law_mul) .none kV3 dc3 pm3 an3 cd3 ct3), sl3⟩) (c3 : PySem.W.codeIn K cd3 "_law_mul" = true) (k3 : PySem.W.keepIn K (.ref f3) = true)
    {od4 an4 : Option Addr} {sl4 : Array (Option Value)} {oc4 kV4 dc4 pm4 cd4 ct4 : Value}
    (a4 : PySem.W.nsIn K mainGlobals "_law_less" = some (some (.ref f4))) (l4 : K.lookup f4 = some ⟨oc4, od4, .func (PySem.W.fnOf "_law_less" "_law_less" (defArgs s__law_less) (defBody s__law_less) (defScope s__law_less) .none kV4 dc4 pm4 an4 cd4 ct4), sl4⟩) (c4 : PySem.W.codeIn K cd4 "_law_less" = true) (k4 : PySem.W.keepIn K (.ref f4) = true)
    {od5 an5 : Option Addr} {sl5 : Array (Option Value)} {oc5 kV5 dc5 pm5 cd5 ct5 : Value}
    (a5 : PySem.W.nsIn K mainGlobals "_law_most" = some (some (.ref f5))) (l5 : K.lookup f5 = some ⟨oc5, od5, .func (PySem.W.fnOf "_law_most" "_law_most" (defArgs s__law_most) (defBody s__law_most) (defScope s__law_most) .none kV5 dc5 pm5 an5 cd5 ct5), sl5⟩) (c5 : PySem.W.codeIn K cd5 "_law_most" = true) (k5 : PySem.W.keepIn K (.ref f5) = true)
    {od6 an6 : Option Addr} {sl6 : Array (Option Value)} {oc6 kV6 dc6 pm6 cd6 ct6 : Value}
    (a6 : PySem.W.nsIn K mainGlobals "_law_falling" = some (some (.ref f6))) (l6 : K.lookup f6 = some ⟨oc6, od6, .func (PySem.W.fnOf "_law_falling" "_law_falling" (defArgs s__law_falling) (defBody s__law_falling) (defScope s__law_falling) .none kV6 dc6 pm6 an6 cd6 ct6), sl6⟩) (c6 : PySem.W.codeIn K cd6 "_law_falling" = true) (k6 : PySem.W.keepIn K (.ref f6) = true)
    {od7 an7 : Option Addr} {sl7 : Array (Option Value)} {oc7 kV7 dc7 pm7 cd7 ct7 : Value}
    (a7 : PySem.W.nsIn K mainGlobals "_law_keeps" = some (some (.ref f7))) (l7 : K.lookup f7 = some ⟨oc7, od7, .func (PySem.W.fnOf "_law_keeps" "_law_keeps" (defArgs s__law_keeps) (defBody s__law_keeps) (defScope s__law_keeps) .none kV7 dc7 pm7 an7 cd7 ct7), sl7⟩) (c7 : PySem.W.codeIn K cd7 "_law_keeps" = true) (k7 : PySem.W.keepIn K (.ref f7) = true)
    {od8 an8 : Option Addr} {sl8 : Array (Option Value)} {oc8 kV8 dc8 pm8 cd8 ct8 : Value}
    (a8 : PySem.W.nsIn K mainGlobals "_law_many_fields" = some (some (.ref f8))) (l8 : K.lookup f8 = some ⟨oc8, od8, .func (PySem.W.fnOf "_law_many_fields" "_law_many_fields" (defArgs s__law_many_fields) (defBody s__law_many_fields) (defScope s__law_many_fields) .none kV8 dc8 pm8 an8 cd8 ct8), sl8⟩) (c8 : PySem.W.codeIn K cd8 "_law_many_fields" = true) (k8 : PySem.W.keepIn K (.ref f8) = true)
    {od9 an9 : Option Addr} {sl9 : Array (Option Value)} {oc9 kV9 dc9 pm9 cd9 ct9 : Value}
    (a9 : PySem.W.nsIn K mainGlobals "_law_first" = some (some (.ref f9))) (l9 : K.lookup f9 = some ⟨oc9, od9, .func (PySem.W.fnOf "_law_first" "_law_first" (defArgs s__law_first) (defBody s__law_first) (defScope s__law_first) .none kV9 dc9 pm9 an9 cd9 ct9), sl9⟩) (c9 : PySem.W.codeIn K cd9 "_law_first" = true) (k9 : PySem.W.keepIn K (.ref f9) = true)
    {od10 an10 : Option Addr} {sl10 : Array (Option Value)} {oc10 kV10 dc10 pm10 cd10 ct10 : Value}
    (a10 : PySem.W.nsIn K mainGlobals "_law_shares" = some (some (.ref f10))) (l10 : K.lookup f10 = some ⟨oc10, od10, .func (PySem.W.fnOf "_law_shares" "_law_shares" (defArgs s__law_shares) (defBody s__law_shares) (defScope s__law_shares) .none kV10 dc10 pm10 an10 cd10 ct10), sl10⟩) (c10 : PySem.W.codeIn K cd10 "_law_shares" = true) (k10 : PySem.W.keepIn K (.ref f10) = true)
    {od11 an11 : Option Addr} {sl11 : Array (Option Value)} {oc11 kV11 dc11 pm11 cd11 ct11 : Value}
    (a11 : PySem.W.nsIn K mainGlobals "_law_hour" = some (some (.ref f11))) (l11 : K.lookup f11 = some ⟨oc11, od11, .func (PySem.W.fnOf "_law_hour" "_law_hour" (defArgs s__law_hour) (defBody s__law_hour) (defScope s__law_hour) .none kV11 dc11 pm11 an11 cd11 ct11), sl11⟩) (c11 : PySem.W.codeIn K cd11 "_law_hour" = true) (k11 : PySem.W.keepIn K (.ref f11) = true)
    {od12 an12 : Option Addr} {sl12 : Array (Option Value)} {oc12 kV12 dc12 pm12 cd12 ct12 : Value}
    (a12 : PySem.W.nsIn K mainGlobals "_law_lived" = some (some (.ref f12))) (l12 : K.lookup f12 = some ⟨oc12, od12, .func (PySem.W.fnOf "_law_lived" "_law_lived" (defArgs s__law_lived) (defBody s__law_lived) (defScope s__law_lived) .none kV12 dc12 pm12 an12 cd12 ct12), sl12⟩) (c12 : PySem.W.codeIn K cd12 "_law_lived" = true) (k12 : PySem.W.keepIn K (.ref f12) = true)
    {od13 an13 : Option Addr} {sl13 : Array (Option Value)} {oc13 kV13 dc13 pm13 cd13 ct13 : Value}
    (a13 : PySem.W.nsIn K mainGlobals "_law_lags" = some (some (.ref f13))) (l13 : K.lookup f13 = some ⟨oc13, od13, .func (PySem.W.fnOf "_law_lags" "_law_lags" (defArgs s__law_lags) (defBody s__law_lags) (defScope s__law_lags) .none kV13 dc13 pm13 an13 cd13 ct13), sl13⟩) (c13 : PySem.W.codeIn K cd13 "_law_lags" = true) (k13 : PySem.W.keepIn K (.ref f13) = true)
    {od14 an14 : Option Addr} {sl14 : Array (Option Value)} {oc14 kV14 dc14 pm14 cd14 ct14 : Value}
    (a14 : PySem.W.nsIn K mainGlobals "common" = some (some (.ref f14))) (l14 : K.lookup f14 = some ⟨oc14, od14, .func (PySem.W.fnOf "common" "common" (defArgs s_common) (defBody s_common) (defScope s_common) .none kV14 dc14 pm14 an14 cd14 ct14), sl14⟩) (c14 : PySem.W.codeIn K cd14 "common" = true) (k14 : PySem.W.keepIn K (.ref f14) = true)
    {od15 an15 : Option Addr} {sl15 : Array (Option Value)} {oc15 kV15 dc15 pm15 cd15 ct15 : Value}
    (a15 : PySem.W.nsIn K mainGlobals "lowest" = some (some (.ref f15))) (l15 : K.lookup f15 = some ⟨oc15, od15, .func (PySem.W.fnOf "lowest" "lowest" (defArgs s_lowest) (defBody s_lowest) (defScope s_lowest) .none kV15 dc15 pm15 an15 cd15 ct15), sl15⟩) (c15 : PySem.W.codeIn K cd15 "lowest" = true) (k15 : PySem.W.keepIn K (.ref f15) = true)
    {od16 an16 : Option Addr} {sl16 : Array (Option Value)} {oc16 kV16 dc16 pm16 cd16 ct16 : Value}
    (a16 : PySem.W.nsIn K mainGlobals "plus" = some (some (.ref f16))) (l16 : K.lookup f16 = some ⟨oc16, od16, .func (PySem.W.fnOf "plus" "plus" (defArgs s_plus) (defBody s_plus) (defScope s_plus) .none kV16 dc16 pm16 an16 cd16 ct16), sl16⟩) (c16 : PySem.W.codeIn K cd16 "plus" = true) (k16 : PySem.W.keepIn K (.ref f16) = true)
    {od17 an17 : Option Addr} {sl17 : Array (Option Value)} {oc17 kV17 dc17 pm17 cd17 ct17 : Value}
    (a17 : PySem.W.nsIn K mainGlobals "times" = some (some (.ref f17))) (l17 : K.lookup f17 = some ⟨oc17, od17, .func (PySem.W.fnOf "times" "times" (defArgs s_times) (defBody s_times) (defScope s_times) .none kV17 dc17 pm17 an17 cd17 ct17), sl17⟩) (c17 : PySem.W.codeIn K cd17 "times" = true) (k17 : PySem.W.keepIn K (.ref f17) = true)
    {od18 an18 : Option Addr} {sl18 : Array (Option Value)} {oc18 kV18 dc18 pm18 cd18 ct18 : Value}
    (a18 : PySem.W.nsIn K mainGlobals "total" = some (some (.ref f18))) (l18 : K.lookup f18 = some ⟨oc18, od18, .func (PySem.W.fnOf "total" "total" (defArgs s_total) (defBody s_total) (defScope s_total) .none kV18 dc18 pm18 an18 cd18 ct18), sl18⟩) (c18 : PySem.W.codeIn K cd18 "total" = true) (k18 : PySem.W.keepIn K (.ref f18) = true)
    {od19 an19 : Option Addr} {sl19 : Array (Option Value)} {oc19 kV19 dc19 pm19 cd19 ct19 : Value}
    (a19 : PySem.W.nsIn K mainGlobals "minus" = some (some (.ref f19))) (l19 : K.lookup f19 = some ⟨oc19, od19, .func (PySem.W.fnOf "minus" "minus" (defArgs s_minus) (defBody s_minus) (defScope s_minus) .none kV19 dc19 pm19 an19 cd19 ct19), sl19⟩) (c19 : PySem.W.codeIn K cd19 "minus" = true) (k19 : PySem.W.keepIn K (.ref f19) = true)
    {od20 an20 : Option Addr} {sl20 : Array (Option Value)} {oc20 kV20 dc20 pm20 cd20 ct20 : Value}
    (a20 : PySem.W.nsIn K mainGlobals "below" = some (some (.ref f20))) (l20 : K.lookup f20 = some ⟨oc20, od20, .func (PySem.W.fnOf "below" "below" (defArgs s_below) (defBody s_below) (defScope s_below) .none kV20 dc20 pm20 an20 cd20 ct20), sl20⟩) (c20 : PySem.W.codeIn K cd20 "below" = true) (k20 : PySem.W.keepIn K (.ref f20) = true)
    {od21 an21 : Option Addr} {sl21 : Array (Option Value)} {oc21 kV21 dc21 pm21 cd21 ct21 : Value}
    (a21 : PySem.W.nsIn K mainGlobals "unit_sum" = some (some (.ref f21))) (l21 : K.lookup f21 = some ⟨oc21, od21, .func (PySem.W.fnOf "unit_sum" "unit_sum" (defArgs s_unit_sum) (defBody s_unit_sum) (defScope s_unit_sum) .none kV21 dc21 pm21 an21 cd21 ct21), sl21⟩) (c21 : PySem.W.codeIn K cd21 "unit_sum" = true) (k21 : PySem.W.keepIn K (.ref f21) = true)
    {od22 an22 : Option Addr} {sl22 : Array (Option Value)} {oc22 kV22 dc22 pm22 cd22 ct22 : Value}
    (a22 : PySem.W.nsIn K mainGlobals "before" = some (some (.ref f22))) (l22 : K.lookup f22 = some ⟨oc22, od22, .func (PySem.W.fnOf "before" "before" (defArgs s_before) (defBody s_before) (defScope s_before) .none kV22 dc22 pm22 an22 cd22 ct22), sl22⟩) (c22 : PySem.W.codeIn K cd22 "before" = true) (k22 : PySem.W.keepIn K (.ref f22) = true)
    {od23 an23 : Option Addr} {sl23 : Array (Option Value)} {oc23 kV23 dc23 pm23 cd23 ct23 : Value}
    (a23 : PySem.W.nsIn K mainGlobals "most" = some (some (.ref f23))) (l23 : K.lookup f23 = some ⟨oc23, od23, .func (PySem.W.fnOf "most" "most" (defArgs s_most) (defBody s_most) (defScope s_most) .none kV23 dc23 pm23 an23 cd23 ct23), sl23⟩) (c23 : PySem.W.codeIn K cd23 "most" = true) (k23 : PySem.W.keepIn K (.ref f23) = true)
    {od24 an24 : Option Addr} {sl24 : Array (Option Value)} {oc24 kV24 dc24 pm24 cd24 ct24 : Value}
    (a24 : PySem.W.nsIn K mainGlobals "turn_of" = some (some (.ref f24))) (l24 : K.lookup f24 = some ⟨oc24, od24, .func (PySem.W.fnOf "turn_of" "turn_of" (defArgs s_turn_of) (defBody s_turn_of) (defScope s_turn_of) .none kV24 dc24 pm24 an24 cd24 ct24), sl24⟩) (c24 : PySem.W.codeIn K cd24 "turn_of" = true) (k24 : PySem.W.keepIn K (.ref f24) = true)
    {od25 an25 : Option Addr} {sl25 : Array (Option Value)} {oc25 kV25 dc25 pm25 cd25 ct25 : Value}
    (a25 : PySem.W.nsIn K mainGlobals "by_size" = some (some (.ref f25))) (l25 : K.lookup f25 = some ⟨oc25, od25, .func (PySem.W.fnOf "by_size" "by_size" (defArgs s_by_size) (defBody s_by_size) (defScope s_by_size) .none kV25 dc25 pm25 an25 cd25 ct25), sl25⟩) (c25 : PySem.W.codeIn K cd25 "by_size" = true) (k25 : PySem.W.keepIn K (.ref f25) = true)
    {od26 an26 : Option Addr} {sl26 : Array (Option Value)} {oc26 kV26 dc26 pm26 cd26 ct26 : Value}
    (a26 : PySem.W.nsIn K mainGlobals "keeps" = some (some (.ref f26))) (l26 : K.lookup f26 = some ⟨oc26, od26, .func (PySem.W.fnOf "keeps" "keeps" (defArgs s_keeps) (defBody s_keeps) (defScope s_keeps) .none kV26 dc26 pm26 an26 cd26 ct26), sl26⟩) (c26 : PySem.W.codeIn K cd26 "keeps" = true) (k26 : PySem.W.keepIn K (.ref f26) = true)
    {od27 an27 : Option Addr} {sl27 : Array (Option Value)} {oc27 kV27 dc27 pm27 cd27 ct27 : Value}
    (a27 : PySem.W.nsIn K mainGlobals "_law_flow" = some (some (.ref f27))) (l27 : K.lookup f27 = some ⟨oc27, od27, .func (PySem.W.fnOf "_law_flow" "_law_flow" (defArgs s__law_flow) (defBody s__law_flow) (defScope s__law_flow) .none kV27 dc27 pm27 an27 cd27 ct27), sl27⟩) (c27 : PySem.W.codeIn K cd27 "_law_flow" = true) (k27 : PySem.W.keepIn K (.ref f27) = true)
    {od28 an28 : Option Addr} {sl28 : Array (Option Value)} {oc28 kV28 dc28 pm28 cd28 ct28 : Value}
    (a28 : PySem.W.nsIn K mainGlobals "law" = some (some (.ref f28))) (l28 : K.lookup f28 = some ⟨oc28, od28, .func (PySem.W.fnOf "law" "law" (defArgs s_law) (defBody s_law) (defScope s_law) .none kV28 dc28 pm28 an28 cd28 ct28), sl28⟩) (c28 : PySem.W.codeIn K cd28 "law" = true) (k28 : PySem.W.keepIn K (.ref f28) = true)
    (z_abs : PySem.W.nsIn K mainGlobals "abs" = some none)
    (z_range : PySem.W.nsIn K mainGlobals "range" = some none)
    (z_list : PySem.W.nsIn K mainGlobals "list" = some none)
    (z_len : PySem.W.nsIn K mainGlobals "len" = some none)
    (z_min : PySem.W.nsIn K mainGlobals "min" = some none)
    (z_int : PySem.W.nsIn K mainGlobals "int" = some none)
    (z_sum : PySem.W.nsIn K mainGlobals "sum" = some none)
    (z_zip : PySem.W.nsIn K mainGlobals "zip" = some none)
    (z_max : PySem.W.nsIn K mainGlobals "max" = some none)
    (z_enumerate : PySem.W.nsIn K mainGlobals "enumerate" = some none)
    (z_any : PySem.W.nsIn K mainGlobals "any" = some none)
    : ∃ fd : FuncData, (∀ (s : Shared) (v : Value), BindsTo s fd ⟨[v], []⟩ [("_law_script", v)]) ∧ ∀ base : Heap, K.In base → base.Ns mainGlobals mg → FnOk l.prog w K mg base CX0 7 fa fd ["_law_script"] (sp_law K) := by
  have e := hfa.symm.trans (PySem.W.mg_of X G a28)
  cases e
  have F0 := fun_mk (st := s__law_low) l0 c0 k0
  have D__law_low : Df K mg "_law_low" s__law_low ["_law_top", "_law_bottom"] := ⟨f0, _, F0, F0.binds (ps := ["_law_top", "_law_bottom"]) fun _ _ _ _ _ _ us hl => match us, hl with | [_, _], _ => rfl, PySem.W.mg_of X G a0⟩
  have F1 := fun_mk (st := s__law_add) l1 c1 k1
  have D__law_add : Df K mg "_law_add" s__law_add ["_law_a", "_law_b"] := ⟨f1, _, F1, F1.binds (ps := ["_law_a", "_law_b"]) fun _ _ _ _ _ _ us hl => match us, hl with | [_, _], _ => rfl, PySem.W.mg_of X G a1⟩
  have F2 := fun_mk (st := s__law_sub) l2 c2 k2
  have D__law_sub : Df K mg "_law_sub" s__law_sub ["_law_a", "_law_b"] := ⟨f2, _, F2, F2.binds (ps := ["_law_a", "_law_b"]) fun _ _ _ _ _ _ us hl => match us, hl with | [_, _], _ => rfl, PySem.W.mg_of X G a2⟩
  have F3 := fun_mk (st := s__law_mul) l3 c3 k3
  have D__law_mul : Df K mg "_law_mul" s__law_mul ["_law_a", "_law_b"] := ⟨f3, _, F3, F3.binds (ps := ["_law_a", "_law_b"]) fun _ _ _ _ _ _ us hl => match us, hl with | [_, _], _ => rfl, PySem.W.mg_of X G a3⟩
  have F4 := fun_mk (st := s__law_less) l4 c4 k4
  have D__law_less : Df K mg "_law_less" s__law_less ["_law_a", "_law_b"] := ⟨f4, _, F4, F4.binds (ps := ["_law_a", "_law_b"]) fun _ _ _ _ _ _ us hl => match us, hl with | [_, _], _ => rfl, PySem.W.mg_of X G a4⟩
  have F5 := fun_mk (st := s__law_most) l5 c5 k5
  have D__law_most : Df K mg "_law_most" s__law_most ["_law_n", "_law_k"] := ⟨f5, _, F5, F5.binds (ps := ["_law_n", "_law_k"]) fun _ _ _ _ _ _ us hl => match us, hl with | [_, _], _ => rfl, PySem.W.mg_of X G a5⟩
  have F6 := fun_mk (st := s__law_falling) l6 c6 k6
  have D__law_falling : Df K mg "_law_falling" s__law_falling ["_law_row"] := ⟨f6, _, F6, F6.binds (ps := ["_law_row"]) fun _ _ _ _ _ _ us hl => match us, hl with | [_], _ => rfl, PySem.W.mg_of X G a6⟩
  have F7 := fun_mk (st := s__law_keeps) l7 c7 k7
  have D__law_keeps : Df K mg "_law_keeps" s__law_keeps ["_law_lags_here"] := ⟨f7, _, F7, F7.binds (ps := ["_law_lags_here"]) fun _ _ _ _ _ _ us hl => match us, hl with | [_], _ => rfl, PySem.W.mg_of X G a7⟩
  have F8 := fun_mk (st := s__law_many_fields) l8 c8 k8
  have D__law_many_fields : Df K mg "_law_many_fields" s__law_many_fields ["_law_one", "_law_top"] := ⟨f8, _, F8, F8.binds (ps := ["_law_one", "_law_top"]) fun _ _ _ _ _ _ us hl => match us, hl with | [_, _], _ => rfl, PySem.W.mg_of X G a8⟩
  have F9 := fun_mk (st := s__law_first) l9 c9 k9
  have D__law_first : Df K mg "_law_first" s__law_first ["_law_row"] := ⟨f9, _, F9, F9.binds (ps := ["_law_row"]) fun _ _ _ _ _ _ us hl => match us, hl with | [_], _ => rfl, PySem.W.mg_of X G a9⟩
  have F10 := fun_mk (st := s__law_shares) l10 c10 k10
  have D__law_shares : Df K mg "_law_shares" s__law_shares ["_law_row", "_law_n"] := ⟨f10, _, F10, F10.binds (ps := ["_law_row", "_law_n"]) fun _ _ _ _ _ _ us hl => match us, hl with | [_, _], _ => rfl, PySem.W.mg_of X G a10⟩
  have F11 := fun_mk (st := s__law_hour) l11 c11 k11
  have D__law_hour : Df K mg "_law_hour" s__law_hour ["_law_lags_here", "_law_shares_here"] := ⟨f11, _, F11, F11.binds (ps := ["_law_lags_here", "_law_shares_here"]) fun _ _ _ _ _ _ us hl => match us, hl with | [_, _], _ => rfl, PySem.W.mg_of X G a11⟩
  have F12 := fun_mk (st := s__law_lived) l12 c12 k12
  have D__law_lived : Df K mg "_law_lived" s__law_lived ["_law_n", "_law_row", "_law_hours"] := ⟨f12, _, F12, F12.binds (ps := ["_law_n", "_law_row", "_law_hours"]) fun _ _ _ _ _ _ us hl => match us, hl with | [_, _, _], _ => rfl, PySem.W.mg_of X G a12⟩
  have F13 := fun_mk (st := s__law_lags) l13 c13 k13
  have D__law_lags : Df K mg "_law_lags" s__law_lags ["_law_n", "_law_row"] := ⟨f13, _, F13, F13.binds (ps := ["_law_n", "_law_row"]) fun _ _ _ _ _ _ us hl => match us, hl with | [_, _], _ => rfl, PySem.W.mg_of X G a13⟩
  have F14 := fun_mk (st := s_common) l14 c14 k14
  have D_common : Df K mg "common" s_common ["a", "b"] := ⟨f14, _, F14, F14.binds (ps := ["a", "b"]) fun _ _ _ _ _ _ us hl => match us, hl with | [_, _], _ => rfl, PySem.W.mg_of X G a14⟩
  have F15 := fun_mk (st := s_lowest) l15 c15 k15
  have D_lowest : Df K mg "lowest" s_lowest ["top", "bottom"] := ⟨f15, _, F15, F15.binds (ps := ["top", "bottom"]) fun _ _ _ _ _ _ us hl => match us, hl with | [_, _], _ => rfl, PySem.W.mg_of X G a15⟩
  have F16 := fun_mk (st := s_plus) l16 c16 k16
  have D_plus : Df K mg "plus" s_plus ["a", "b"] := ⟨f16, _, F16, F16.binds (ps := ["a", "b"]) fun _ _ _ _ _ _ us hl => match us, hl with | [_, _], _ => rfl, PySem.W.mg_of X G a16⟩
  have F17 := fun_mk (st := s_times) l17 c17 k17
  have D_times : Df K mg "times" s_times ["a", "b"] := ⟨f17, _, F17, F17.binds (ps := ["a", "b"]) fun _ _ _ _ _ _ us hl => match us, hl with | [_, _], _ => rfl, PySem.W.mg_of X G a17⟩
  have F18 := fun_mk (st := s_total) l18 c18 k18
  have D_total : Df K mg "total" s_total ["row"] := ⟨f18, _, F18, F18.binds (ps := ["row"]) fun _ _ _ _ _ _ us hl => match us, hl with | [_], _ => rfl, PySem.W.mg_of X G a18⟩
  have F19 := fun_mk (st := s_minus) l19 c19 k19
  have D_minus : Df K mg "minus" s_minus ["a", "b"] := ⟨f19, _, F19, F19.binds (ps := ["a", "b"]) fun _ _ _ _ _ _ us hl => match us, hl with | [_, _], _ => rfl, PySem.W.mg_of X G a19⟩
  have F20 := fun_mk (st := s_below) l20 c20 k20
  have D_below : Df K mg "below" s_below ["a", "b"] := ⟨f20, _, F20, F20.binds (ps := ["a", "b"]) fun _ _ _ _ _ _ us hl => match us, hl with | [_, _], _ => rfl, PySem.W.mg_of X G a20⟩
  have F21 := fun_mk (st := s_unit_sum) l21 c21 k21
  have D_unit_sum : Df K mg "unit_sum" s_unit_sum ["first", "last"] := ⟨f21, _, F21, F21.binds (ps := ["first", "last"]) fun _ _ _ _ _ _ us hl => match us, hl with | [_, _], _ => rfl, PySem.W.mg_of X G a21⟩
  have F22 := fun_mk (st := s_before) l22 c22 k22
  have D_before : Df K mg "before" s_before ["many"] := ⟨f22, _, F22, F22.binds (ps := ["many"]) fun _ _ _ _ _ _ us hl => match us, hl with | [_], _ => rfl, PySem.W.mg_of X G a22⟩
  have F23 := fun_mk (st := s_most) l23 c23 k23
  have D_most : Df K mg "most" s_most ["many", "k"] := ⟨f23, _, F23, F23.binds (ps := ["many", "k"]) fun _ _ _ _ _ _ us hl => match us, hl with | [_, _], _ => rfl, PySem.W.mg_of X G a23⟩
  have F24 := fun_mk (st := s_turn_of) l24 c24 k24
  have D_turn_of : Df K mg "turn_of" s_turn_of ["row"] := ⟨f24, _, F24, F24.binds (ps := ["row"]) fun _ _ _ _ _ _ us hl => match us, hl with | [_], _ => rfl, PySem.W.mg_of X G a24⟩
  have F25 := fun_mk (st := s_by_size) l25 c25 k25
  have D_by_size : Df K mg "by_size" s_by_size ["lags"] := ⟨f25, _, F25, F25.binds (ps := ["lags"]) fun _ _ _ _ _ _ us hl => match us, hl with | [_], _ => rfl, PySem.W.mg_of X G a25⟩
  have F26 := fun_mk (st := s_keeps) l26 c26 k26
  have D_keeps : Df K mg "keeps" s_keeps ["lags"] := ⟨f26, _, F26, F26.binds (ps := ["lags"]) fun _ _ _ _ _ _ us hl => match us, hl with | [_], _ => rfl, PySem.W.mg_of X G a26⟩
  have F27 := fun_mk (st := s__law_flow) l27 c27 k27
  have D__law_flow : Df K mg "_law_flow" s__law_flow ["_law_script", "_law_many"] := ⟨f27, _, F27, F27.binds (ps := ["_law_script", "_law_many"]) fun _ _ _ _ _ _ us hl => match us, hl with | [_, _], _ => rfl, PySem.W.mg_of X G a27⟩
  have F28 := fun_mk (st := s_law) l28 c28 k28
  have m_abs := PySem.W.mg_none_of X G z_abs
  have m_range := PySem.W.mg_none_of X G z_range
  have m_list := PySem.W.mg_none_of X G z_list
  have m_len := PySem.W.mg_none_of X G z_len
  have m_min := PySem.W.mg_none_of X G z_min
  have m_int := PySem.W.mg_none_of X G z_int
  have m_sum := PySem.W.mg_none_of X G z_sum
  have m_zip := PySem.W.mg_none_of X G z_zip
  have m_max := PySem.W.mg_none_of X G z_max
  have m_enumerate := PySem.W.mg_none_of X G z_enumerate
  have m_any := PySem.W.mg_none_of X G z_any
  exact ⟨_, fun s v => .of_eq rfl, fun base _ _ => ok_law (P := l.prog) (w := w) (base := base) (⟨_, _, F28, F28.binds (ps := ["_law_script"]) fun _ _ _ _ _ _ us hl => match us, hl with | [_], _ => rfl, PySem.W.mg_of X G a28⟩) D__law_low D__law_add D__law_sub D__law_mul D__law_less D__law_most D__law_falling D__law_keeps D__law_many_fields D__law_first D__law_shares D__law_hour D__law_lived D__law_lags D_common D_lowest D_plus D_times D_total D_minus D_below D_unit_sum D_before D_most D_turn_of D_by_size D_keeps D__law_flow m_abs m_range m_list m_len m_min m_int m_sum m_zip m_max m_enumerate m_any⟩
end DT
open PySem PySem.W PyProof.Rows
set_option maxHeartbeats 0 in
theorem PySem.Challenge.cw_ditchturn_k14_whole_a_nought_behind_holds : PySem.Challenge.rw_ditchturn_k14_whole_a_nought_behind.Holds := by
  w_on; o_law; k_head; (case hw => w_witness2)
  k_fill
  refine L2.walk_of (l := PySem.Challenge.rw_ditchturn_k14_whole_a_nought_behind) (n := 63) (k := 7) (x := "_law_script") (CX := fun _ => L2.CX0) (sp := fun w => DT.sp_law _) rfl (by decide) rfl ⟨rfl, by decide, by decide⟩ (fun w h Y => PySem.W.kIn_of Y) ?F (fun _ _ a ns hl _ hS => ⟨a, ns, rfl, hS, hl, fun _ => rfl⟩) (fun _ _ _ _ _ h => h)
  case F =>
    intro w mg fa h KX G hmg
    refine' DT.all_mk KX G hmg ?a0 ?l0 ?c0 ?k0 ?a1 ?l1 ?c1 ?k1 ?a2 ?l2 ?c2 ?k2 ?a3 ?l3 ?c3 ?k3 ?a4 ?l4 ?c4 ?k4 ?a5 ?l5 ?c5 ?k5 ?a6 ?l6 ?c6 ?k6 ?a7 ?l7 ?c7 ?k7 ?a8 ?l8 ?c8 ?k8 ?a9 ?l9 ?c9 ?k9 ?a10 ?l10 ?c10 ?k10 ?a11 ?l11 ?c11 ?k11 ?a12 ?l12 ?c12 ?k12 ?a13 ?l13 ?c13 ?k13 ?a14 ?l14 ?c14 ?k14 ?a15 ?l15 ?c15 ?k15 ?a16 ?l16 ?c16 ?k16 ?a17 ?l17 ?c17 ?k17 ?a18 ?l18 ?c18 ?k18 ?a19 ?l19 ?c19 ?k19 ?a20 ?l20 ?c20 ?k20 ?a21 ?l21 ?c21 ?k21 ?a22 ?l22 ?c22 ?k22 ?a23 ?l23 ?c23 ?k23 ?a24 ?l24 ?c24 ?k24 ?a25 ?l25 ?c25 ?k25 ?a26 ?l26 ?c26 ?k26 ?a27 ?l27 ?c27 ?k27 ?a28 ?l28 ?c28 ?k28 ?z_abs ?z_range ?z_list ?z_len ?z_min ?z_int ?z_sum ?z_zip ?z_max ?z_enumerate ?z_any
    (case a0 => k_is); (case l0 => k_is); (case c0 => k_is); (case k0 => k_is); (case a1 => k_is); (case l1 => k_is); (case c1 => k_is); (case k1 => k_is); (case a2 => k_is); (case l2 => k_is); (case c2 => k_is); (case k2 => k_is); (case a3 => k_is); (case l3 => k_is); (case c3 => k_is); (case k3 => k_is); (case a4 => k_is); (case l4 => k_is); (case c4 => k_is); (case k4 => k_is); (case a5 => k_is); (case l5 => k_is); (case c5 => k_is); (case k5 => k_is); (case a6 => k_is); (case l6 => k_is); (case c6 => k_is); (case k6 => k_is); (case a7 => k_is); (case l7 => k_is); (case c7 => k_is); (case k7 => k_is); (case a8 => k_is); (case l8 => k_is); (case c8 => k_is); (case k8 => k_is); (case a9 => k_is); (case l9 => k_is); (case c9 => k_is); (case k9 => k_is); (case a10 => k_is); (case l10 => k_is); (case c10 => k_is); (case k10 => k_is); (case a11 => k_is); (case l11 => k_is); (case c11 => k_is); (case k11 => k_is); (case a12 => k_is); (case l12 => k_is); (case c12 => k_is); (case k12 => k_is); (case a13 => k_is); (case l13 => k_is); (case c13 => k_is); (case k13 => k_is); (case a14 => k_is); (case l14 => k_is); (case c14 => k_is); (case k14 => k_is); (case a15 => k_is); (case l15 => k_is); (case c15 => k_is); (case k15 => k_is); (case a16 => k_is); (case l16 => k_is); (case c16 => k_is); (case k16 => k_is); (case a17 => k_is); (case l17 => k_is); (case c17 => k_is); (case k17 => k_is); (case a18 => k_is); (case l18 => k_is); (case c18 => k_is); (case k18 => k_is); (case a19 => k_is); (case l19 => k_is); (case c19 => k_is); (case k19 => k_is); (case a20 => k_is); (case l20 => k_is); (case c20 => k_is); (case k20 => k_is); (case a21 => k_is); (case l21 => k_is); (case c21 => k_is); (case k21 => k_is); (case a22 => k_is); (case l22 => k_is); (case c22 => k_is); (case k22 => k_is); (case a23 => k_is); (case l23 => k_is); (case c23 => k_is); (case k23 => k_is); (case a24 => k_is); (case l24 => k_is); (case c24 => k_is); (case k24 => k_is); (case a25 => k_is); (case l25 => k_is); (case c25 => k_is); (case k25 => k_is); (case a26 => k_is); (case l26 => k_is); (case c26 => k_is); (case k26 => k_is); (case a27 => k_is); (case l27 => k_is); (case c27 => k_is); (case k27 => k_is); (case a28 => k_is); (case l28 => k_is); (case c28 => k_is); (case k28 => k_is); (case z_abs => k_is); (case z_range => k_is); (case z_list => k_is); (case z_len => k_is); (case z_min => k_is); (case z_int => k_is); (case z_sum => k_is); (case z_zip => k_is); (case z_max => k_is); (case z_enumerate => k_is); (case z_any => k_is)
