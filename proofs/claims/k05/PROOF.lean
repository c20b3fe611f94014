import PyProof.Rows.All
import Wide.All
import OpenK.AllK
import Wide.FinOn
import HandS.ForMost
import HandS.Wide
import HandS.IsInst
import HandS.StrMore
import HandS.Style
import HandS.Walk
import HandS.ForExc
import HandS.ExcIs
import HandS.Codes
import PySem.Challenge.RW_ditchturn_k05_whole_parts_read
set_option Elab.async false
set_option linter.all false
set_option maxRecDepth 100000
set_option maxHeartbeats 4000000
namespace DT
/-! ### numbers: gcd, lowest terms -/
def gc (a b : Int) : Int := (Int.gcd a b : Int)
structure Low (a b : Int) : Prop where
  pos : 0 < b
  cop : Int.gcd a b = 1
theorem gc_pos {a b : Int} (h : 0 < b) : 0 < gc a b := by
  have : Int.gcd a b ≠ 0 := by
    intro e
    have := (Int.gcd_eq_zero_iff).1 e
    omega
  unfold gc
  omega
theorem gc_dl (a b : Int) : gc a b ∣ a := Int.gcd_dvd_left a b
theorem gc_dr (a b : Int) : gc a b ∣ b := Int.gcd_dvd_right a b
theorem gc_le {a b : Int} (h : 0 < b) : gc a b ≤ b := Int.le_of_dvd h (gc_dr a b)
theorem gc_step {a b : Int} : Int.gcd b (a % b) = Int.gcd a b := by
  rw [Int.emod_def, Int.gcd_comm a b]
  have := Int.gcd_add_mul_right_right b a (-(a / b))
  rw [← this]
  congr 1
  rw [Int.neg_mul, Int.mul_comm (a / b) b]
  omega
theorem gc_abs (a b : Int) : Int.gcd (if a < 0 then -a else a) b = Int.gcd a b := by
  split
  · exact Int.neg_gcd
  · rfl
theorem div_pos' {b g : Int} (hb : 0 < b) (hg : 0 < g) (hd : g ∣ b) : 0 < b / g := by
  obtain ⟨q, rfl⟩ := hd
  rw [Int.mul_ediv_cancel_left q (by omega)]
  exact Int.pos_of_mul_pos_right hb (by omega)
theorem low_div {a b : Int} (h : 0 < b) : Low (a / gc a b) (b / gc a b) := by
  have hg := gc_pos (a := a) h
  refine ⟨div_pos' h hg (gc_dr a b), ?_⟩
  have hn : 0 < Int.gcd a b := by
    have := hg
    unfold gc at this
    omega
  have e := Int.gcd_mul_left (gc a b) (a / gc a b) (b / gc a b)
  rw [Int.mul_ediv_cancel' (gc_dl a b), Int.mul_ediv_cancel' (gc_dr a b)] at e
  have e2 : (gc a b).natAbs = Int.gcd a b := by unfold gc; omega
  rw [e2] at e
  have : Int.gcd a b * 1 = Int.gcd a b * Int.gcd (a / gc a b) (b / gc a b) := by rw [← e, Nat.mul_one]
  exact (Nat.eq_of_mul_eq_mul_left hn this).symm
theorem low_cross (a b : Int) : (a / gc a b) * b = (b / gc a b) * a := by
  obtain ⟨p, hp⟩ := gc_dl a b
  obtain ⟨q, hq⟩ := gc_dr a b
  by_cases h0 : gc a b = 0
  · rw [h0] at hp hq
    rw [show a = 0 by omega, show b = 0 by omega]
  · have e1 : a / gc a b = p := Int.ediv_eq_of_eq_mul_right h0 hp
    have e2 : b / gc a b = q := Int.ediv_eq_of_eq_mul_right h0 hq
    rw [e1, e2]
    calc p * b = p * (gc a b * q) := by rw [← hq]
      _ = q * (gc a b * p) := by rw [Int.mul_left_comm, Int.mul_comm p q, Int.mul_left_comm q]
      _ = q * a := by rw [← hp]
theorem low_self {a b : Int} (h : Low a b) : a / gc a b = a ∧ b / gc a b = b := by
  have : gc a b = 1 := by unfold gc; rw [h.cop]; rfl
  rw [this, Int.ediv_one, Int.ediv_one]
  exact ⟨rfl, rfl⟩
theorem low_uniq {a b c d : Int} (h : Low a b) (k : Low c d) (e : a * d = c * b) : a = c ∧ b = d := by
  have h1 : b.natAbs ∣ d.natAbs := by
    have c1 : Nat.Coprime b.natAbs a.natAbs := by
      have := h.cop
      rw [Int.gcd_comm] at this
      exact this
    refine c1.dvd_of_dvd_mul_left (m := a.natAbs) (n := d.natAbs) ?_
    rw [← Int.natAbs_mul, e, Int.natAbs_mul]
    exact Nat.dvd_mul_left _ _
  have h2 : d.natAbs ∣ b.natAbs := by
    have c1 : Nat.Coprime d.natAbs c.natAbs := by
      have := k.cop
      rw [Int.gcd_comm] at this
      exact this
    refine c1.dvd_of_dvd_mul_left (m := c.natAbs) (n := b.natAbs) ?_
    rw [← Int.natAbs_mul, ← e, Int.natAbs_mul]
    exact Nat.dvd_mul_left _ _
  have hb := h.pos
  have hd := k.pos
  have e1 : b.natAbs = d.natAbs := Nat.dvd_antisymm h1 h2
  have e2 : b = d := by omega
  subst e2
  exact ⟨Int.eq_of_mul_eq_mul_right (by omega) e, rfl⟩
/-- the low form of a pair is told by any low pair worth the same -/
theorem low_is {a b c d : Int} (hd : 0 < d) (h : Low a b) (e : a * d = c * b) : a = c / gc c d ∧ b = d / gc c d := by
  refine low_uniq h (low_div hd) ?_
  obtain ⟨p, hp⟩ := gc_dl c d
  obtain ⟨q, hq⟩ := gc_dr c d
  have hg := gc_pos (a := c) hd
  have e1 : c / gc c d = p := Int.ediv_eq_of_eq_mul_right (by omega) hp
  have e2 : d / gc c d = q := Int.ediv_eq_of_eq_mul_right (by omega) hq
  rw [e1, e2]
  have e3 : gc c d * (a * q) = gc c d * (p * b) := by
    calc gc c d * (a * q) = a * (gc c d * q) := by rw [Int.mul_left_comm]
      _ = a * d := by rw [← hq]
      _ = c * b := e
      _ = gc c d * p * b := by rw [← hp]
      _ = gc c d * (p * b) := by rw [Int.mul_assoc]
  exact Int.eq_of_mul_eq_mul_left (by omega) e3
/-! ### the sum by crossing over what the bottoms share -/
theorem plus_low {a b c d : Int} (h : Low a b) (k : Low c d) :
    let s := gc b d
    let r := b / s
    let t := a * (d / s) + c * r
    let g := gc t s
    Low (t / g) (r * (d / g)) ∧ (t / g) * (b * d) = (a * d + c * b) * (r * (d / g)) := by
  intro s r t g
  have hb := h.pos
  have hd := k.pos
  have hs : 0 < s := gc_pos hd
  have hg : 0 < g := gc_pos hs
  obtain ⟨p, hp⟩ : s ∣ b := gc_dl b d
  obtain ⟨q, hq⟩ : s ∣ d := gc_dr b d
  have er : r = p := Int.ediv_eq_of_eq_mul_right (by omega) hp
  have eq : d / s = q := Int.ediv_eq_of_eq_mul_right (by omega) hq
  obtain ⟨u, hu⟩ : g ∣ t := gc_dl t s
  obtain ⟨v, hv⟩ : g ∣ s := gc_dr t s
  have eu : t / g = u := Int.ediv_eq_of_eq_mul_right (by omega) hu
  have ht : t = a * q + c * p := by
    show a * (d / s) + c * r = _
    rw [eq, er]
  have hgd : d = g * (v * q) := by rw [hq, ← Int.mul_assoc, ← hv]
  have ed : d / g = v * q := Int.ediv_eq_of_eq_mul_right (by omega) hgd
  have hp0 : 0 < p := Int.pos_of_mul_pos_right (hp ▸ hb) (by omega)
  have hq0 : 0 < q := Int.pos_of_mul_pos_right (hq ▸ hd) (by omega)
  have hv0 : 0 < v := Int.pos_of_mul_pos_right (hv ▸ hs) (by omega)
  rw [eu, er, ed]
  have cpq : Int.gcd p q = 1 := by
    have := (low_div (a := b) hd).cop
    rw [show b / gc b d = p from er, show d / gc b d = q from eq] at this
    exact this
  have cap : Nat.Coprime a.natAbs p.natAbs := by
    have c0 : Nat.Coprime a.natAbs b.natAbs := h.cop
    refine Nat.Coprime.coprime_dvd_right ?_ c0
    rw [hp, Int.natAbs_mul]
    exact Nat.dvd_mul_left _ _
  have ccq : Nat.Coprime c.natAbs q.natAbs := by
    have c0 : Nat.Coprime c.natAbs d.natAbs := k.cop
    refine Nat.Coprime.coprime_dvd_right ?_ c0
    rw [hq, Int.natAbs_mul]
    exact Nat.dvd_mul_left _ _
  have cqp : Nat.Coprime q.natAbs p.natAbs := by
    rw [Int.gcd_comm] at cpq
    exact cpq
  have ctp : Int.gcd t p = 1 := by
    rw [ht, Int.mul_comm c p, Int.gcd_add_mul_left_left]
    show Nat.Coprime (a * q).natAbs p.natAbs
    rw [Int.natAbs_mul]
    exact Nat.Coprime.mul_left cap cqp
  have ctq : Int.gcd t q = 1 := by
    rw [ht, Int.add_comm, Int.mul_comm a q, Int.gcd_add_mul_left_left]
    show Nat.Coprime (c * p).natAbs q.natAbs
    rw [Int.natAbs_mul]
    exact Nat.Coprime.mul_left ccq cpq
  have cuv : Int.gcd u v = 1 := by
    have := (low_div (a := t) hs).cop
    rw [show t / gc t s = u from eu, show s / gc t s = v from Int.ediv_eq_of_eq_mul_right (by omega) hv] at this
    exact this
  have ut : u.natAbs ∣ t.natAbs := by
    rw [hu, Int.natAbs_mul]
    exact Nat.dvd_mul_left _ _
  have cup : Nat.Coprime u.natAbs p.natAbs := Nat.Coprime.coprime_dvd_left ut ctp
  have cuq : Nat.Coprime u.natAbs q.natAbs := Nat.Coprime.coprime_dvd_left ut ctq
  refine ⟨⟨Int.mul_pos hp0 (Int.mul_pos hv0 hq0), ?_⟩, ?_⟩
  · show Nat.Coprime u.natAbs (p * (v * q)).natAbs
    rw [Int.natAbs_mul, Int.natAbs_mul]
    exact Nat.Coprime.mul_right cup (Nat.Coprime.mul_right cuv cuq)
  · have e1 : a * d + c * b = s * t := by
      rw [ht, Int.mul_add, ← Int.mul_assoc, ← Int.mul_assoc, Int.mul_comm s a, Int.mul_comm s c, Int.mul_assoc, Int.mul_assoc, ← hq, ← hp]
    rw [e1]
    calc u * (b * d) = u * ((s * p) * (g * (v * q))) := by rw [← hp, ← hgd]
      _ = s * (g * u) * (p * (v * q)) := by
        simp only [Int.mul_assoc, Int.mul_comm, Int.mul_left_comm]
      _ = s * t * (p * (v * q)) := by rw [← hu]
/-- the sum as the program reckons it is the low form of the sum by crossing -/
theorem plus_is {a b c d : Int} (h : Low a b) (k : Low c d) :
    let s := gc b d
    let r := b / s
    let t := a * (d / s) + c * r
    let g := gc t s
    t / g = (a * d + c * b) / gc (a * d + c * b) (b * d) ∧ r * (d / g) = (b * d) / gc (a * d + c * b) (b * d) := by
  intro s r t g
  obtain ⟨h1, h2⟩ := plus_low h k
  exact low_is (Int.mul_pos h.pos k.pos) h1 h2
end DT

namespace DT
open PySem PySem.Spec PyProof.Rows L2
/-! ### heaps that only grow; pairs of ints -/
theorem same_upd {H : Hp} {p : Addr} {o : HO} (h : H p = none) : Same H (upd H p o) := fun b x e => by
  rw [upd_ne (ne_of_none e h)]
  exact e
theorem same_seqT {K : PySem.W.Frag} {H H' : Hp} {a : Addr} {xs : List V} (e : Same H H') (h : SqT K H a xs) : SqT K H' a xs := by
  rcases h with h | h
  · rcases h with h | ⟨o, h⟩
    · exact .inl (.inl (e _ _ h))
    · exact .inl (.inr ⟨o, e _ _ h⟩)
  · exact .inr h
/-- v is a tuple of the ints a and b -/
def Pr (K : PySem.W.Frag) (H : Hp) (v : V) (a b : Int) : Prop := ∃ p, v = .ref p ∧ SqT K H p [.int a, .int b]
theorem Pr.same {K : PySem.W.Frag} {H H' : Hp} {v : V} {a b : Int} (h : Pr K H v a b) (e : Same H H') : Pr K H' v a b := by
  obtain ⟨p, r, q⟩ := h
  exact ⟨p, r, same_seqT e q⟩
theorem Pr.new {K : PySem.W.Frag} {H : Hp} {p : Addr} {a b : Int} : Pr K (upd H p (.tup [.int a, .int b])) (.ref p) a b := ⟨p, rfl, SqT.of upd_same⟩
theorem sqT_ty {K : PySem.W.Frag} {H : Hp} {a : Addr} {xs : List V} (h : SqT K H a xs) : TyX K H (.ref a) (.type "tuple") := by
  rcases h with (h | ⟨o, h⟩) | ⟨o, its, n, h, c, _⟩
  · exact .base (.tup h)
  · exact .fTuple h
  · exact .kTuple h c
theorem Pr.dp {K : PySem.W.Frag} {H : Hp} {v : V} {a b : Int} (h : Pr K H v a b) : Dp K H v (.tuple [.int a, .int b]) := by
  obtain ⟨p, rfl, q⟩ := h
  exact .tup q (.cons (.int a) (.cons (.int b) .nil))
/-- v is a new list of the ints rs -/
def Ls (H : Hp) (v : V) (rs : List Int) : Prop := ∃ p, v = .ref p ∧ H p = some (.lst (rs.map V.int))
theorem Ls.same {H H' : Hp} {v : V} {rs : List Int} (h : Ls H v rs) (e : Same H H') : Ls H' v rs := by
  obtain ⟨p, r, q⟩ := h
  exact ⟨p, r, e _ _ q⟩
theorem ls_at {rs : List Int} {j : Nat} (h : j < rs.length) : atI (rs.map V.int) (j : Int) = some (.int (rs.getD j 0)) := by
  refine atI_nat ?_
  rw [List.getElem?_map, List.getElem?_eq_getElem h]
  simp [List.getD, List.getElem?_eq_getElem h]
/-! ### sizes -/
def Bd (n : Nat) (x : Int) : Prop := x.natAbs < 2 ^ n
theorem Bd.mono {n m : Nat} {x : Int} (h : Bd n x) (e : n ≤ m) : Bd m x := Nat.lt_of_lt_of_le h (Nat.pow_le_pow_right (by decide) e)
theorem Bd.mul {n m : Nat} {x y : Int} (h : Bd n x) (k : Bd m y) : Bd (n + m) (x * y) := wide_lt h k
theorem Bd.add {n : Nat} {x y : Int} (h : Bd n x) (k : Bd n y) : Bd (n + 1) (x + y) := by
  unfold Bd at *
  have : (x + y).natAbs ≤ x.natAbs + y.natAbs := Int.natAbs_add_le x y
  rw [Nat.pow_succ]
  omega
theorem Bd.neg {n : Nat} {x : Int} (h : Bd n x) : Bd n (-x) := by
  unfold Bd at *
  omega
theorem Bd.dvd {n : Nat} {x y : Int} (h : Bd n x) (e : y ∣ x) (hx : x ≠ 0) : Bd n y :=
  Nat.lt_of_le_of_lt (Nat.le_of_dvd (by omega) (Int.natAbs_dvd_natAbs.2 e)) h
theorem Bd.div {n : Nat} {x y : Int} (h : Bd n x) (e : y ∣ x) : Bd n (x / y) := by
  unfold Bd at *
  rw [Int.natAbs_ediv_of_dvd e]
  exact Nat.lt_of_le_of_lt (Nat.div_le_self _ _) h
theorem Bd.gc {n : Nat} {x y : Int} (h : Bd n y) (hy : 0 < y) : Bd n (gc x y) := h.dvd (gc_dr x y) (by omega)
theorem Bd.of {n : Nat} {x m : Int} (h1 : -m < x) (h2 : x < m) (e : m.natAbs ≤ 2 ^ n) : Bd n x := by
  unfold Bd
  omega
theorem bd_mulok {n m : Nat} {x y : Int} (h : Bd n x) (k : Bd m y) (e : n + m ≤ 900000) : CMulW x y :=
  wide_mul (a := n + 1) (b := m + 1) (h.mono (by omega)) (k.mono (by omega)) (by omega) (by omega) (by omega)
theorem bd_divok {n : Nat} {x y : Int} (hy : 0 < y) (k : Bd n y) (e : n ≤ 8900) : CDivW x y := wide_div (b := n + 1) hy (k.mono (by omega)) (by omega) (by omega)
/-- a def of the text: where it stands, how it binds, what the module's name holds -/
structure Df (K : PySem.W.Frag) (mg : Str → Option Value) (x : Str) (st : Stmt) (ps : List Str) where
  f : Addr
  fd : FuncData
  F : Fun K x x st f fd
  b : Binds K fd ps []
  g : mg x = some (.ref f)
end DT
namespace DT
open PySem PySem.Spec PyProof.Rows L2
theorem ls_z {rs : List Int} {z : Int} (j : Nat) (e : z = (j : Int)) (h : j < rs.length) : atI (rs.map V.int) z = some (.int (rs.getD j 0)) := by
  rw [e]
  exact ls_at h
theorem getD_in {rs : List Int} {j : Nat} (h : j < rs.length) : rs.getD j 0 ∈ rs := by
  simp [List.getD, List.getElem?_eq_getElem h]
theorem eqv_pr (a b : Int) : PyData.eqv (.tuple [.int a, .int b]) (.tuple [.int a, .int b]) = true := by
  simp [PyData.eqv, PyData.eqvAll]
theorem shp_pr (a b : Int) : SeqAt.shaped (.tuple [.int a, .int b]) = true := by
  rfl
/-- the promise of a law: True for every script -/
def sp_law (K : PySem.W.Frag) : Sp := fun vs H Q _ => ∃ (a : Addr) (ns : List Int), vs = [.ref a] ∧ SqL K H a (ns.map V.int) ∧ ns.length ≤ 63 ∧ ∀ H', Q (.bl true) H'
end DT
namespace DT
theorem Bd.ediv {n : Nat} {x y : Int} (h : Bd n x) : Bd n (x / y) := Nat.lt_of_le_of_lt (Int.natAbs_ediv_le_natAbs x y) h
theorem Bd.emod {n : Nat} {x y : Int} (hy : 0 < y) (h : Bd n y) : Bd n (x % y) := by
  unfold Bd at *
  have := Int.emod_nonneg x (show y ≠ 0 by omega)
  have := Int.emod_lt_of_pos x hy
  omega
end DT
namespace DT
open PySem PySem.Spec PyProof.Rows L2
/-- a store at an address that was free to begin with -/
theorem same_at {H H1 : Hp} {p : Addr} {o : HO} (hp : H p = none) (sm : Same H H1) : Same H (upd H1 p o) := fun b x e => by
  rw [upd_ne (ne_of_none e hp)]
  exact sm _ _ e
/-- what list(..) of a list or tuple asks -/
def rLo (K : PySem.W.Frag) : List V → Hp → VK → Prop := fun xs H Q => ∃ p ys, xs = [.ref p] ∧ (SqL K H p ys ∨ SqT K H p ys) ∧ ∀ l, H l = none → Q (.ref l) (upd H l (.lst ys))
end DT

namespace DT
open PySem PySem.Spec PyProof.Rows L2
def sp_lowest (K : PySem.W.Frag) : Sp := fun vs H Q _ => ∃ t b : Int, vs = [.int t, .int b] ∧ 0 < b ∧ Bd 8900 b ∧ ∀ H' v, Same H H' → Pr K H' v (t / gc t b) (b / gc t b) → Q v H'
end DT

namespace DT
open PySem PySem.Spec PyProof.Rows L2
/-! ### pairs and their reckoning, as the law does it -/
abbrev Q2 := Int × Int
def lowP (t b : Int) : Q2 := (t / gc t b, b / gc t b)
def addP (x y : Q2) : Q2 := lowP (x.1 * y.2 + y.1 * x.2) (x.2 * y.2)
def subP (x y : Q2) : Q2 := lowP (x.1 * y.2 - y.1 * x.2) (x.2 * y.2)
def mulP (x y : Q2) : Q2 := lowP (x.1 * y.1) (x.2 * y.2)
def Pp (K : PySem.W.Frag) (H : Hp) (v : V) (x : Q2) : Prop := Pr K H v x.1 x.2
theorem Pp.same {K : PySem.W.Frag} {H H' : Hp} {v : V} {x : Q2} (h : Pp K H v x) (e : Same H H') : Pp K H' v x := Pr.same h e
/-- both terms below 2 ^ n, the bottom above nought -/
structure Ok (n : Nat) (x : Q2) : Prop where
  pos : 0 < x.2
  top : Bd n x.1
  bot : Bd n x.2
theorem Ok.mono {n m : Nat} {x : Q2} (h : Ok n x) (e : n ≤ m) : Ok m x := ⟨h.pos, h.top.mono e, h.bot.mono e⟩
theorem lowP_low {t b : Int} (h : 0 < b) : Low (lowP t b).1 (lowP t b).2 := low_div h
theorem lowP_ok {t b : Int} {n : Nat} (h : 0 < b) (h1 : Bd n t) (h2 : Bd n b) : Ok n (lowP t b) := ⟨(low_div h).pos, h1.div (gc_dl t b), h2.div (gc_dr t b)⟩
theorem addP_ok {x y : Q2} {n m : Nat} (h : Ok n x) (k : Ok m y) : Ok (n + m + 1) (addP x y) :=
  lowP_ok (Int.mul_pos h.pos k.pos) (Bd.add (h.top.mul k.bot) ((k.top.mul h.bot).mono (by omega))) ((h.bot.mul k.bot).mono (by omega))
theorem subP_ok {x y : Q2} {n m : Nat} (h : Ok n x) (k : Ok m y) : Ok (n + m + 1) (subP x y) := by
  unfold subP
  rw [Int.sub_eq_add_neg]
  exact lowP_ok (Int.mul_pos h.pos k.pos) (Bd.add (h.top.mul k.bot) ((k.top.mul h.bot).neg.mono (by omega))) ((h.bot.mul k.bot).mono (by omega))
theorem mulP_ok {x y : Q2} {n m : Nat} (h : Ok n x) (k : Ok m y) : Ok (n + m) (mulP x y) := lowP_ok (Int.mul_pos h.pos k.pos) (h.top.mul k.top) (h.bot.mul k.bot)
theorem addP_low {x y : Q2} (h : 0 < x.2) (k : 0 < y.2) : Low (addP x y).1 (addP x y).2 := low_div (Int.mul_pos h k)
/-- promise of a def that makes the pair f x y of two pairs -/
def sp_two (K : PySem.W.Frag) (C : Q2 → Q2 → Prop) (f : Q2 → Q2 → Q2) : Sp := fun vs H Q _ => ∃ (v u : V) (x y : Q2) (n m : Nat), vs = [v, u] ∧ Pp K H v x ∧ Pp K H u y ∧ Ok n x ∧ Ok m y ∧ n + m ≤ 8890 ∧ C x y ∧ ∀ H' r, Same H H' → Pp K H' r (f x y) → Q r H'
def anyC : Q2 → Q2 → Prop := fun _ _ => True
def lowC : Q2 → Q2 → Prop := fun x y => Low x.1 x.2 ∧ Low y.1 y.2
theorem len_two {K : PySem.W.Frag} {C : Q2 → Q2 → Prop} {f : Q2 → Q2 → Q2} {vs : List V} {H : Hp} {Q : VK} {E : XK} (h : sp_two K C f vs H Q E) : vs.length = 2 := by
  obtain ⟨v, u, x, y, n, m, rfl, _⟩ := h
  rfl
theorem low_neg {a b : Int} (h : Low a b) : Low (-a) b := ⟨h.pos, by rw [Int.neg_gcd]; exact h.cop⟩
theorem subP_eq (x y : Q2) : addP x (-y.1, y.2) = subP x y := by
  unfold addP subP
  show lowP (x.1 * y.2 + -y.1 * x.2) _ = _
  rw [Int.neg_mul, ← Int.sub_eq_add_neg]
theorem pp_eq {K : PySem.W.Frag} {H : Hp} {v u : V} {x : Q2} (h : Pp K H v x) (k : Pp K H u x) : ∃ d e, Dp K H v d ∧ Dp K H u e ∧ SeqAt.shaped d = true ∧ SeqAt.shaped e = true ∧ PyData.eqv d e = true :=
  ⟨_, _, Pr.dp h, Pr.dp k, shp_pr _ _, shp_pr _ _, eqv_pr _ _⟩
end DT
namespace DT
open PySem PySem.Spec PyProof.Rows L2
/-! ### sums of lists of pairs -/
def sumP (xs : List Q2) : Q2 := xs.foldl addP (0, 1)
inductive Pps (K : PySem.W.Frag) (H : Hp) : List V → List Q2 → Prop
  | nil : Pps K H [] []
  | cons {v : V} {vs : List V} {x : Q2} {xs : List Q2} : Pp K H v x → Pps K H vs xs → Pps K H (v :: vs) (x :: xs)
theorem Pps.len {K : PySem.W.Frag} {H : Hp} : ∀ {vs : List V} {xs : List Q2}, Pps K H vs xs → vs.length = xs.length
  | _, _, .nil => rfl
  | _, _, .cons _ t => congrArg (· + 1) t.len
theorem Pps.same {K : PySem.W.Frag} {H H' : Hp} (e : Same H H') : ∀ {vs : List V} {xs : List Q2}, Pps K H vs xs → Pps K H' vs xs
  | _, _, .nil => .nil
  | _, _, .cons h t => .cons (h.same e) (t.same e)
theorem Pps.snoc {K : PySem.W.Frag} {H : Hp} {v : V} {x : Q2} (h : Pp K H v x) : ∀ {vs : List V} {xs : List Q2}, Pps K H vs xs → Pps K H (vs ++ [v]) (xs ++ [x])
  | _, _, .nil => .cons h .nil
  | _, _, .cons g t => .cons g (t.snoc h)
theorem pps_get {K : PySem.W.Frag} {H : Hp} : ∀ {vs : List V} {xs : List Q2} {i : Nat} {z : V}, Pps K H vs xs → vs[i]? = some z → ∃ x, xs[i]? = some x ∧ Pp K H z x
  | _, _, 0, _, .cons h _, e => ⟨_, rfl, Option.some.inj e ▸ h⟩
  | _, _, i + 1, z, .cons (vs := vs) (xs := xs) _ t, e => by
    have r := pps_get (vs := vs) (i := i) (z := z) t (by simpa using e)
    simpa using r
theorem sumP_take {xs : List Q2} {i : Nat} {x : Q2} (h : xs[i]? = some x) : sumP (xs.take (i + 1)) = addP (sumP (xs.take i)) x := by
  unfold sumP
  rw [List.take_add_one, h, List.foldl_append]
  rfl
theorem sumP_ok0 : Ok (201 * (0 + 1)) (sumP []) := ⟨by decide, by unfold Bd; decide +kernel, by unfold Bd; decide +kernel⟩
theorem sumP_low0 : Low (sumP []).1 (sumP []).2 := ⟨by decide, rfl⟩
def lowS : Q2 → Prop := fun x => Low x.1 x.2
def anyS : Q2 → Prop := fun _ => True
def sp_sum (K : PySem.W.Frag) (C : Q2 → Prop) : Sp := fun vs H Q _ => ∃ (l : Addr) (us : List V) (xs : List Q2), vs = [.ref l] ∧ SqL K H l us ∧ Pps K H us xs ∧ (∀ x ∈ xs, Ok 200 x) ∧ xs.length ≤ 30 ∧ (∀ x ∈ xs, C x) ∧
  ∀ H' r, Same H H' → Pp K H' r (sumP xs) → Ok 6300 (sumP xs) → Low (sumP xs).1 (sumP xs).2 → Q r H'
end DT
namespace DT
open PySem PySem.Spec PyProof.Rows L2
def datP (x : Q2) : PyData := .tuple [.int x.1, .int x.2]
theorem Pps.dp {K : PySem.W.Frag} {H : Hp} : ∀ {vs : List V} {xs : List Q2}, Pps K H vs xs → DpAll K H vs (xs.map datP)
  | _, _, .nil => .nil
  | _, _, .cons h t => .cons (Pr.dp h) t.dp
theorem lay_ps : ∀ xs : List Q2, PyData.canLayAll0 (xs.map datP) = true
  | [] => by simp [PyData.canLayAll0]
  | x :: xs => by
    rw [List.map_cons]
    simp only [PyData.canLayAll0, lay_ps xs, datP, PyData.canLay0, Bool.and_self]
theorem dep_ps : ∀ xs : List Q2, PyData.depthAll (xs.map datP) ≤ 1
  | [] => by simp [PyData.depthAll]
  | x :: xs => by
    have ih := dep_ps xs
    rw [List.map_cons]
    simp only [PyData.depthAll, datP, PyData.depth] at ih ⊢
    omega
theorem shp_ps (xs : List Q2) : SeqAt.shaped (.list (xs.map datP)) = true := by
  have h1 := lay_ps xs
  have h2 := dep_ps xs
  unfold SeqAt.shaped
  rw [Bool.and_eq_true]
  refine ⟨by simp only [PyData.canLay0, h1], decide_eq_true ?_⟩
  simp only [PyData.depth]
  omega
theorem eqv_ps : ∀ xs : List Q2, PyData.eqvAll (xs.map datP) (xs.map datP) = true
  | [] => by simp [PyData.eqvAll]
  | x :: xs => by
    rw [List.map_cons]
    simp only [PyData.eqvAll, eqv_ps xs, Bool.and_true]
    exact eqv_pr x.1 x.2
theorem eqv_psL (xs : List Q2) : PyData.eqv (.list (xs.map datP)) (.list (xs.map datP)) = true := by
  simp only [PyData.eqv, eqv_ps xs]
end DT
namespace DT
open PySem PySem.Spec PyProof.Rows L2
/-- a store to a list leaves pairs that stand elsewhere -/
theorem Pp.off {K : PySem.W.Frag} {H H' : Hp} {v : V} {x : Q2} {D : Addr} {us : List V} (h : Pp K H v x) (e : ∀ b o, H b = some o → b ≠ D → H' b = some o) (hD : H D = some (.lst us)) : Pp K H' v x := by
  obtain ⟨p, rfl, q⟩ := h
  refine ⟨p, rfl, ?_⟩
  rcases q with q | q
  · rcases q with q | ⟨o, q⟩
    · exact .inl (.inl (e _ _ q (fun z => by rw [z, hD] at q; cases q)))
    · exact .inl (.inr ⟨o, e _ _ q (fun z => by rw [z, hD] at q; cases q)⟩)
  · exact .inr q
theorem Pps.off {K : PySem.W.Frag} {H H' : Hp} {D : Addr} {ws : List V} : ∀ {vs : List V} {xs : List Q2}, Pps K H vs xs → (∀ b o, H b = some o → b ≠ D → H' b = some o) → H D = some (.lst ws) → Pps K H' vs xs
  | _, _, .nil, _, _ => .nil
  | _, _, .cons h t, e, hD => .cons (h.off e hD) (t.off e hD)
end DT

namespace DT
open PySem PySem.Spec PyProof.Rows L2 TL
/-! ### the text of a number -/
abbrev numT (n : Int) : Str := Str.ofString (toString n)
theorem tl_pos (n : Nat) : tl (numT (n : Int)) = numL n := tl_num n
theorem tl_neg (m : Nat) : tl (numT (-((m + 1 : Nat) : Int))) = 45 :: numL (m + 1) := by
  rw [show numT (-((m + 1 : Nat) : Int)) = Str.ofString ("-" ++ toString (((m + 1 : Nat)) : Int)) from rfl, tl_ofString, String.toList_append, List.map_append]
  rw [← tl_num (m + 1), tl_ofString]
  rfl
theorem numT_neg {n : Int} (h : n < 0) : (("-" : Str) ++ numT (-n)) = numT n := by
  obtain ⟨m, rfl⟩ : ∃ m : Nat, n = -((m + 1 : Nat) : Int) := ⟨(-n).toNat - 1, by omega⟩
  apply ext_tl
  rw [tl_append, tl_neg, Int.neg_neg, tl_pos]
  rfl
theorem tl_numT (n : Int) : tl (numT n) = (if n < 0 then [45] else []) ++ numL n.natAbs := by
  by_cases h : n < 0
  · obtain ⟨m, rfl⟩ : ∃ m : Nat, n = -((m + 1 : Nat) : Int) := ⟨(-n).toNat - 1, by omega⟩
    rw [tl_neg, if_pos h]
    rw [show (-((m + 1 : Nat) : Int)).natAbs = m + 1 by omega]
    rfl
  · obtain ⟨m, rfl⟩ : ∃ m : Nat, n = (m : Int) := ⟨n.toNat, by omega⟩
    rw [tl_pos, if_neg h]
    rfl
theorem numT_len {n : Int} {k : Nat} (hk : 0 < k) (h : n.natAbs < 10 ^ k) : (numT n).length ≤ k + 1 := by
  rw [len_tl, tl_numT, List.length_append]
  have := numL_len hk h
  split <;> simp only [List.length_cons, List.length_nil] <;> omega
theorem numL_head {n : Nat} (h : 0 < n) : (numL n).head? ≠ some 48 := by
  induction n using Nat.strongRecOn with
  | _ n ih =>
    by_cases h10 : n < 10
    · rw [numL_lt h10]
      intro e
      have e1 : 48 + n = 48 := Option.some.inj e
      omega
    · rw [numL_step (by omega), List.head?_append]
      have i := ih (n / 10) (by omega) (by omega)
      cases e : (numL (n / 10)).head? with
      | none =>
        rw [List.head?_eq_none_iff] at e
        exact absurd e (numL_ne _)
      | some c =>
        rw [e] at i
        exact i
theorem numL_zero : numL 0 = [48] := numL_lt (by decide)
theorem numL_is0 {n : Nat} (h : numL n = [48]) : n = 0 := by
  rw [← numL_zero] at h
  exact numL_inj h
/-! ### is_number -/
def figs : List Nat := [48, 49, 50, 51, 52, 53, 54, 55, 56, 57]
def isNumB (l : List Nat) : Bool := if l = [] ∨ 400 < l.length then false else if l.head? = some 48 then decide (l = [48]) else l.all fun c => decide (c ∈ figs)
theorem mem_figs {c : Nat} : c ∈ figs ↔ 48 ≤ c ∧ c ≤ 57 := by
  unfold figs
  simp only [List.mem_cons, List.not_mem_nil, or_false]
  omega
theorem isNum_numL {n : Nat} (h : (numL n).length ≤ 400) : isNumB (numL n) = true := by
  unfold isNumB
  rw [if_neg (by rintro (e | e); exact numL_ne n e; omega)]
  by_cases h0 : n = 0
  · subst h0
    rw [numL_zero]
    rfl
  · rw [if_neg (numL_head (by omega)), List.all_eq_true]
    intro c hc
    exact decide_eq_true (mem_figs.2 (numL_digits n c hc))
theorem tl_fig : tl ("0123456789" : Str) = figs := by
  show tl (Str.ofString "0123456789") = figs
  rw [tl_ofString]
  rfl
/-! ### reading -/
theorem tl_rp (x : Str) : tl (Txt.removeprefix x ("-" : Str)) = (match tl x with | 45 :: r => r | l => l) := by
  have e1 : tl ("-" : Str) = [45] := by
    show tl (Str.ofString "-") = _
    rw [tl_ofString]
    rfl
  have e2 : ("-" : Str).length = 1 := by rw [len_tl, e1]; rfl
  have e3 : ("-" : Str).cps = #[45] := by
    apply Array.toList_inj.1
    exact e1
  rw [PySem.StrLaws.removeprefix_eq]
  unfold Builtin.Str.subAt
  rw [e2, e3]
  obtain ⟨a⟩ := x
  obtain ⟨l⟩ := a
  show tl (if _ then _ else _) = (match l with | 45 :: r => r | l => l)
  cases l with
  | nil => rfl
  | cons c r =>
    by_cases h : c = 45
    · subst h
      rw [if_pos (by simp [Str.length])]
      show ((45 :: r).drop 1).take ((45 :: r).length - 1) = r
      simp
    · rw [if_neg (by simp [Str.length, h])]
      show c :: r = _
      split
      · rename_i e
        cases e
        exact absurd rfl h
      · rfl
theorem slash_tl : tl ("/" : Str) = [47] := by
  show tl (Str.ofString "/") = _
  rw [tl_ofString]
  rfl
theorem slash_len : (("/" : Str).length == 0) = false := by
  rw [len_tl, slash_tl]
  rfl
theorem numT_free (n : Int) : 47 ∉ tl (numT n) := by
  rw [tl_numT]
  intro h
  rcases List.mem_append.1 h with h | h
  · split at h
    · rw [List.mem_singleton] at h; omega
    · cases h
  · exact numL_free (by omega) h
theorem part_app (a b : Int) : Txt.partition (numT a ++ ("/" : Str) ++ numT b) ("/" : Str) = (numT a, ("/" : Str), numT b) := partition_app slash_tl (numT_free a)
theorem rp_num (n : Int) : tl (Txt.removeprefix (numT n) ("-" : Str)) = numL n.natAbs := by
  rw [tl_rp, tl_numT]
  by_cases h : n < 0
  · rw [if_pos h]
    rfl
  · rw [if_neg h, List.nil_append]
    split
    · rename_i r e
      have : 45 ∈ numL n.natAbs := by rw [e]; exact List.mem_cons_self
      exact absurd this (numL_free (by omega))
    · rfl
theorem int_numT {n : Int} (h : (numL n.natAbs).length ≤ 4000) : PySem.intText? (numT n) = some n := by
  by_cases hn : n < 0
  · obtain ⟨m, rfl⟩ : ∃ m : Nat, n = -((m + 1 : Nat) : Int) := ⟨(-n).toNat - 1, by omega⟩
    rw [show (-((m + 1 : Nat) : Int)).natAbs = m + 1 by omega] at h
    have e := intText_neg (x := numT (-((m + 1 : Nat) : Int))) (tl_neg m) (numL_digits _) (numL_ne _) (by rw [len_tl, tl_neg, List.length_cons]; omega)
    rw [numL_val] at e
    exact e
  · obtain ⟨m, rfl⟩ : ∃ m : Nat, n = (m : Int) := ⟨n.toNat, by omega⟩
    exact int_num (Nat.le_trans h (by decide))
end DT

namespace DT
open PySem PySem.Spec PyProof.Rows L2 TL
/-! ### which texts write a part, and which part -/
def strip45 : List Nat → List Nat
  | 45 :: r => r
  | l => l
def numV (l : List Nat) : Int := (NumText.digitsVal l : Int)
def topV (A : List Nat) : Int := if A.head? = some 45 then -numV (strip45 A) else numV (strip45 A)
def okAB (A B : List Nat) : Prop := isNumB (strip45 A) = true ∧ isNumB B = true ∧ A ≠ [45, 48] ∧ B ≠ [48]
instance (A B : List Nat) : Decidable (okAB A B) := by unfold okAB; infer_instance
def readAB (A B : List Nat) : Option Q2 := if okAB A B then (if Int.gcd (topV A) (numV B) = 1 then some (topV A, numV B) else none) else none
def readL (l : List Nat) : Option Q2 := match par [47] [] l with
  | none => none
  | some (A, B) => readAB A B
theorem slash_cases (l : List Nat) : 47 ∉ l ∨ ∃ A B, l = A ++ ([47] ++ B) ∧ 47 ∉ A := by
  induction l with
  | nil => exact .inl (by simp)
  | cons c r ih =>
    by_cases hc : c = 47
    · exact .inr ⟨[], r, by rw [hc]; rfl, by simp⟩
    · rcases ih with h | ⟨A, B, e, h⟩
      · refine .inl fun hm => ?_
        rcases List.mem_cons.1 hm with z | z
        · exact hc z.symm
        · exact h z
      · refine .inr ⟨c :: A, B, by rw [e]; rfl, fun hm => ?_⟩
        rcases List.mem_cons.1 hm with z | z
        · exact hc z.symm
        · exact h z
theorem readL_no {l : List Nat} (h : 47 ∉ l) : readL l = none := by
  unfold readL
  rw [par_none1 h]
theorem readL_at {A B : List Nat} (h : 47 ∉ A) : readL (A ++ ([47] ++ B)) = readAB A B := by
  unfold readL
  rw [par_part1 h]
  rfl
/-! ### figures -/
theorem isNum_digits {l : List Nat} (h : isNumB l = true) : NumText.AllDigits l ∧ l ≠ [] ∧ l.length ≤ 400 := by
  unfold isNumB at h
  by_cases h0 : l = [] ∨ 400 < l.length
  · rw [if_pos h0] at h
    cases h
  rw [if_neg h0] at h
  refine ⟨?_, fun e => h0 (.inl e), Nat.le_of_not_lt fun e => h0 (.inr e)⟩
  by_cases h1 : l.head? = some 48
  · rw [if_pos h1] at h
    have e := of_decide_eq_true h
    subst e
    intro c hc
    rw [List.mem_singleton.1 hc]
    decide
  · rw [if_neg h1, List.all_eq_true] at h
    intro c hc
    exact mem_figs.1 (of_decide_eq_true (h c hc))
theorem isNum_47 {l : List Nat} (h : 47 ∈ l) : isNumB l = false := by
  cases e : isNumB l with
  | false => rfl
  | true =>
    have := (isNum_digits e).1 47 h
    omega
theorem val_acc (l : List Nat) (a : Nat) : a ≤ l.foldl (fun acc c => acc * 10 + (c - 48)) a := by
  induction l generalizing a with
  | nil => exact Nat.le_refl _
  | cons c r ih =>
    rw [List.foldl_cons]
    exact Nat.le_trans (by omega) (ih (a * 10 + (c - 48)))
theorem val_zero {l : List Nat} (h : isNumB l = true) : numV l = 0 ↔ l = [48] := by
  constructor
  · intro e
    obtain ⟨hd, hne, _⟩ := isNum_digits h
    cases l with
    | nil => exact absurd rfl hne
    | cons c r =>
      unfold isNumB at h
      rw [if_neg (by rintro (z | z); cases z; have := (isNum_digits (l := c :: r) (by assumption)).2.2; omega)] at h
      by_cases hc : c = 48
      · rw [if_pos (by rw [hc]; rfl)] at h
        exact of_decide_eq_true h
      · exfalso
        have h1 := hd c List.mem_cons_self
        unfold numV NumText.digitsVal at e
        rw [List.foldl_cons] at e
        have := val_acc r (0 * 10 + (c - 48))
        omega
  · intro e
    rw [e]
    rfl
theorem val_nonneg (l : List Nat) : 0 ≤ numV l := Int.natCast_nonneg _
theorem val_lt {l : List Nat} (h : NumText.AllDigits l) : NumText.digitsVal l < 10 ^ l.length := by
  have key : ∀ (l : List Nat) (a : Nat), NumText.AllDigits l → l.foldl (fun acc c => acc * 10 + (c - 48)) a < (a + 1) * 10 ^ l.length := by
    intro l
    induction l with
    | nil => intro a _; simp
    | cons c r ih =>
      intro a h
      rw [List.foldl_cons]
      have h1 := h.head
      refine Nat.lt_of_lt_of_le (ih _ h.tail) ?_
      rw [List.length_cons, Nat.pow_succ, Nat.mul_comm (10 ^ r.length) 10, ← Nat.mul_assoc]
      exact Nat.mul_le_mul_right _ (by omega)
  have := key l 0 h
  rw [Nat.zero_add, Nat.one_mul] at this
  exact this
theorem val_bd {l : List Nat} (h : isNumB l = true) : Bd 1400 (numV l) := by
  obtain ⟨hd, _, hl⟩ := isNum_digits h
  have h1 := val_lt hd
  have h2 : 10 ^ l.length ≤ 10 ^ 400 := Nat.pow_le_pow_right (by decide) hl
  have h3 : (10 : Nat) ^ 400 ≤ 2 ^ 1400 := by decide +kernel
  unfold Bd numV
  omega
theorem int_top {z : Str} (h : isNumB (strip45 (tl z)) = true) : PySem.intText? z = some (topV (tl z)) ∧ z.length ≤ 401 := by
  obtain ⟨hd, hne, hl⟩ := isNum_digits h
  unfold topV
  cases e : tl z with
  | nil =>
    rw [e] at hne
    exact absurd rfl hne
  | cons c r =>
    by_cases hc : c = 45
    · subst hc
      rw [e] at hd hne hl
      have hlen : z.length ≤ 401 := by
        rw [len_tl, e, List.length_cons]
        have : r.length ≤ 400 := hl
        omega
      refine ⟨?_, hlen⟩
      rw [if_pos (show (45 :: r).head? = some 45 from rfl)]
      exact intText_neg (x := z) e hd hne (by omega)
    · have es : strip45 (c :: r) = c :: r := by
        unfold strip45
        split
        · rename_i e2
          exact absurd (List.cons.inj e2).1 hc
        · rfl
      rw [e, es] at hd hne hl
      have hlen : z.length ≤ 401 := by
        rw [len_tl, e]
        omega
      refine ⟨?_, hlen⟩
      rw [if_neg (show ¬ (c :: r).head? = some 45 from fun z => hc (Option.some.inj z)), es]
      have := intText_digits (x := z) (by rw [show z.cps.toList = c :: r from e]; exact hd) (by rw [show z.cps.toList = c :: r from e]; exact hne) (by omega)
      rw [show z.cps.toList = c :: r from e] at this
      exact this
theorem int_num2 {z : Str} (h : isNumB (tl z) = true) : PySem.intText? z = some (numV (tl z)) ∧ z.length ≤ 400 := by
  obtain ⟨hd, hne, hl⟩ := isNum_digits h
  have hlen : z.length ≤ 400 := by rw [len_tl]; exact hl
  exact ⟨intText_digits (x := z) hd hne (by omega), hlen⟩
theorem tl_rp2 (x : Str) : tl (Txt.removeprefix x ("-" : Str)) = strip45 (tl x) := by
  rw [tl_rp]
  rfl
/-! ### the law's own reading: less, top, bottom -/
theorem topV_less {A : List Nat} (h : A.head? = some 45) : topV A = -numV (strip45 A) := if_pos h
theorem topV_not {A : List Nat} (h : ¬ A.head? = some 45) : topV A = numV A ∧ strip45 A = A := by
  have es : strip45 A = A := by
    unfold strip45
    split
    · exact absurd rfl h
    · rfl
  refine ⟨?_, es⟩
  unfold topV
  rw [if_neg h, es]
theorem head45 {A : List Nat} : A.head? = some 45 ↔ A.take 1 = [45] := by
  cases A with
  | nil => simp
  | cons c r => simp
theorem strip_drop {A : List Nat} (h : A.head? = some 45) : strip45 A = A.drop 1 := by
  cases A with
  | nil => cases h
  | cons c r =>
    have : c = 45 := Option.some.inj h
    subst this
    rfl
theorem is450 {A : List Nat} (h : A.head? = some 45) : A = [45, 48] ↔ strip45 A = [48] := by
  cases A with
  | nil => cases h
  | cons c r =>
    have : c = 45 := Option.some.inj h
    subst this
    show 45 :: r = [45, 48] ↔ r = [48]
    simp
theorem not450 {A : List Nat} (h : ¬ A.head? = some 45) : A ≠ [45, 48] := fun e => h (by rw [e]; rfl)
theorem low_iff {a b : Int} (h : 0 < b) : lowP a b = (a, b) ↔ Int.gcd a b = 1 := by
  constructor
  · intro e
    have := (lowP_low (t := a) h).cop
    rw [e] at this
    exact this
  · intro e
    obtain ⟨h1, h2⟩ := low_self (a := a) (b := b) ⟨h, e⟩
    unfold lowP
    rw [h1, h2]
theorem eqv_pr2 (x y : Q2) : PyData.eqv (.tuple [.int x.1, .int x.2]) (.tuple [.int y.1, .int y.2]) = decide (x = y) := by
  obtain ⟨a, b⟩ := x
  obtain ⟨c, d⟩ := y
  simp [PyData.eqv, PyData.eqvAll, Prod.ext_iff]
  rfl
theorem tl_cut0 (z : Str) : tl (cutS z none (some 1)) = (tl z).take 1 := by
  unfold cutS
  rw [HT.sIx_none, show HT.sIx z.length z.length (some 1) = min 1 z.length from HT.sIx_nat z.length z.length 1]
  show ((tl z).drop 0).take (min 1 z.length - 0) = _
  rw [List.drop_zero, Nat.sub_zero, len_tl, List.take_eq_take_iff]
  omega
theorem tl_cut1 (z : Str) : tl (cutS z (some 1) none) = (tl z).drop 1 := by
  unfold cutS
  rw [HT.sIx_none, show HT.sIx z.length 0 (some 1) = min 1 z.length from HT.sIx_nat z.length 0 1]
  show ((tl z).drop (min 1 z.length)).take (z.length - min 1 z.length) = _
  rw [len_tl]
  cases e : tl z with
  | nil => rfl
  | cons c r =>
    rw [show min 1 (c :: r).length = 1 by rw [List.length_cons]; omega]
    show r.take ((c :: r).length - 1) = r
    rw [List.length_cons, Nat.add_sub_cancel, List.take_length]
theorem strip_len (l : List Nat) : (strip45 l).length ≤ l.length := by
  cases l with
  | nil => exact Nat.le_refl _
  | cons c r =>
    by_cases h : c = 45
    · subst h
      exact Nat.le_succ _
    · rw [(topV_not (A := c :: r) (fun z => h (Option.some.inj z))).2]
      exact Nat.le_refl _
end DT

namespace DT
open PySem PySem.Spec PyProof.Rows L2 TL
/-- what the written part says of an own error class without an __init__ of its own -/
structure ExcT (K : PySem.W.Frag) (mg : Str → Option Value) (x : Str) (C : Addr) : Prop where
  g : mg x = some (.ref C)
  xx : PySem.W.excIn K C [.type "ValueError", .type "Exception", .type "BaseException", .type "object"] "ValueError.__new__" = true
  k : PySem.W.keepIn K (.ref C) = true
  b : PySem.W.subIn K (.ref C) (.type "BaseException") = some true
  t : PySem.W.typeIn K (.ref C) = some (.type "type")
/-- isinstance(e, c), the class of the caught error told where it is asked -/
theorem call_isX {X : Cx} {a D : Addr} {oe : Obj} {cls : Value} {d : Option Addr} {pn : List (Addr × Obj)} (C : ExcC X.K D) (hz : Zc cls d oe) (hf : ∃ vs, oe.data = .fields vs) :
    CallR (X.suite a ((a, oe) :: pn)) (.builtin "isinstance") (fun xs H Q => cls = .ref D ∧ d = none ∧ rIsE X.K D a xs H Q) := by
  intro pins s σ H xs us Q I r h
  obtain ⟨rfl, rfl, h⟩ := h
  exact call_isE C hz hf pins s σ H xs us Q I r h
theorem op_mul_str {X : Cx} : OpR X (binaryOp .Mult) (fun x y H Q => ∃ (z : Str) (n : Int), x = .str z ∧ y = .int n ∧ MulOk z n ∧ Q (.str (Txt.mul z n)) H) := by
  intro pins s σ H x y v u Q I rx ry h
  obtain ⟨z, n, rfl, rfl, hz, q⟩ := h
  obtain ⟨t, rfl⟩ := rx
  obtain ⟨t', rfl⟩ := ry
  exact SB.mul hz fun t' k => ⟨.str _, H, I.tok _, ⟨_, rfl⟩, q⟩
theorem rep_size (a : Array Nat) : ∀ (k : Nat) (b : Array Nat), ((List.replicate k a).foldl (· ++ ·) b).size = b.size + k * a.size
  | 0, b => by simp
  | k + 1, b => by
    rw [List.replicate_succ, List.foldl_cons, rep_size a k, Array.size_append, Nat.succ_mul]
    omega
theorem mul_len (z : Str) (n : Int) : (Txt.mul z n).length ≤ n.toNat * z.length + z.length := by
  unfold Txt.mul
  split
  · exact Nat.zero_le _
  · split
    · omega
    · show ((List.replicate n.toNat z.cps).foldl (· ++ ·) #[]).size ≤ _
      rw [rep_size]
      show 0 + n.toNat * z.length ≤ _
      omega
theorem app_len (x y : Str) : (x ++ y).length = x.length + y.length := by
  rw [len_tl, tl_append, List.length_append, ← len_tl, ← len_tl]
end DT
namespace DT
open PySem PySem.Spec PyProof.Rows L2 TL
theorem line5' {n : Nat} (h : n ≤ 100000) : n ≤ sizeLine := Nat.le_trans h (by decide)
theorem log_small {n : Nat} (h : n < 1000) : n.log2 < 1920 := by
  by_cases h0 : n = 0
  · rw [h0]
    decide
  · exact (Nat.log2_lt h0).2 (Nat.lt_of_lt_of_le h (by decide +kernel))
theorem sign_fig : tl ("0123456789" : Str) = figs := tl_fig
theorem tl0 : tl ("0" : Str) = [48] := by
  show tl (Str.ofString "0") = _
  rw [tl_ofString]
  rfl
theorem tl45 : tl ("-" : Str) = [45] := by
  show tl (Str.ofString "-") = _
  rw [tl_ofString]
  rfl
end DT

namespace DT
open PySem PySem.Spec PyProof.Rows L2 TL
/-! ### a number read by pieces of 64 figures -/
theorem dv_acc (l : List Nat) (a : Nat) : l.foldl (fun acc c => acc * 10 + (c - 48)) a = a * 10 ^ l.length + NumText.digitsVal l := by
  induction l generalizing a with
  | nil => simp [NumText.digitsVal]
  | cons c r ih =>
    unfold NumText.digitsVal
    rw [List.foldl_cons, List.foldl_cons, ih, ih (0 * 10 + (c - 48)), List.length_cons, Nat.pow_succ, Nat.add_mul, Nat.zero_mul, Nat.zero_add, Nat.mul_assoc, Nat.mul_comm 10 (10 ^ r.length), Nat.add_assoc]
theorem dv_app (A B : List Nat) : NumText.digitsVal (A ++ B) = NumText.digitsVal A * 10 ^ B.length + NumText.digitsVal B := by
  show List.foldl _ 0 (A ++ B) = _
  rw [List.foldl_append, dv_acc B]
  rfl
theorem dv_noughts (m : Nat) (l : List Nat) : NumText.digitsVal (List.replicate m 48 ++ l) = NumText.digitsVal l := by
  induction m with
  | zero => rfl
  | succ m ih =>
    rw [List.replicate_succ, List.cons_append, NumText.digitsVal_zero, ih]
theorem tl_zfill {z : Str} (hd : NumText.AllDigits (tl z)) {i : Nat} (h : z.length ≤ i) : tl (Txt.zfill z (i : Int)) = List.replicate (i - z.length) 48 ++ tl z := by
  have e0 : tl (PySem.zfilled z (i - z.length)) = List.replicate (i - z.length) 48 ++ tl z := by
    unfold zfilled
    have key : ∀ c, z.cps[0]? = some c → 48 ≤ c ∧ c ≤ 57 := fun c hc => hd c (by
      show c ∈ z.cps.toList
      exact List.mem_of_getElem? (i := 0) (by rw [Array.getElem?_toList]; exact hc))
    split
    · rename_i hc
      have := key _ hc
      omega
    · rename_i hc
      have := key _ hc
      omega
    · show (PySem.Builtin.Str.padded z (i - z.length) 0 48).cps.toList = _
      unfold PySem.Builtin.Str.padded
      simp [tl]
  unfold Txt.zfill
  split
  · rename_i h2
    have : i = z.length := by omega
    rw [this, Nat.sub_self]
    rfl
  · rw [Int.toNat_natCast]
    exact e0
/-- how many pieces -/
def pcs (n : Nat) : Nat := (n + 63) / 64
theorem pcs_eq (n : Nat) : -(-(n : Int) / 64) = (pcs n : Int) := by
  unfold pcs
  omega
theorem rg_pcs {p : Nat} (h : 0 < p) (h8 : p < 8) : RgC 0 ((64 * p : Nat) : Int) 64 p := by
  have : p = 1 ∨ p = 2 ∨ p = 3 ∨ p = 4 ∨ p = 5 ∨ p = 6 ∨ p = 7 := by omega
  rcases this with rfl | rfl | rfl | rfl | rfl | rfl | rfl <;> exact ⟨by decide, by decide, by decide +kernel, by decide +kernel⟩
theorem tl_piece {z : Str} {i p : Nat} (h : z.length = 64 * p) (hi : i < p) : tl (cutS z (some ((64 * i : Nat) : Int)) (some ((64 * i + 64 : Nat) : Int))) = ((tl z).drop (64 * i)).take 64 := by
  unfold cutS
  rw [HT.sIx_nat, HT.sIx_nat]
  show ((tl z).drop (min (64 * i) z.length)).take (min (64 * i + 64) z.length - min (64 * i) z.length) = _
  rw [show min (64 * i) z.length = 64 * i by omega, show min (64 * i + 64) z.length = 64 * i + 64 by omega, show 64 * i + 64 - 64 * i = 64 by omega]
theorem dv_step {l : List Nat} {i p : Nat} (h : l.length = 64 * p) (hi : i < p) : NumText.digitsVal (l.take (64 * (i + 1))) = NumText.digitsVal (l.take (64 * i)) * 10 ^ 64 + NumText.digitsVal ((l.drop (64 * i)).take 64) := by
  rw [show 64 * (i + 1) = 64 * i + 64 by omega, List.take_add, dv_app, List.length_take, List.length_drop, show min 64 (l.length - 64 * i) = 64 by omega]
theorem zf_digits {l : List Nat} (h : NumText.AllDigits l) (m : Nat) : NumText.AllDigits (List.replicate m 48 ++ l) := fun c hc => by
  rcases List.mem_append.1 hc with h1 | h1
  · rw [(List.mem_replicate.1 h1).2]
    decide
  · exact h c h1
theorem dig_bd {l : List Nat} (h : NumText.AllDigits l) {n : Nat} (hn : l.length ≤ n) : ((NumText.digitsVal l : Nat) : Int).natAbs < 10 ^ n := by
  have h1 := val_lt h
  have h2 : 10 ^ l.length ≤ 10 ^ n := Nat.pow_le_pow_right (by decide) hn
  rw [Int.natAbs_natCast]
  omega
theorem all_take {l : List Nat} (h : NumText.AllDigits l) (n : Nat) : NumText.AllDigits (l.take n) := fun c hc => h c (List.mem_of_mem_take hc)
theorem all_drop {l : List Nat} (h : NumText.AllDigits l) (n : Nat) : NumText.AllDigits (l.drop n) := fun c hc => h c (List.mem_of_mem_drop hc)
end DT

namespace DT
open PySem PySem.Spec PyProof.Rows L2 TL
def topS (i : Nat) : Stmt := PySem.Challenge.pw_ditchturn_k05_whole_parts_read.main.body.getD i (.Pass ⟨0, 0, 0, 0⟩)
abbrev s_common : Stmt := topS 9
abbrev N_common : List Str := ["a", "b"]
theorem sc_common : FnScope N_common ["a", "b"] (defScope s_common) := ⟨rfl, rfl, rfl, by decide +kernel, rfl, by decide +kernel, by decide +kernel⟩
abbrev s_lowest : Stmt := topS 10
abbrev N_lowest : List Str := ["top", "bottom", "shared"]
theorem sc_lowest : FnScope N_lowest ["top", "bottom"] (defScope s_lowest) := ⟨rfl, rfl, rfl, by decide +kernel, rfl, by decide +kernel, by decide +kernel⟩
abbrev s_is_number : Stmt := topS 11
abbrev N_is_number : List Str := ["text", "sign"]
theorem sc_is_number : FnScope N_is_number ["text"] (defScope s_is_number) := ⟨rfl, rfl, rfl, by decide +kernel, rfl, by decide +kernel, by decide +kernel⟩
abbrev s_number_read : Stmt := topS 12
abbrev N_number_read : List Str := ["figures", "pieces", "row", "number", "at"]
theorem sc_number_read : FnScope N_number_read ["figures"] (defScope s_number_read) := ⟨rfl, rfl, rfl, by decide +kernel, rfl, by decide +kernel, by decide +kernel⟩
abbrev s_long_part_read : Stmt := topS 13
abbrev N_long_part_read : List Str := ["text", "top", "slash", "bottom", "size", "sign", "part"]
theorem sc_long_part_read : FnScope N_long_part_read ["text"] (defScope s_long_part_read) := ⟨rfl, rfl, rfl, by decide +kernel, rfl, by decide +kernel, by decide +kernel⟩
abbrev s_part_read : Stmt := topS 14
abbrev N_part_read : List Str := ["text", "top", "slash", "bottom"]
theorem sc_part_read : FnScope N_part_read ["text"] (defScope s_part_read) := ⟨rfl, rfl, rfl, by decide +kernel, rfl, by decide +kernel, by decide +kernel⟩
abbrev s__law_whole : Stmt := topS 17
abbrev N__law_whole : List Str := ["_law_found"]
theorem sc__law_whole : FnScope N__law_whole ["_law_found"] (defScope s__law_whole) := ⟨rfl, rfl, rfl, by decide +kernel, rfl, by decide +kernel, by decide +kernel⟩
abbrev s__law_low : Stmt := topS 18
abbrev N__law_low : List Str := ["_law_top", "_law_bottom", "_law_one", "_law_other"]
theorem sc__law_low : FnScope N__law_low ["_law_top", "_law_bottom"] (defScope s__law_low) := ⟨rfl, rfl, rfl, by decide +kernel, rfl, by decide +kernel, by decide +kernel⟩
abbrev s__law_part : Stmt := topS 19
abbrev N__law_part : List Str := ["_law_found"]
theorem sc__law_part : FnScope N__law_part ["_law_found"] (defScope s__law_part) := ⟨rfl, rfl, rfl, by decide +kernel, rfl, by decide +kernel, by decide +kernel⟩
abbrev s__law_is : Stmt := topS 20
abbrev N__law_is : List Str := ["_law_found", "_law_due"]
theorem sc__law_is : FnScope N__law_is ["_law_found", "_law_due"] (defScope s__law_is) := ⟨rfl, rfl, rfl, by decide +kernel, rfl, by decide +kernel, by decide +kernel⟩
abbrev s__law_any : Stmt := topS 21
abbrev N__law_any : List Str := ["_law_one", "_law_two", "_law_top", "_law_bottom"]
theorem sc__law_any : FnScope N__law_any ["_law_one", "_law_two"] (defScope s__law_any) := ⟨rfl, rfl, rfl, by decide +kernel, rfl, by decide +kernel, by decide +kernel⟩
abbrev s__law_figures : Stmt := topS 22
abbrev N__law_figures : List Str := ["_law_one", "_law_two", "_law_long", "_law_text", "_law_k"]
theorem sc__law_figures : FnScope N__law_figures ["_law_one", "_law_two"] (defScope s__law_figures) := ⟨rfl, rfl, rfl, by decide +kernel, rfl, by decide +kernel, by decide +kernel⟩
abbrev s__law_figs : Stmt := topS 23
abbrev N__law_figs : List Str := ["_law_word", "_law_sign_here"]
theorem sc__law_figs : FnScope N__law_figs ["_law_word"] (defScope s__law_figs) := ⟨rfl, rfl, rfl, by decide +kernel, rfl, by decide +kernel, by decide +kernel⟩
abbrev s__law_meant : Stmt := topS 24
abbrev N__law_meant : List Str := ["_law_text", "_law_words", "_law_top", "_law_less", "_law_bottom"]
theorem sc__law_meant : FnScope N__law_meant ["_law_text"] (defScope s__law_meant) := ⟨rfl, rfl, rfl, by decide +kernel, rfl, by decide +kernel, by decide +kernel⟩
abbrev s__law_sign : Stmt := topS 25
abbrev N__law_sign : List Str := ["_law_one", "_law_some"]
theorem sc__law_sign : FnScope N__law_sign ["_law_one"] (defScope s__law_sign) := ⟨rfl, rfl, rfl, by decide +kernel, rfl, by decide +kernel, by decide +kernel⟩
abbrev s__law_spoilt : Stmt := topS 26
abbrev N__law_spoilt : List Str := ["_law_text", "_law_one", "_law_two", "_law_at"]
theorem sc__law_spoilt : FnScope N__law_spoilt ["_law_text", "_law_one", "_law_two"] (defScope s__law_spoilt) := ⟨rfl, rfl, rfl, by decide +kernel, rfl, by decide +kernel, by decide +kernel⟩
abbrev s__law_odd : Stmt := topS 27
abbrev N__law_odd : List Str := ["_law_one", "_law_some", "_law_long"]
theorem sc__law_odd : FnScope N__law_odd ["_law_one"] (defScope s__law_odd) := ⟨rfl, rfl, rfl, by decide +kernel, rfl, by decide +kernel, by decide +kernel⟩
abbrev s__law_flow : Stmt := topS 16
abbrev N__law_flow : List Str := ["_law_script", "_law_many", "_law_great", "_law_row", "_law_k", "_law_cell", "_law_mixed"]
theorem sc__law_flow : FnScope N__law_flow ["_law_script", "_law_many"] (defScope s__law_flow) := ⟨rfl, rfl, rfl, by decide +kernel, rfl, by decide +kernel, by decide +kernel⟩
abbrev s_law : Stmt := topS 28
abbrev N_law : List Str := ["_law_script", "_law_row", "_law_at", "_law_text", "_law_a", "_law_way", "_law_due", "_law_found", "e"]
theorem sc_law : FnScope N_law ["_law_script"] (defScope s_law) := ⟨rfl, rfl, rfl, by decide +kernel, rfl, by decide +kernel, by decide +kernel⟩
section
variable {P : Program} {w : World} {K : PySem.W.Frag} {mg : Str → Option Value} {base : Heap}
def sp_common : Sp := fun vs H Q _ => ∃ a b : Int, vs = [.int a, .int b] ∧ 0 < b ∧ Q (.int (gc a b)) H
theorem ok_common {k : Nat} (D : Df K mg "common" s_common ["a", "b"]) : FnOk P w K mg base CX0 (k + 1) D.f D.fd ["a", "b"] sp_common := by
  refine D.F.ok sc_common (fun vs H Q E h => ?_) (fun cdv A outer s H vs Q E hr h => ?_)
  · obtain ⟨a, b, rfl, _⟩ := h
    rfl
  · obtain ⟨a, b, rfl, hb, q⟩ := h
    refine ⟨_, (pss_cons (ps_while PassesOwn.never (pt_cmpR op_gt (pv 1) pe_int (nomark _)) (pss_one (ps_par (i := 0) (j := 1) (by rfl) sc_common.nd rfl rfl (by decide) rfl rfl (pa_cons (pv 1) (pa_cons (pe_op op_mod (pv 0) (pv 1)) pa_nil)) (by rfl))))
      (pss_one (ps_ret (pv 0)))), ?_⟩
    refine while_by (fun σ H' => ∃ x y : Int, σ = [some (.int x), some (.int y)] ∧ H' = H ∧ 0 ≤ y ∧ Int.gcd x y = Int.gcd a b ∧ (y = 0 → 0 ≤ x))
      (fun σ _ => match σ with | [_, some (.int y)] => y.toNat | _ => 0) ⟨a, b, rfl, rfl, by omega, rfl, by omega⟩ ?_ ?_
    · rintro σ H' ⟨x, y, rfl, rfl, h0, hg, hz⟩
      refine ⟨_, rfl, _, _, rfl, rfl, _, rfl, ite2 (fun e => ?_) (fun e => ?_)⟩
      · have e1 : 0 < y := of_decide_eq_true e
        refine ⟨_, rfl, _, rfl, _, rfl, _, _, rfl, rfl, e1, _, _, rfl, ⟨y, x % y, rfl, rfl, Int.emod_nonneg x (by omega), gc_step.trans hg, fun _ => by omega⟩, ?_⟩
        show (x % y).toNat < y.toNat
        have := Int.emod_lt_of_pos x e1
        have := Int.emod_nonneg x (show y ≠ 0 by omega)
        omega
      · have e1 : ¬ 0 < y := fun z => e (decide_eq_true z)
        have e2 : y = 0 := by omega
        subst e2
        refine ⟨_, rfl, ?_⟩
        have e3 : x = gc a b := by
          unfold gc
          rw [← hg, Int.gcd_zero]
          have := hz rfl
          omega
        rw [e3]
        exact q
    · rintro σ H' Q1 Q2 hq ⟨v, e, i, j, e1, e2, c, e3, r⟩
      exact ⟨v, e, i, j, e1, e2, c, e3, hq _ _ r⟩

theorem ok_lowest {k : Nat} (D : Df K mg "lowest" s_lowest ["top", "bottom"]) (D_common : Df K mg "common" s_common ["a", "b"]) : FnOk P w K mg base CX0 (k + 2) D.f D.fd ["top", "bottom"] (sp_lowest K) := by
  have G_common : FnOk P w K mg base CX0 1 D_common.f D_common.fd ["a", "b"] sp_common := ok_common D_common
  refine D.F.ok sc_lowest (fun vs H Q E h => ?_) (fun cdv A outer s H vs Q E hr h => ?_)
  · obtain ⟨a, b, rfl, _⟩ := h
    rfl
  · obtain ⟨t, b, rfl, hb, hB, q⟩ := h
    refine ⟨_, (pss_cons (ps_set (i := 2) sc_lowest.nd rfl (.inl rfl) (pe_call G_common (hr.mono (by omega)) (by rfl) D_common.g D_common.F.kp D_common.b .nil pass0 (pa_cons (pv 0) (pa_cons (pv 1) pa_nil))))
      (pss_one (ps_ret (pe_tup (pa_cons (pe_op op_fdivW (pv 0) (pv 2)) (pa_cons (pe_op op_fdivW (pv 1) (pv 2)) pa_nil)))))), ?_⟩
    have hg := gc_pos (a := t) hb
    have hk := hB.gc (x := t) hb
    refine ⟨_, rfl, _, rfl, t, b, rfl, hb, ?_⟩
    refine ⟨_, rfl, _, rfl, _, _, rfl, rfl, bd_divok hg hk (by decide), _, rfl, _, rfl, _, _, rfl, rfl, bd_divok hg hk (by decide), (by show 2 ≤ sizeLine; decide), fun p hp => ?_⟩
    exact q _ _ (same_upd hp) Pr.new

def sp_is_number : Sp := fun vs H Q _ => ∃ z : Str, vs = [.str z] ∧ z.length ≤ 400 ∧ ∀ H', Same H H' → Q (.bl (isNumB (tl z))) H'
theorem ok_is_number {k : Nat} {tF : Tok} (D : Df K mg "is_number" s_is_number ["text"]) (m_FIGURES : mg "FIGURES" = some (.str "0123456789" tF)) (m_all : mg "all" = none) : FnOk P w K mg base CX0 (k + 1) D.f D.fd ["text"] sp_is_number := by
  refine D.F.ok sc_is_number (fun vs H Q E h => ?_) (fun cdv A outer s H vs Q E hr h => ?_)
  · obtain ⟨z, rfl, _⟩ := h
    rfl
  obtain ⟨z, rfl, hz, q⟩ := h
  refine ⟨_, (pss_cons (ps_if (pt_cmpR op_eq (pv 0) pe_str (nomark _)) (pss_one (ps_ret pe_bl)) pss_nil)
      (pss_cons (ps_if (pt_cmpR op_eq (pe_ix ix_str (pv 0) pe_int (fun _ _ => rfl)) pe_str (nomark _)) (pss_one (ps_ret (pe_cmpR op_eq (pv 0) pe_str (nomark _)))) pss_nil)
      (pss_one (ps_ret (pe_callB (cr_all rfl) (by rfl) m_all PyProof.Rows.boot_all (pa_cons (pe_lc (own := [("sign", 1)]) (g := gName 1) (tt := tYes) rfl sc_is_number.nd (pi_str (pv 0)) (blkOk_by (N := N_is_number) (sc := defScope s_is_number) (by decide +kernel)) (fun _ _ _ _ _ => pg_name (i := 1) sc_is_number.nd rfl (Or.inl rfl)) (fun _ _ _ _ _ => pts_nil) (fun _ _ _ _ _ => (pe_cmpR op_in_sign (pv 1) (pe_glob (v := .str "0123456789") (by rfl) m_FIGURES ⟨_, rfl⟩) (by rfl)))) pa_nil)))))), ?_⟩
  have hE : tl ("" : Str) = [] := rfl
  refine ⟨_, rfl, rfl, _, rfl, ite2 (fun e => ?_) (fun e => ?_)⟩
  · have e1 : z = ("" : Str) := V.str.inj (of_decide_eq_true e)
    have e2 : isNumB (tl z) = false := by
      rw [e1]
      rfl
    have := q H (Same.refl _)
    rw [e2] at this
    exact this
  have hne : tl z ≠ [] := fun e1 => e (decide_eq_true (congrArg V.str (ext_tl (y := ("" : Str)) e1)))
  have h4 : (tl z).length ≤ 400 := by
    rw [← len_tl]
    exact hz
  have hzl : z.length ≤ sizeLine := Nat.le_trans hz (by decide)
  obtain ⟨c, r, ez⟩ : ∃ c r, tl z = c :: r := by
    cases h : tl z with
    | nil => exact absurd h hne
    | cons c r => exact ⟨c, r, rfl⟩
  have hnum : isNumB (tl z) = if c = 48 then decide (tl z = [48]) else (tl z).all fun c => decide (c ∈ figs) := by
    unfold isNumB
    rw [if_neg (by rintro (e | e); exact hne e; omega), ez]
    by_cases hc : c = 48
    · rw [if_pos hc, if_pos (by rw [hc]; rfl)]
    · rw [if_neg hc, if_neg (show ¬ (c :: r).head? = some 48 from fun e => hc (Option.some.inj e))]
  have hat : atI (tl z) 0 = some c := by
    rw [ez]
    exact atI_nat (j := 0) rfl
  refine ⟨_, rfl, z, 0, c, rfl, rfl, hzl, hat, rfl, _, rfl, ite2 (fun e2 => ?_) (fun e2 => ?_)⟩
  · have hc : c = 48 := by
      have e3 : (⟨#[c]⟩ : Str) = ("0" : Str) := V.str.inj (of_decide_eq_true e2)
      have e4 := congrArg tl e3
      have e5 : tl ("0" : Str) = [48] := by
        show tl (Str.ofString "0") = _
        rw [tl_ofString]
        rfl
      rw [e5] at e4
      exact (List.cons.inj e4).1
    refine ⟨_, rfl, rfl, ?_⟩
    rw [if_pos hc] at hnum
    have e6 : (decide ((V.str z) = V.str ("0" : Str))) = isNumB (tl z) := by
      rw [hnum]
      have e5 : tl ("0" : Str) = [48] := by
        show tl (Str.ofString "0") = _
        rw [tl_ofString]
        rfl
      by_cases h : tl z = [48]
      · rw [decide_eq_true h]
        exact decide_eq_true (congrArg V.str (ext_tl (h.trans e5.symm)))
      · rw [decide_eq_false h]
        refine decide_eq_false fun e7 => h ?_
        rw [V.str.inj e7, e5]
    rw [e6]
    exact q H (Same.refl _)
  have hc : c ≠ 48 := fun hc => e2 (by
    have e5 : tl ("0" : Str) = [48] := by
      show tl (Str.ofString "0") = _
      rw [tl_ofString]
      rfl
    have e6 : (⟨#[c]⟩ : Str) = ("0" : Str) := ext_tl (by rw [e5, hc])
    exact decide_eq_true (congrArg V.str e6))
  rw [if_neg hc] at hnum
  refine ⟨_, rfl, z, rfl, fun Dd hD => ?_⟩
  refine lc_it walk_str (fun i H' => H' Dd = some (.lst ((((tl z).take i).map fun c => decide (c ∈ figs)).map V.bl)) ∧ Same H H') ⟨upd_same, same_upd hD⟩ (fun _ _ _ _ => True.intro) (fun i x H' H'' hi hW hy => ?_) (fun H' hW => ?_)
  · obtain ⟨eD, sm⟩ := hW
    obtain ⟨rfl, c1, hc1, rfl⟩ := hy
    refine ⟨rfl, ?_⟩
    dsimp only [tYes]
    rw [if_pos rfl]
    refine ⟨_, rfl, c1, _, rfl, rfl, _, eD, ?_, ?_, same_at hD sm⟩
    · rw [List.length_map, List.length_map, List.length_take]
      exact Nat.lt_of_le_of_lt (Nat.min_le_right _ _) (small1000 (by omega))
    · rw [upd_same]
      have e7 : (tl z)[i]? = some c1 := by
        rw [← hc1]
        simp [tl]
      rw [List.take_add_one, e7]
      rw [show (("0123456789" : Str)).cps.toList = figs from tl_fig]
      simp only [List.map_append, Option.toList_some, List.map_cons, List.map_nil]
  · obtain ⟨eD, sm⟩ := hW
    have e8 : (tl z).take z.cps.size = tl z := by
      refine List.take_of_length_le ?_
      simp [tl]
    rw [e8] at eD
    refine ⟨Dd, _, rfl, SqL.of eD, ?_⟩
    have e9 : (((tl z).map fun c => decide (c ∈ figs)).all id) = isNumB (tl z) := by
      rw [hnum, List.all_map]
      rfl
    rw [e9]
    exact q _ sm

def sp_number_read : Sp := fun vs H Q _ => ∃ z : Str, vs = [.str z] ∧ isNumB (tl z) = true ∧ ∀ H', Same H H' → Q (.int (numV (tl z))) H'
theorem ok_number_read {k : Nat} {tP tG : Tok} (D : Df K mg "number_read" s_number_read ["figures"]) (m_PIECE : mg "PIECE" = some (.int 10000000000000000000000000000000000000000000000000000000000000000 tP)) (m_PIECE_FIGURES : mg "PIECE_FIGURES" = some (.int 64 tG)) (m_len : mg "len" = none) (m_range : mg "range" = none) (m_int : mg "int" = none) :
    FnOk P w K mg base CX0 (k + 1) D.f D.fd ["figures"] sp_number_read := by
  refine D.F.ok sc_number_read (fun vs H Q E h => ?_) (fun cdv A outer s H vs Q E hr h => ?_)
  · obtain ⟨z, rfl, _⟩ := h
    rfl
  obtain ⟨z, rfl, hz, q⟩ := h
  obtain ⟨hd, hne, hl⟩ := isNum_digits hz
  have hl' : z.length ≤ 400 := by rw [len_tl]; exact hl
  have h0 : 0 < z.length := by
    rw [len_tl]
    exact List.length_pos_iff.2 hne
  have p0 : 0 < pcs z.length := by unfold pcs; omega
  have p8 : pcs z.length < 8 := by unfold pcs; omega
  have pl : z.length ≤ 64 * pcs z.length := by unfold pcs; omega
  have ezf := tl_zfill hd pl
  have erow : numV (List.replicate (64 * pcs z.length - z.length) 48 ++ tl z) = numV (tl z) := congrArg (fun n : Nat => (n : Int)) (dv_noughts _ _)
  have lrow : (Txt.zfill z ((64 * pcs z.length : Nat) : Int)).length = 64 * pcs z.length := by
    rw [len_tl, ezf, List.length_append, List.length_replicate, ← len_tl]
    omega
  have drow : NumText.AllDigits (tl (Txt.zfill z ((64 * pcs z.length : Nat) : Int))) := by
    rw [ezf]
    exact zf_digits hd _
  rw [← erow, ← ezf] at q
  clear erow ezf
  have zs : z.length ≤ sizeLine := Nat.le_trans hl' (by decide)
  refine ⟨_, (pss_cons (ps_set (i := 1) sc_number_read.nd rfl (.inl rfl) (pe_un un_neg (pe_op op_fdivW (pe_un un_neg (pe_callB call_len (by rfl) m_len PySem.boot_len (pa_cons (pv 0) pa_nil))) (pe_glob (v := .int 64) (by rfl) m_PIECE_FIGURES ⟨_, rfl⟩))))
      (pss_cons (ps_set (i := 2) sc_number_read.nd rfl (.inl rfl) (pe_m1 PySem.F.slot_str_zfill PySem.F.type_str_zfill mt_zfill (pv 0) (pe_op op_mul (pv 1) (pe_glob (v := .int 64) (by rfl) m_PIECE_FIGURES ⟨_, rfl⟩))))
      (pss_cons (ps_set (i := 3) sc_number_read.nd rfl (.inl rfl) pe_int)
      (pss_cons (ps_for PassesOwn.never rfl (pi_range3 (by rfl) m_range (pa_cons pe_int (pa_cons (pe_callB call_len (by rfl) m_len PySem.boot_len (pa_cons (pv 2) pa_nil)) (pa_cons (pe_glob (v := .int 64) (by rfl) m_PIECE_FIGURES ⟨_, rfl⟩) pa_nil)))) (pg_name (i := 4) sc_number_read.nd rfl (.inl rfl)) (pss_one (ps_set (i := 3) sc_number_read.nd rfl (.inl rfl) (pe_op op_add (pe_op op_mulW (pv 3) (pe_glob (v := .int 10000000000000000000000000000000000000000000000000000000000000000) (by rfl) m_PIECE ⟨_, rfl⟩)) (pe_callTy call_int_str (by rfl) m_int PyProof.Rows.boot_int (pa_cons (pe_slice sl_str (pv 2) (po_some (pv 4)) (po_some (pe_op op_add (pv 4) (pe_glob (v := .int 64) (by rfl) m_PIECE_FIGURES ⟨_, rfl⟩)))) pa_nil))))))
      (pss_one (ps_ret (pv 3))))))), ?_⟩
  refine ⟨_, rfl, _, z.length, rfl, ⟨zs, rfl⟩, _, rfl, _, _, rfl, rfl, bd_divok (n := 20) (by decide) (by unfold Bd; omega) (by decide), _, rfl, ?_⟩
  refine ⟨_, rfl, ⟨_, rfl⟩, _, rfl, _, _, rfl, rfl, .inr ⟨by decide, by decide⟩, ?_⟩
  dsimp only
  rw [pcs_eq, show (pcs z.length : Int) * 64 = ((64 * pcs z.length : Nat) : Int) by omega]
  refine ⟨_, _, rfl, rfl, ?_, ?_⟩
  · have : pcs z.length = 1 ∨ pcs z.length = 2 ∨ pcs z.length = 3 ∨ pcs z.length = 4 ∨ pcs z.length = 5 ∨ pcs z.length = 6 ∨ pcs z.length = 7 := by omega
    rcases this with e | e | e | e | e | e | e <;> rw [e] <;> decide +kernel
  generalize Txt.zfill z ((64 * pcs z.length : Nat) : Int) = row at q lrow drow ⊢
  generalize pcs z.length = p at lrow p0 p8 ⊢
  have rs : row.length ≤ sizeLine := Nat.le_trans (by omega) (show 1000 ≤ sizeLine by decide)
  have lt : (tl row).length = 64 * p := by rw [← len_tl]; exact lrow
  refine ⟨_, rfl, _, row.length, rfl, ⟨rs, rfl⟩, 0, _, 64, p, rfl, (by rw [lrow]; exact rg_pcs p0 p8), ?_⟩
  refine for_rangeC (fun i σ H' => ∃ y, σ = [some (.str z), some (.int (p : Int)), some (.str row), some (.int (numV ((tl row).take (64 * i)))), y] ∧ H' = H) ⟨_, rfl, rfl⟩ (fun i σ H' hi hW => ?_) (fun σ H' hW => ?_)
  · obtain ⟨y, rfl, rfl⟩ := hW
    have ei : (0 : Int) + (i : Nat) * 64 = ((64 * i : Nat) : Int) := by omega
    have ei2 : ((64 * i : Nat) : Int) + 64 = ((64 * i + 64 : Nat) : Int) := by omega
    rw [ei]
    have ep := tl_piece lrow hi
    have dp : NumText.AllDigits (((tl row).drop (64 * i)).take 64) := all_take (all_drop drow _) _
    have lp : (((tl row).drop (64 * i)).take 64).length = 64 := by
      rw [List.length_take, List.length_drop]
      omega
    refine ⟨_, rfl, _, _, rfl, rfl, ?_, ?_⟩
    · exact bd_mulok (n := 1600) (m := 300) (Nat.lt_of_lt_of_le (dig_bd (all_take drow _) (n := 448) (by rw [List.length_take]; omega)) (by decide +kernel)) (by unfold Bd; decide +kernel) (by decide)
    have it : PySem.intText? (cutS row (some ((64 * i : Nat) : Int)) (some ((64 * i + 64 : Nat) : Int))) = some (numV (((tl row).drop (64 * i)).take 64)) := by
      have := intText_digits (x := cutS row (some ((64 * i : Nat) : Int)) (some ((64 * i + 64 : Nat) : Int))) (by show NumText.AllDigits (tl _); rw [ep]; exact dp) (by show tl _ ≠ []; rw [ep]; intro e; rw [e] at lp; cases lp) (by rw [len_tl, ep, lp]; decide)
      rw [this]
      show some ((NumText.digitsVal (tl _) : Nat) : Int) = _
      rw [ep]
      rfl
    refine ⟨_, rfl, _, rfl, _, rfl, _, rfl, _, _, rfl, rfl, _, rfl, row, rfl, rs, _, numV (((tl row).drop (64 * i)).take 64), rfl, (by rw [ei2]; exact it), (by rw [ei2, len_tl, ep, lp]; decide), _, _, rfl, rfl, ?_⟩
    refine ⟨_, congrArg (fun n : Int => [some (V.str z), some (V.int (p : Int)), some (V.str row), some (V.int n), some (V.int ((64 * i : Nat) : Int))]) ?_, rfl⟩
    show numV ((tl row).take (64 * i)) * 10000000000000000000000000000000000000000000000000000000000000000 + numV (((tl row).drop (64 * i)).take 64) = numV ((tl row).take (64 * (i + 1)))
    unfold numV
    rw [dv_step lt hi, Int.natCast_add, Int.natCast_mul, show ((10 ^ 64 : Nat) : Int) = 10000000000000000000000000000000000000000000000000000000000000000 by decide +kernel]
  · obtain ⟨y, rfl, rfl⟩ := hW
    refine ⟨_, rfl, ?_⟩
    rw [List.take_of_length_le (Nat.le_of_eq lt)]
    exact q _ (Same.refl _)

theorem line5 {n : Nat} (h : n ≤ 100000) : n ≤ sizeLine := Nat.le_trans h (by decide)
theorem part_facts {z : Str} (hz : z.length ≤ 100000) : ∃ top sl bot : Str, Txt.partition z ("/" : Str) = (top, sl, bot) ∧ top.length ≤ 100000 ∧ bot.length ≤ 100000 ∧ readL (tl z) = readAB (tl top) (tl bot) := by
  rcases slash_cases (tl z) with h | ⟨A, B, e, h⟩
  · refine ⟨z, Str.empty, Str.empty, partition_none slash_tl h, hz, Nat.zero_le _, ?_⟩
    rw [readL_no h]
    unfold readAB
    rw [if_neg]
    rintro ⟨_, h2, _⟩
    exact absurd h2 (by decide)
  · have ez : z = (⟨A.toArray⟩ : Str) ++ ("/" : Str) ++ (⟨B.toArray⟩ : Str) := by
      apply ext_tl
      rw [tl_append, tl_append, slash_tl, e, List.append_assoc]
    refine ⟨⟨A.toArray⟩, ("/" : Str), ⟨B.toArray⟩, ?_, ?_, ?_, ?_⟩
    · rw [ez]
      exact partition_app slash_tl (by rw [tl_mk]; exact h)
    · have := app_len ((⟨A.toArray⟩ : Str) ++ ("/" : Str)) (⟨B.toArray⟩ : Str)
      have := app_len (⟨A.toArray⟩ : Str) ("/" : Str)
      rw [ez] at hz
      omega
    · have := app_len ((⟨A.toArray⟩ : Str) ++ ("/" : Str)) (⟨B.toArray⟩ : Str)
      rw [ez] at hz
      omega
    · rw [e, readL_at h, tl_mk, tl_mk]
def sp_long_part_read (K : PySem.W.Frag) (C : Addr) : Sp := fun vs H Q E => ∃ z : Str, vs = [.str z] ∧ z.length ≤ 100000 ∧ (∀ top sl bot : Str, Txt.partition z ("/" : Str) = (top, sl, bot) → (strip45 (tl top)).length ≤ 400 ∧ (tl bot).length ≤ 400) ∧
  (∀ x, readL (tl z) = some x → ∀ H' v, Same H H' → Pp K H' v x → Q v H') ∧ (readL (tl z) = none → ∀ H', Same H H' → E (.ref C) none H')
theorem ok_long_part_read {k : Nat} {tP tG tF : Tok} {CB : Addr} (D : Df K mg "long_part_read" s_long_part_read ["text"]) (D_common : Df K mg "common" s_common ["a", "b"]) (D_lowest : Df K mg "lowest" s_lowest ["top", "bottom"]) (D_is_number : Df K mg "is_number" s_is_number ["text"]) (D_number_read : Df K mg "number_read" s_number_read ["figures"]) (T_BadPart : ExcT K mg "BadPart" CB) (m_PIECE : mg "PIECE" = some (.int 10000000000000000000000000000000000000000000000000000000000000000 tP)) (m_PIECE_FIGURES : mg "PIECE_FIGURES" = some (.int 64 tG)) (m_FIGURES : mg "FIGURES" = some (.str "0123456789" tF)) (m_len : mg "len" = none) (m_range : mg "range" = none) (m_int : mg "int" = none) (m_all : mg "all" = none) :
    FnOk P w K mg base (L2.CX P w) (k + 3) D.f D.fd ["text"] (sp_long_part_read K CB) := by
  have G_lowest : FnOk P w K mg base CX0 2 D_lowest.f D_lowest.fd ["top", "bottom"] (sp_lowest K) := ok_lowest D_lowest D_common
  have G_is_number : FnOk P w K mg base CX0 2 D_is_number.f D_is_number.fd ["text"] sp_is_number := ok_is_number D_is_number m_FIGURES m_all
  have G_number_read : FnOk P w K mg base CX0 2 D_number_read.f D_number_read.fd ["figures"] sp_number_read := ok_number_read D_number_read m_PIECE m_PIECE_FIGURES m_len m_range m_int
  refine D.F.okX sc_long_part_read (fun vs H Q E h => ?_) (fun cdv A outer s H vs Q E hr h => ?_)
  · obtain ⟨z, rfl, _⟩ := h
    rfl
  obtain ⟨z, rfl, hz, hle, q, qe⟩ := h
  refine ⟨_, (pss_cons (ps_asg (pe_partition (pv 0) pe_str) (pg_tup rfl (pgs_cons (pg_name (i := 1) sc_long_part_read.nd rfl (.inl rfl)) (pgs_cons (pg_name (i := 2) sc_long_part_read.nd rfl (.inl rfl)) (pgs_cons (pg_name (i := 3) sc_long_part_read.nd rfl (.inl rfl)) pgs_nil)))))
      (pss_cons (ps_set (i := 4) sc_long_part_read.nd rfl (.inl rfl) (pe_m1 PySem.F.slot_str_removeprefix PySem.F.type_str_removeprefix mt_removeprefix (pv 1) pe_str))
      (pss_cons (ps_if (PW.pt (pw_or (pt_not (pt_val (pe_call G_is_number (hr.mono (by omega)) (by rfl) D_is_number.g D_is_number.F.kp D_is_number.b .nil pass0 (pa_cons (pv 4) pa_nil)))) (pw_or1 (pt_not (pt_val (pe_call G_is_number (hr.mono (by omega)) (by rfl) D_is_number.g D_is_number.F.kp D_is_number.b .nil pass0 (pa_cons (pv 3) pa_nil))))))) (pss_one (ps_raise rfl (takes_of rfl rfl rfl rfl) (pmk_own PySem.F.excBase_ValueError T_BadPart.xx T_BadPart.g T_BadPart.k (raises_own T_BadPart.b T_BadPart.t) rfl))) pss_nil)
      (pss_cons (ps_if (PW.pt (pw_or (pt_cmpR op_eq (pv 1) pe_str (nomark _)) (pw_or1 (pt_cmpR op_eq (pv 3) pe_str (nomark _))))) (pss_one (ps_raise rfl (takes_of rfl rfl rfl rfl) (pmk_own PySem.F.excBase_ValueError T_BadPart.xx T_BadPart.g T_BadPart.k (raises_own T_BadPart.b T_BadPart.t) rfl))) pss_nil)
      (pss_cons (ps_set (i := 5) sc_long_part_read.nd rfl (.inl rfl) (pe_ifExp (pt_cmpR op_ne (pv 1) (pv 4) (nomark _)) (pe_un un_neg pe_int) pe_int))
      (pss_cons (ps_set (i := 6) sc_long_part_read.nd rfl (.inl rfl) (pe_tup (pa_cons (pe_op op_mul (pv 5) (pe_call G_number_read (hr.mono (by omega)) (by rfl) D_number_read.g D_number_read.F.kp D_number_read.b .nil pass0 (pa_cons (pv 4) pa_nil))) (pa_cons (pe_call G_number_read (hr.mono (by omega)) (by rfl) D_number_read.g D_number_read.F.kp D_number_read.b .nil pass0 (pa_cons (pv 3) pa_nil)) pa_nil))))
      (pss_cons (ps_if (pt_cmpR (op_neD hr.units) (pe_call G_lowest (hr.mono (by omega)) (by rfl) D_lowest.g D_lowest.F.kp D_lowest.b .nil pass0 (pa_cons (pe_ix ix_tup (pv 6) pe_int (fun _ _ => rfl)) (pa_cons (pe_ix ix_tup (pv 6) pe_int (fun _ _ => rfl)) pa_nil))) (pv 6) (nomark _)) (pss_one (ps_raise rfl (takes_of rfl rfl rfl rfl) (pmk_own PySem.F.excBase_ValueError T_BadPart.xx T_BadPart.g T_BadPart.k (raises_own T_BadPart.b T_BadPart.t) rfl))) pss_nil)
      (pss_one (ps_ret (pv 6)))))))))), ?_⟩
  have hz' := line5 hz
  obtain ⟨top, sl, bot, ep, ht, hbt, hread⟩ := part_facts hz
  rw [hread] at q qe
  refine ⟨_, rfl, ⟨_, rfl⟩, _, _, rfl, rfl, slash_len, hz', fun p hp => ?_⟩
  rw [ep]
  refine ⟨p, _, rfl, SqT.of upd_same, rfl, _, _, rfl, _, _, rfl, _, _, rfl, rfl, ?_⟩
  have s1 : Same H (upd H p (.tup [.str top, .str sl, .str bot])) := same_upd hp
  have erp := tl_rp2 top
  obtain ⟨hl1, hl2⟩ := hle top sl bot ep
  have rl : (Txt.removeprefix top ("-" : Str)).length ≤ 400 := by
    rw [len_tl, erp]
    exact hl1
  have bl : bot.length ≤ 400 := by
    rw [len_tl]
    exact hl2
  refine ⟨_, rfl, ⟨_, rfl⟩, _, _, rfl, rfl, line5 ht, _, rfl, _, rfl, rl, fun H2 s2 => ?_⟩
  rw [erp]
  refine ⟨_, rfl, ite2 (fun e => ?_) (fun e => ?_)⟩
  · -- the top is no number
    refine iteT ?_
    refine qe ?_ _ (s1.trans s2)
    unfold readAB
    rw [if_neg]
    rintro ⟨h1, _⟩
    rw [h1] at e
    cases e
  have n1 : isNumB (strip45 (tl top)) = true := by
    cases h : isNumB (strip45 (tl top)) with
    | true => rfl
    | false => rw [h] at e; exact absurd rfl e
  refine ⟨_, rfl, _, rfl, bl, fun H3 s3 => ?_⟩
  refine ⟨_, rfl, ite2 (fun e => ?_) (fun e => ?_)⟩
  · refine qe ?_ _ (s1.trans (s2.trans s3))
    unfold readAB
    rw [if_neg]
    rintro ⟨_, h1, _⟩
    rw [h1] at e
    cases e
  have n2 : isNumB (tl bot) = true := by
    cases h : isNumB (tl bot) with
    | true => rfl
    | false => rw [h] at e; exact absurd rfl e
  have e45 : tl ("-0" : Str) = [45, 48] := by
    show tl (Str.ofString "-0") = _
    rw [tl_ofString]
    rfl
  have e48 : tl ("0" : Str) = [48] := by
    show tl (Str.ofString "0") = _
    rw [tl_ofString]
    rfl
  refine ⟨_, rfl, rfl, _, rfl, ite2 (fun e => ?_) (fun e => ?_)⟩
  · refine iteT ?_
    refine qe ?_ _ (s1.trans (s2.trans s3))
    unfold readAB
    rw [if_neg]
    rintro ⟨_, _, h1, _⟩
    exact h1 ((congrArg tl (show top = ("-0" : Str) from V.str.inj (of_decide_eq_true e))).trans e45)
  refine ⟨_, rfl, rfl, _, rfl, ite2 (fun e1 => ?_) (fun e1 => ?_)⟩
  · refine qe ?_ _ (s1.trans (s2.trans s3))
    unfold readAB
    rw [if_neg]
    rintro ⟨_, _, _, h1⟩
    exact h1 ((congrArg tl (show bot = ("0" : Str) from V.str.inj (of_decide_eq_true e1))).trans e48)
  have hok : okAB (tl top) (tl bot) := ⟨n1, n2, fun h => e (decide_eq_true (congrArg V.str (ext_tl (h.trans e45.symm)))), fun h => e1 (decide_eq_true (congrArg V.str (ext_tl (h.trans e48.symm))))⟩
  have eAB : readAB (tl top) (tl bot) = if Int.gcd (topV (tl top)) (numV (tl bot)) = 1 then some (topV (tl top), numV (tl bot)) else none := by
    unfold readAB
    rw [if_pos hok]
  have hb0 : 0 < numV (tl bot) := by
    have h1 := val_nonneg (tl bot)
    have h2 : numV (tl bot) ≠ 0 := fun h => hok.2.2.2 ((val_zero n2).1 h)
    omega
  have hbd := val_bd n2
  have hz1 : isNumB (tl (Txt.removeprefix top ("-" : Str))) = true := by
    rw [erp]
    exact n1
  have v1 : numV (tl (Txt.removeprefix top ("-" : Str))) = numV (strip45 (tl top)) := by rw [erp]
  have hsg : (decide (V.str top = V.str (Txt.removeprefix top ("-" : Str)))) = !decide ((tl top).head? = some 45) := by
    by_cases h : (tl top).head? = some 45
    · rw [decide_eq_true h]
      refine decide_eq_false fun e => ?_
      have e1 := congrArg tl (V.str.inj e)
      rw [erp, strip_drop h] at e1
      have := congrArg List.length e1
      rw [List.length_drop] at this
      cases et : tl top with
      | nil => rw [et] at h; cases h
      | cons c r => rw [et, List.length_cons] at this; omega
    · rw [decide_eq_false h]
      refine decide_eq_true (congrArg V.str (ext_tl ?_))
      rw [erp]
      exact (topV_not h).2.symm
  refine ⟨_, rfl, _, rfl, rfl, _, rfl, ?_⟩
  rw [hsg]
  by_cases h : (tl top).head? = some 45
  · rw [decide_eq_true h]
    refine iteT ⟨_, rfl, ?_⟩
    refine ⟨_, rfl, _, rfl, _, rfl, hz1, fun H4 s4 => ?_⟩
    refine ⟨_, _, rfl, rfl, .inl ⟨by decide, by decide⟩, _, rfl, _, rfl, n2, fun H5 s5 => ⟨(by show 2 ≤ sizeLine; decide), fun t ht => ?_⟩⟩
    rw [v1]
    dsimp only
    rw [show (-1 : Int) * numV (strip45 (tl top)) = topV (tl top) by rw [topV_less h]; omega]
    have st : Same H5 (upd H5 t (.tup [.int (topV (tl top)), .int (numV (tl bot))])) := same_upd ht
    have pr : Pp K (upd H5 t (.tup [.int (topV (tl top)), .int (numV (tl bot))])) (.ref t) (topV (tl top), numV (tl bot)) := Pr.new
    have hT : SqT K (upd H5 t (.tup [.int (topV (tl top)), .int (numV (tl bot))])) t [.int (topV (tl top)), .int (numV (tl bot))] := SqT.of upd_same
    refine ⟨_, rfl, t, _, 0, _, rfl, rfl, hT, rfl, _, rfl, t, _, 1, _, rfl, rfl, hT, rfl, _, _, rfl, hb0, hbd.mono (by decide), fun H6 v6 s6 p6 => ?_⟩
    have p6' : Pp K H6 v6 (lowP (topV (tl top)) (numV (tl bot))) := p6
    have sall := s1.trans (s2.trans (s3.trans (s4.trans (s5.trans (st.trans s6)))))
    refine ⟨_, rfl, _, _, Pr.dp p6', Pr.dp (pr.same s6), shp_pr _ _, shp_pr _ _, _, rfl, ?_⟩
    rw [eqv_pr2 (lowP (topV (tl top)) (numV (tl bot))) (topV (tl top), numV (tl bot))]
    by_cases hg : Int.gcd (topV (tl top)) (numV (tl bot)) = 1
    · rw [decide_eq_true ((low_iff hb0).2 hg)]
      refine iteF ?_
      rw [if_pos hg] at eAB
      exact ⟨_, rfl, q _ eAB _ _ sall (pr.same s6)⟩
    · rw [decide_eq_false fun h => hg ((low_iff hb0).1 h)]
      refine iteT ?_
      rw [if_neg hg] at eAB
      exact qe eAB _ sall
  · rw [decide_eq_false h]
    refine iteF ?_
    refine ⟨_, rfl, _, rfl, _, rfl, hz1, fun H4 s4 => ?_⟩
    refine ⟨_, _, rfl, rfl, .inl ⟨by decide, by decide⟩, _, rfl, _, rfl, n2, fun H5 s5 => ⟨(by show 2 ≤ sizeLine; decide), fun t ht => ?_⟩⟩
    rw [v1]
    dsimp only
    rw [show (1 : Int) * numV (strip45 (tl top)) = topV (tl top) by rw [(topV_not h).1, (topV_not h).2]; omega]
    have st : Same H5 (upd H5 t (.tup [.int (topV (tl top)), .int (numV (tl bot))])) := same_upd ht
    have pr : Pp K (upd H5 t (.tup [.int (topV (tl top)), .int (numV (tl bot))])) (.ref t) (topV (tl top), numV (tl bot)) := Pr.new
    have hT : SqT K (upd H5 t (.tup [.int (topV (tl top)), .int (numV (tl bot))])) t [.int (topV (tl top)), .int (numV (tl bot))] := SqT.of upd_same
    refine ⟨_, rfl, t, _, 0, _, rfl, rfl, hT, rfl, _, rfl, t, _, 1, _, rfl, rfl, hT, rfl, _, _, rfl, hb0, hbd.mono (by decide), fun H6 v6 s6 p6 => ?_⟩
    have p6' : Pp K H6 v6 (lowP (topV (tl top)) (numV (tl bot))) := p6
    have sall := s1.trans (s2.trans (s3.trans (s4.trans (s5.trans (st.trans s6)))))
    refine ⟨_, rfl, _, _, Pr.dp p6', Pr.dp (pr.same s6), shp_pr _ _, shp_pr _ _, _, rfl, ?_⟩
    rw [eqv_pr2 (lowP (topV (tl top)) (numV (tl bot))) (topV (tl top), numV (tl bot))]
    by_cases hg : Int.gcd (topV (tl top)) (numV (tl bot)) = 1
    · rw [decide_eq_true ((low_iff hb0).2 hg)]
      refine iteF ?_
      rw [if_pos hg] at eAB
      exact ⟨_, rfl, q _ eAB _ _ sall (pr.same s6)⟩
    · rw [decide_eq_false fun h => hg ((low_iff hb0).1 h)]
      refine iteT ?_
      rw [if_neg hg] at eAB
      exact qe eAB _ sall

def sp_part_read (K : PySem.W.Frag) (C : Addr) : Sp := fun vs H Q E => ∃ z : Str, vs = [.str z] ∧ z.length ≤ 100000 ∧
  (∀ x, readL (tl z) = some x → ∀ H' v, Same H H' → Pp K H' v x → Q v H') ∧ (readL (tl z) = none → ∀ H', Same H H' → E (.ref C) none H')
theorem ok_part_read {k : Nat} {tP tG tF tM : Tok} {CB : Addr} (D : Df K mg "part_read" s_part_read ["text"]) (D_long_part_read : Df K mg "long_part_read" s_long_part_read ["text"]) (D_common : Df K mg "common" s_common ["a", "b"]) (D_lowest : Df K mg "lowest" s_lowest ["top", "bottom"]) (D_is_number : Df K mg "is_number" s_is_number ["text"]) (D_number_read : Df K mg "number_read" s_number_read ["figures"]) (m_MOST_FIGURES_READ : mg "MOST_FIGURES_READ" = some (.int 400 tM)) (T_BadPart : ExcT K mg "BadPart" CB) (m_PIECE : mg "PIECE" = some (.int 10000000000000000000000000000000000000000000000000000000000000000 tP)) (m_PIECE_FIGURES : mg "PIECE_FIGURES" = some (.int 64 tG)) (m_FIGURES : mg "FIGURES" = some (.str "0123456789" tF)) (m_len : mg "len" = none) (m_range : mg "range" = none) (m_int : mg "int" = none) (m_all : mg "all" = none) :
    FnOk P w K mg base (L2.CX P w) (k + 4) D.f D.fd ["text"] (sp_part_read K CB) := by
  have G_long_part_read : FnOk P w K mg base (L2.CX P w) 3 D_long_part_read.f D_long_part_read.fd ["text"] (sp_long_part_read K CB) := ok_long_part_read D_long_part_read D_common D_lowest D_is_number D_number_read T_BadPart m_PIECE m_PIECE_FIGURES m_FIGURES m_len m_range m_int m_all
  refine D.F.okX sc_part_read (fun vs H Q E h => ?_) (fun cdv A outer s H vs Q E hr h => ?_)
  · obtain ⟨z, rfl, _⟩ := h
    rfl
  obtain ⟨z, rfl, hz, q, qe⟩ := h
  refine ⟨_, (pss_cons (ps_asg (pe_partition (pv 0) pe_str) (pg_tup rfl (pgs_cons (pg_name (i := 1) sc_part_read.nd rfl (.inl rfl)) (pgs_cons (pg_name (i := 2) sc_part_read.nd rfl (.inl rfl)) (pgs_cons (pg_name (i := 3) sc_part_read.nd rfl (.inl rfl)) pgs_nil)))))
      (pss_cons (ps_if (PW.pt (pw_or (pt_cmpR op_gt (pe_callB call_len (by rfl) m_len PySem.boot_len (pa_cons (pe_m1 PySem.F.slot_str_removeprefix PySem.F.type_str_removeprefix mt_removeprefix (pv 1) pe_str) pa_nil)) (pe_glob (v := .int 400) (by rfl) m_MOST_FIGURES_READ ⟨_, rfl⟩) (nomark _)) (pw_or1 (pt_cmpR op_gt (pe_callB call_len (by rfl) m_len PySem.boot_len (pa_cons (pv 3) pa_nil)) (pe_glob (v := .int 400) (by rfl) m_MOST_FIGURES_READ ⟨_, rfl⟩) (nomark _))))) (pss_one (ps_raise rfl (takes_of rfl rfl rfl rfl) (pmk_own PySem.F.excBase_ValueError T_BadPart.xx T_BadPart.g T_BadPart.k (raises_own T_BadPart.b T_BadPart.t) rfl))) pss_nil)
      (pss_one (ps_ret (pe_call G_long_part_read (hr.mono (by omega)) (by rfl) D_long_part_read.g D_long_part_read.F.kp D_long_part_read.b .nil (passes_call (takes_of rfl rfl rfl rfl) (fun _ _ _ _ z => z)) (pa_cons (pv 0) pa_nil)))))), ?_⟩
  have hz' := line5 hz
  obtain ⟨top, sl, bot, ep, ht, hbt, hread⟩ := part_facts hz
  refine ⟨_, rfl, ⟨_, rfl⟩, _, _, rfl, rfl, slash_len, hz', fun p hp => ?_⟩
  rw [ep]
  refine ⟨p, _, rfl, SqT.of upd_same, rfl, _, _, rfl, _, _, rfl, _, _, rfl, rfl, ?_⟩
  have s1 : Same H (upd H p (.tup [.str top, .str sl, .str bot])) := same_upd hp
  have erp := tl_rp2 top
  have rl : (Txt.removeprefix top ("-" : Str)).length ≤ sizeLine := by
    rw [len_tl, erp]
    have h1 : (strip45 (tl top)).length ≤ (tl top).length := strip_len _
    rw [← len_tl] at h1
    exact line5 (by omega)
  have lsz : (Txt.removeprefix top ("-" : Str)).length = (strip45 (tl top)).length := by rw [len_tl, erp]
  have lbz : bot.length = (tl bot).length := len_tl _
  have notL : (400 < (strip45 (tl top)).length ∨ 400 < (tl bot).length) → readL (tl z) = none := fun hh => by
    rw [hread]
    unfold readAB
    rw [if_neg]
    rintro ⟨h1, h2, _⟩
    have := (isNum_digits h1).2.2
    have := (isNum_digits h2).2.2
    omega
  refine ⟨_, rfl, ⟨_, rfl⟩, _, _, rfl, rfl, line5 ht, _, _, rfl, ⟨rl, rfl⟩, ?_⟩
  refine ⟨_, _, rfl, rfl, _, rfl, ite2 (fun e => ?_) (fun e => ?_)⟩
  · have e1 : (400 : Int) < ((Txt.removeprefix top ("-" : Str)).length : Nat) := of_decide_eq_true e
    exact iteT (qe (notL (.inl (by omega))) _ s1)
  have e1 : ¬ (400 : Int) < ((Txt.removeprefix top ("-" : Str)).length : Nat) := fun h => e (decide_eq_true h)
  refine ⟨_, rfl, _, _, rfl, ⟨line5 hbt, rfl⟩, _, _, rfl, rfl, _, rfl, ite2 (fun e => ?_) (fun e => ?_)⟩
  · have e2 : (400 : Int) < (bot.length : Nat) := of_decide_eq_true e
    exact qe (notL (.inr (by omega))) _ s1
  have e2 : ¬ (400 : Int) < (bot.length : Nat) := fun h => e (decide_eq_true h)
  refine ⟨_, rfl, z, rfl, hz, fun top2 sl2 bot2 h2 => ?_, fun x hx H' v sm pv => q x hx _ _ (s1.trans sm) pv, fun hn H' sm => qe hn _ (s1.trans sm)⟩
  rw [ep] at h2
  cases h2
  omega

def sp__law_whole : Sp := fun vs H Q _ => ∃ i : Int, vs = [.int i] ∧ Q (.bl true) H
theorem ok__law_whole {k : Nat} (D : Df K mg "_law_whole" s__law_whole ["_law_found"]) (m_isinstance : mg "isinstance" = none) (m_int : mg "int" = none) (m_bool : mg "bool" = none) : FnOk P w K mg base CX0 (k + 1) D.f D.fd ["_law_found"] sp__law_whole := by
  refine D.F.ok sc__law_whole (fun vs H Q E h => ?_) (fun cdv A outer s H vs Q E hr h => ?_)
  · obtain ⟨a, rfl, _⟩ := h
    rfl
  · obtain ⟨i, rfl, q⟩ := h
    refine ⟨_, (pss_one (ps_ret (pe_and (pe_callB call_isi (by rfl) m_isinstance PyProof.Rows.boot_isinstance (pa_cons (pv 0) (pa_cons (pe_bltn (v := .ty "int") (by rfl) m_int PyProof.Rows.boot_int rfl) pa_nil))) (pe_one (pe_not (pe_callB call_isi (by rfl) m_isinstance PyProof.Rows.boot_isinstance (pa_cons (pv 0) (pa_cons (pe_bltn (v := .ty "bool") (by rfl) m_bool PyProof.Rows.boot_bool rfl) pa_nil)))))))), ?_⟩
    refine ⟨_, rfl, _, _, _, _, true, rfl, .ty "int", .base (.int i), kit_ty (by decide +kernel), true, rfl, iteT ?_⟩
    exact ⟨_, rfl, _, _, _, _, false, rfl, .ty "bool", .base (.int i), kit_ty (by decide +kernel), false, rfl, q⟩

theorem ok__law_low {k : Nat} (D : Df K mg "_law_low" s__law_low ["_law_top", "_law_bottom"]) (m_abs : mg "abs" = none) : FnOk P w K mg base CX0 (k + 1) D.f D.fd ["_law_top", "_law_bottom"] (sp_lowest K) := by
  refine D.F.ok sc__law_low (fun vs H Q E h => ?_) (fun cdv A outer s H vs Q E hr h => ?_)
  · obtain ⟨a, b, rfl, _⟩ := h
    rfl
  · obtain ⟨a, b, rfl, hb, hB, q⟩ := h
    refine ⟨_, (pss_cons (ps_set (i := 2) sc__law_low.nd rfl (.inl rfl) (pe_callB call_abs (by rfl) m_abs boot_abs (pa_cons (pv 0) pa_nil)))
      (pss_cons (ps_set (i := 3) sc__law_low.nd rfl (.inl rfl) (pv 1))
      (pss_cons (ps_while PassesOwn.never (pt_cmpR op_gt (pv 3) pe_int (nomark _)) (pss_one (ps_par (i := 2) (j := 3) (by rfl) sc__law_low.nd rfl rfl (by decide) rfl rfl (pa_cons (pv 3) (pa_cons (pe_op op_mod (pv 2) (pv 3)) pa_nil)) (by rfl))))
      (pss_one (ps_ret (pe_tup (pa_cons (pe_op op_fdivW (pv 0) (pv 2)) (pa_cons (pe_op op_fdivW (pv 1) (pv 2)) pa_nil)))))))), ?_⟩
    refine ⟨_, rfl, _, rfl, ?_⟩
    refine ⟨_, rfl, ?_⟩
    refine while_by (fun σ H' => ∃ x y : Int, σ = [some (.int a), some (.int b), some (.int x), some (.int y)] ∧ H' = H ∧ 0 ≤ y ∧ Int.gcd x y = Int.gcd a b ∧ (y = 0 → 0 ≤ x))
      (fun σ _ => match σ with | [_, _, _, some (.int y)] => y.toNat | _ => 0) ⟨_, b, rfl, rfl, by omega, gc_abs a b, by omega⟩ ?_ ?_
    · rintro σ H' ⟨x, y, rfl, rfl, h0, hg, hz⟩
      refine ⟨_, rfl, _, _, rfl, rfl, _, rfl, ite2 (fun e => ?_) (fun e => ?_)⟩
      · have e1 : 0 < y := of_decide_eq_true e
        refine ⟨_, rfl, _, rfl, _, rfl, _, _, rfl, rfl, e1, _, _, rfl, ⟨y, x % y, rfl, rfl, Int.emod_nonneg x (by omega), gc_step.trans hg, fun _ => by omega⟩, ?_⟩
        show (x % y).toNat < y.toNat
        have := Int.emod_lt_of_pos x e1
        have := Int.emod_nonneg x (show y ≠ 0 by omega)
        omega
      · have e1 : ¬ 0 < y := fun z => e (decide_eq_true z)
        have e2 : y = 0 := by omega
        subst e2
        have e3 : x = gc a b := by
          unfold gc
          rw [← hg, Int.gcd_zero]
          have := hz rfl
          omega
        subst e3
        have hg := gc_pos (a := a) hb
        have hk := hB.gc (x := a) hb
        refine ⟨_, rfl, _, rfl, _, _, rfl, rfl, bd_divok hg hk (by decide), _, rfl, _, rfl, _, _, rfl, rfl, bd_divok hg hk (by decide), (by show 2 ≤ sizeLine; decide), fun p hp => ?_⟩
        exact q _ _ (same_upd hp) Pr.new
    · rintro σ H' Q1 Q2 hq ⟨v, e, i, j, e1, e2, c, e3, r⟩
      exact ⟨v, e, i, j, e1, e2, c, e3, hq _ _ r⟩

def sp__law_part (K : PySem.W.Frag) : Sp := fun vs H Q _ => ∃ (v : V) (a b : Int), vs = [v] ∧ Pr K H v a b ∧ Q (.bl true) H
theorem ok__law_part {k : Nat} (D : Df K mg "_law_part" s__law_part ["_law_found"]) (D__law_whole : Df K mg "_law_whole" s__law_whole ["_law_found"]) (m_isinstance : mg "isinstance" = none) (m_int : mg "int" = none) (m_bool : mg "bool" = none) (m_tuple : mg "tuple" = none) (m_len : mg "len" = none) :
    FnOk P w K mg base CX0 (k + 2) D.f D.fd ["_law_found"] (sp__law_part K) := by
  have G__law_whole : FnOk P w K mg base CX0 1 D__law_whole.f D__law_whole.fd ["_law_found"] sp__law_whole := ok__law_whole D__law_whole m_isinstance m_int m_bool
  refine D.F.ok sc__law_part (fun vs H Q E h => ?_) (fun cdv A outer s H vs Q E hr h => ?_)
  · obtain ⟨v, a, b, rfl, _⟩ := h
    rfl
  · obtain ⟨v, a, b, rfl, ⟨p, rfl, hp⟩, q⟩ := h
    refine ⟨_, (pss_cons (ps_if (PW.pt (pw_or (pt_not (pt_val (pe_callB call_isi (by rfl) m_isinstance PyProof.Rows.boot_isinstance (pa_cons (pv 0) (pa_cons (pe_bltn (v := .ty "tuple") (by rfl) m_tuple PyProof.Rows.boot_tuple rfl) pa_nil))))) (pw_or1 (pt_cmpR op_ne (pe_callB call_len_seq (by rfl) m_len PySem.boot_len (pa_cons (pv 0) pa_nil)) pe_int (nomark _))))) (pss_one (ps_ret pe_bl)) pss_nil)
      (pss_one (ps_ret (pe_and (pe_call G__law_whole (hr.mono (by omega)) (by rfl) D__law_whole.g D__law_whole.F.kp D__law_whole.b .nil pass0 (pa_cons (pe_ix ix_tup (pv 0) pe_int (fun _ _ => rfl)) pa_nil)) (pe_one (pe_call G__law_whole (hr.mono (by omega)) (by rfl) D__law_whole.g D__law_whole.F.kp D__law_whole.b .nil pass0 (pa_cons (pe_ix ix_tup (pv 0) pe_int (fun _ _ => rfl)) pa_nil))))))), ?_⟩
    refine ⟨_, rfl, _, _, _, _, true, rfl, .ty "tuple", sqT_ty hp, kit_ty (by decide +kernel), true, rfl, iteF ?_⟩
    refine ⟨_, rfl, p, _, rfl, .inr hp, rfl, false, rfl, iteF ?_⟩
    refine ⟨_, rfl, p, _, 0, .int a, rfl, rfl, hp, rfl, a, rfl, true, rfl, iteT ?_⟩
    exact ⟨_, rfl, p, _, 1, .int b, rfl, rfl, hp, rfl, b, rfl, q⟩

def sp__law_is (K : PySem.W.Frag) : Sp := fun vs H Q _ => ∃ (v u : V) (x : Q2), vs = [v, u] ∧ Pp K H v x ∧ Pp K H u x ∧ Q (.bl true) H
theorem ok__law_is {k : Nat} (D : Df K mg "_law_is" s__law_is ["_law_found", "_law_due"]) (D__law_part : Df K mg "_law_part" s__law_part ["_law_found"]) (D__law_whole : Df K mg "_law_whole" s__law_whole ["_law_found"]) (m_isinstance : mg "isinstance" = none) (m_int : mg "int" = none) (m_bool : mg "bool" = none) (m_tuple : mg "tuple" = none) (m_len : mg "len" = none) :
    FnOk P w K mg base CX0 (k + 3) D.f D.fd ["_law_found", "_law_due"] (sp__law_is K) := by
  have G__law_part : FnOk P w K mg base CX0 2 D__law_part.f D__law_part.fd ["_law_found"] (sp__law_part K) := ok__law_part D__law_part D__law_whole m_isinstance m_int m_bool m_tuple m_len
  refine D.F.ok sc__law_is (fun vs H Q E h => ?_) (fun cdv A outer s H vs Q E hr h => ?_)
  · obtain ⟨v, u, x, rfl, _⟩ := h
    rfl
  obtain ⟨v, u, x, rfl, hv, hu, q⟩ := h
  refine ⟨_, (pss_one (ps_ret (pe_and (pe_call G__law_part (hr.mono (by omega)) (by rfl) D__law_part.g D__law_part.F.kp D__law_part.b .nil pass0 (pa_cons (pv 0) pa_nil)) (pe_one (pe_cmpR (op_eqD hr.units) (pv 0) (pv 1) (nomark _)))))), ?_⟩
  refine ⟨_, rfl, _, _, _, rfl, hv, true, rfl, iteT ?_⟩
  obtain ⟨d, e, h1, h2, h3, h4, h5⟩ := pp_eq hv hu
  refine ⟨_, rfl, _, rfl, d, e, h1, h2, h3, h4, ?_⟩
  rw [h5]
  exact q

def sp__law_any (K : PySem.W.Frag) : Sp := fun vs H Q _ => ∃ x y : Int, vs = [.int x, .int y] ∧ (0 ≤ x ∧ x < 1000000) ∧ (0 ≤ y ∧ y < 1000000) ∧ ∀ H' v a b, Same H H' → Low a b → Bd 200 a → Bd 200 b → Pr K H' v a b → Q v H'
theorem ok__law_any {k : Nat} (D : Df K mg "_law_any" s__law_any ["_law_one", "_law_two"]) (D__law_low : Df K mg "_law_low" s__law_low ["_law_top", "_law_bottom"]) (m_abs : mg "abs" = none) : FnOk P w K mg base CX0 (k + 2) D.f D.fd ["_law_one", "_law_two"] (sp__law_any K) := by
  have G__law_low : FnOk P w K mg base CX0 1 D__law_low.f D__law_low.fd ["_law_top", "_law_bottom"] (sp_lowest K) := ok__law_low D__law_low m_abs
  refine D.F.ok sc__law_any (fun vs H Q E h => ?_) (fun cdv A outer s H vs Q E hr h => ?_)
  · obtain ⟨x, y, rfl, _⟩ := h
    rfl
  · obtain ⟨x, y, rfl, hx, hy, q⟩ := h
    refine ⟨_, (pss_cons (ps_if (pt_cmpR op_eq (pe_op op_mod (pv 0) pe_int) pe_int (nomark _)) (pss_one (ps_ret (pe_tup (pa_cons pe_int (pa_cons pe_int pa_nil))))) pss_nil)
      (pss_cons (ps_set (i := 2) sc__law_any.nd rfl (.inl rfl) (pe_op op_sub (pe_op op_mod (pv 0) pe_int) pe_int))
      (pss_cons (ps_set (i := 3) sc__law_any.nd rfl (.inl rfl) (pe_op op_add pe_int (pe_op op_mod (pv 1) pe_int)))
      (pss_cons (ps_if (pt_cmpR op_eq (pe_op op_mod (pe_op op_fdivW (pv 0) pe_int) pe_int) pe_int (nomark _)) (pss_cons (ps_set (i := 2) sc__law_any.nd rfl (.inl rfl) (pe_op op_sub (pv 0) pe_int))
      (pss_one (ps_set (i := 3) sc__law_any.nd rfl (.inl rfl) (pe_op op_add pe_int (pv 1))))) pss_nil)
      (pss_cons (ps_if (pt_cmpR op_eq (pe_op op_mod (pe_op op_fdivW (pv 0) pe_int) pe_int) pe_int (nomark _)) (pss_cons (ps_set (i := 2) sc__law_any.nd rfl (.inl rfl) (pe_op op_add (pe_op op_mulW (pv 0) (pe_op op_pow pe_int pe_int)) (pv 1)))
      (pss_cons (ps_set (i := 3) sc__law_any.nd rfl (.inl rfl) (pe_op op_add (pe_op op_mulW (pv 1) (pe_op op_pow pe_int pe_int)) pe_int))
      (pss_one (ps_if (pt_cmpR op_eq (pe_op op_mod (pv 0) pe_int) pe_int (nomark _)) (pss_one (ps_set (i := 2) sc__law_any.nd rfl (.inl rfl) (pe_un un_neg (pv 2)))) pss_nil)))) pss_nil)
      (pss_one (ps_ret (pe_call G__law_low (hr.mono (by omega)) (by rfl) D__law_low.g D__law_low.F.kp D__law_low.b .nil pass0 (pa_cons (pv 2) (pa_cons (pv 3) pa_nil)))))))))), ?_⟩
    have fin : ∀ t b : Int, 0 < b → Bd 200 t → Bd 200 b → sp_lowest K [V.int t, V.int b] H Q E := fun t b hb h1 h2 =>
      ⟨t, b, rfl, hb, h2.mono (by decide), fun H' v sm pr => q H' v _ _ sm (low_div hb) (h1.div (gc_dl t b)) (h2.div (gc_dr t b)) pr⟩
    have p40 : Bd 133 ((10 : Int) ^ (40 : Int).toNat) := by unfold Bd; decide +kernel
    have p30 : Bd 133 ((10 : Int) ^ (30 : Int).toNat) := by unfold Bd; decide +kernel
    have bx : Bd 20 x := Bd.of (m := 1000000) (by omega) (by omega) (by decide)
    have by' : Bd 20 y := Bd.of (m := 1000000) (by omega) (by omega) (by decide)
    have t1 : Bd 200 (x % 41 - 20) := Bd.of (m := 1000000) (by omega) (by omega) (by decide +kernel)
    have t2 : Bd 200 (1 + y % 24) := Bd.of (m := 1000000) (by omega) (by omega) (by decide +kernel)
    have t3 : Bd 200 (x - 500000) := Bd.of (m := 10000000) (by omega) (by omega) (by decide +kernel)
    have t4 : Bd 200 (1 + y) := Bd.of (m := 10000000) (by omega) (by omega) (by decide +kernel)
    have t5 : Bd 200 (x * (10 : Int) ^ (40 : Int).toNat + y) := ((bx.mul p40).add (by'.mono (by decide))).mono (by decide)
    have t6 : Bd 200 (y * (10 : Int) ^ (30 : Int).toNat + 1) := ((by'.mul p30).add ((Bd.of (n := 20) (x := 1) (m := 1000000) (by omega) (by omega) (by decide)).mono (by decide))).mono (by decide)
    have p6 : 0 < y * (10 : Int) ^ (30 : Int).toNat + 1 := by
      have := Int.mul_nonneg hy.1 (show (0 : Int) ≤ (10 : Int) ^ (30 : Int).toNat by decide +kernel)
      omega
    have d41 : CDivW x 41 := bd_divok (n := 20) (by decide) (by unfold Bd; decide) (by decide)
    refine ⟨_, rfl, _, _, rfl, rfl, (by show (0 : Int) < _; decide), rfl, _, rfl, ite2 (fun e => ?_) (fun e => ?_)⟩
    · exact ⟨(by show 2 ≤ sizeLine; decide), fun p hp => q _ _ 0 1 (same_upd hp) ⟨by decide, rfl⟩ (by unfold Bd; decide) (by unfold Bd; decide) Pr.new⟩
    · refine ⟨_, rfl, _, _, rfl, rfl, (by show (0 : Int) < _; decide), _, _, rfl, rfl, ?_⟩
      refine ⟨_, rfl, _, _, rfl, rfl, (by show (0 : Int) < _; decide), _, _, rfl, rfl, ?_⟩
      refine ⟨_, rfl, _, _, rfl, rfl, d41, _, _, rfl, rfl, (by show (0 : Int) < _; decide), rfl, _, rfl, ite2 (fun e1 => ?_) (fun e1 => ?_)⟩
      · refine ⟨_, rfl, _, _, rfl, rfl, ?_⟩
        refine ⟨_, rfl, _, _, rfl, rfl, ?_⟩
        refine ⟨_, rfl, _, _, rfl, rfl, d41, _, _, rfl, rfl, (by show (0 : Int) < _; decide), rfl, _, rfl, ite2 (fun e2 => ?_) (fun e2 => ?_)⟩
        · refine ⟨_, rfl, _, _, rfl, rfl, ⟨by decide, by decide, by decide⟩, _, _, rfl, rfl, bd_mulok bx p40 (by decide), _, rfl, _, _, rfl, rfl, ?_⟩
          refine ⟨_, rfl, _, _, rfl, rfl, ⟨by decide, by decide, by decide⟩, _, _, rfl, rfl, bd_mulok by' p30 (by decide), _, _, rfl, rfl, ?_⟩
          refine ⟨_, rfl, _, _, rfl, rfl, (by show (0 : Int) < _; decide), rfl, _, rfl, ite2 (fun e3 => ?_) (fun e3 => ?_)⟩
          · refine ⟨_, rfl, _, rfl, ?_⟩
            exact ⟨_, rfl, _, rfl, fin _ _ p6 t5.neg t6⟩
          · exact ⟨_, rfl, _, rfl, fin _ _ p6 t5 t6⟩
        · exact ⟨_, rfl, _, rfl, fin _ _ (by omega) t3 t4⟩
      · refine ⟨_, rfl, _, _, rfl, rfl, d41, _, _, rfl, rfl, (by show (0 : Int) < _; decide), rfl, _, rfl, ite2 (fun e2 => ?_) (fun e2 => ?_)⟩
        · refine ⟨_, rfl, _, _, rfl, rfl, ⟨by decide, by decide, by decide⟩, _, _, rfl, rfl, bd_mulok bx p40 (by decide), _, rfl, _, _, rfl, rfl, ?_⟩
          refine ⟨_, rfl, _, _, rfl, rfl, ⟨by decide, by decide, by decide⟩, _, _, rfl, rfl, bd_mulok by' p30 (by decide), _, _, rfl, rfl, ?_⟩
          refine ⟨_, rfl, _, _, rfl, rfl, (by show (0 : Int) < _; decide), rfl, _, rfl, ite2 (fun e3 => ?_) (fun e3 => ?_)⟩
          · refine ⟨_, rfl, _, rfl, ?_⟩
            exact ⟨_, rfl, _, rfl, fin _ _ p6 t5.neg t6⟩
          · exact ⟨_, rfl, _, rfl, fin _ _ p6 t5 t6⟩
        · exact ⟨_, rfl, _, rfl, fin _ _ (by omega) t1 t2⟩

def sp__law_figures : Sp := fun vs H Q _ => ∃ x y : Int, vs = [.int x, .int y] ∧ (0 ≤ x ∧ x < 1000000) ∧ (0 ≤ y ∧ y < 1000000) ∧ ∀ H' z, Same H H' → z.length ≤ 1000 → Q (.str z) H'
theorem dig_len {n : Int} (h0 : 0 ≤ n) (h : n < 10) : (numT n).length ≤ 2 ∧ n.natAbs.log2 < 1920 := by
  refine ⟨numT_len (k := 1) (by decide) (by omega), log_small (by omega)⟩
theorem ok__law_figures {k : Nat} (D : Df K mg "_law_figures" s__law_figures ["_law_one", "_law_two"]) (m_str : mg "str" = none) (m_range : mg "range" = none) : FnOk P w K mg base CX0 (k + 1) D.f D.fd ["_law_one", "_law_two"] sp__law_figures := by
  refine D.F.ok sc__law_figures (fun vs H Q E h => ?_) (fun cdv A outer s H vs Q E hr h => ?_)
  · obtain ⟨x, y, rfl, _⟩ := h
    rfl
  obtain ⟨x, y, rfl, hx, hy, q⟩ := h
  refine ⟨_, (pss_cons (ps_set (i := 2) sc__law_figures.nd rfl (.inl rfl) (pe_ix ix_list (pe_lst (pa_cons pe_int (pa_cons pe_int (pa_cons pe_int (pa_cons pe_int (pa_cons pe_int pa_nil)))))) (pe_op op_mod (pv 0) pe_int) (fun _ _ => rfl)))
      (pss_cons (ps_set (i := 3) sc__law_figures.nd rfl (.inl rfl) (pe_callTy call_str_int (by rfl) m_str PyProof.Rows.boot_str (pa_cons (pe_op op_add pe_int (pe_op op_mod (pv 1) pe_int)) pa_nil)))
      (pss_cons (ps_for PassesOwn.never rfl (pi_range1 (by rfl) m_range (pa_cons (pe_op op_sub (pv 2) pe_int) pa_nil)) (pg_name (i := 4) sc__law_figures.nd rfl (.inl rfl)) (pss_one (ps_set (i := 3) sc__law_figures.nd rfl (.inl rfl) (pe_op op_add_str (pv 3) (pe_callTy call_str_int (by rfl) m_str PyProof.Rows.boot_str (pa_cons (pe_op op_mod (pe_op op_add (pe_op op_add (pe_op op_fdivW (pv 1) pe_int) (pe_op op_mul (pv 4) (pe_op op_mod (pe_op op_fdivW (pv 0) pe_int) pe_int))) (pe_op op_fdivW (pv 4) pe_int)) pe_int) pa_nil))))))
      (pss_one (ps_ret (pv 3)))))), ?_⟩
  have c9 : ∀ x : Int, CDivW x 9 := fun x => bd_divok (n := 20) (by decide) (by unfold Bd; decide) (by decide)
  have c5 : ∀ x : Int, CDivW x 5 := fun x => bd_divok (n := 20) (by decide) (by unfold Bd; decide) (by decide)
  have c7 : ∀ x : Int, CDivW x 7 := fun x => bd_divok (n := 20) (by decide) (by unfold Bd; decide) (by decide)
  refine ⟨(by show 5 ≤ sizeLine; decide), fun p hp => ?_⟩
  have m1 := Int.emod_nonneg x (show (5 : Int) ≠ 0 by decide)
  have m2 := Int.emod_lt_of_pos x (show (0 : Int) < 5 by decide)
  obtain ⟨j, hj, hj5⟩ : ∃ j : Nat, x % 5 = (j : Int) ∧ j < 5 := ⟨(x % 5).toNat, by omega, by omega⟩
  obtain ⟨L, hL, hL1, hL2⟩ : ∃ L : Int, ([1, 2, 9, 30, 400].map V.int)[j]? = some (.int L) ∧ 1 ≤ L ∧ L ≤ 400 := by
    rcases j with _ | _ | _ | _ | _ | j
    · exact ⟨1, rfl, by decide, by decide⟩
    · exact ⟨2, rfl, by decide, by decide⟩
    · exact ⟨9, rfl, by decide, by decide⟩
    · exact ⟨30, rfl, by decide, by decide⟩
    · exact ⟨400, rfl, by decide, by decide⟩
    · omega
  refine ⟨_, rfl, _, _, rfl, rfl, (by show (0 : Int) < _; decide), p, _, _, _, rfl, rfl, SqL.of upd_same, at_of hj hL, ?_⟩
  have y1 := Int.emod_nonneg y (show (9 : Int) ≠ 0 by decide)
  have y2 := Int.emod_lt_of_pos y (show (0 : Int) < 9 by decide)
  obtain ⟨d1, d2⟩ := dig_len (n := 1 + y % 9) (by omega) (by omega)
  refine ⟨_, rfl, _, _, rfl, rfl, (by show (0 : Int) < _; decide), _, _, rfl, rfl, _, rfl, d2, ?_⟩
  refine ⟨_, rfl, _, _, rfl, rfl, _, rfl, by omega, by omega, ?_⟩
  refine for_range (n := (L - 1).toNat) (fun i σ H3 => ∃ (z : Str) (y4 : Option V), σ = [some (.int x), some (.int y), some (.int L), some (.str z), y4] ∧ H3 = upd H p (.lst ([1, 2, 9, 30, 400].map V.int)) ∧ z.length ≤ 2 * (i + 1))
    ⟨_, _, rfl, rfl, d1⟩ (fun i σ H3 hi hW => ?_) (fun σ H3 hW => ?_)
  · obtain ⟨z, y4, rfl, rfl, hz⟩ := hW
    have t1 := Int.emod_nonneg (y / 9 + (0 + (i : Int)) * (x / 5 % 10) + (0 + (i : Int)) / 7) (show (10 : Int) ≠ 0 by decide)
    have t2 := Int.emod_lt_of_pos (y / 9 + (0 + (i : Int)) * (x / 5 % 10) + (0 + (i : Int)) / 7) (show (0 : Int) < 10 by decide)
    obtain ⟨e1, e2⟩ := dig_len t1 t2
    delta numT at e1
    have u1 := Int.emod_nonneg (x / 5) (show (10 : Int) ≠ 0 by decide)
    have u2 := Int.emod_lt_of_pos (x / 5) (show (0 : Int) < 10 by decide)
    refine ⟨_, rfl, _, rfl, _, _, rfl, rfl, c9 _, ?_⟩
    refine ⟨_, rfl, _, rfl, _, _, rfl, rfl, c5 _, _, _, rfl, rfl, (by show (0 : Int) < _; decide), _, _, rfl, rfl, .inr ⟨by omega, by omega⟩, _, _, rfl, rfl, ?_⟩
    refine ⟨_, rfl, _, _, rfl, rfl, c7 _, _, _, rfl, rfl, _, _, rfl, rfl, (by show (0 : Int) < _; decide), _, rfl, e2, ?_⟩
    refine ⟨_, _, rfl, rfl, ?_, _, _, rfl, rfl, ?_⟩
    · refine line5' ?_
      omega
    · rw [app_len]
      omega
  · obtain ⟨z, y4, rfl, rfl, hz⟩ := hW
    exact ⟨_, rfl, q _ _ (same_upd hp) (by omega)⟩

def sp__law_figs : Sp := fun vs H Q _ => ∃ z : Str, vs = [.str z] ∧ z.length ≤ 100000 ∧ (isNumB (tl z) = true → Q (.int (numV (tl z))) H) ∧ (isNumB (tl z) = false → Q .non H)
theorem ok__law_figs {k : Nat} (D : Df K mg "_law_figs" s__law_figs ["_law_word"]) (m_len : mg "len" = none) (m_int : mg "int" = none) : FnOk P w K mg base CX0 (k + 1) D.f D.fd ["_law_word"] sp__law_figs := by
  refine D.F.ok sc__law_figs (fun vs H Q E h => ?_) (fun cdv A outer s H vs Q E hr h => ?_)
  · obtain ⟨z, rfl, _⟩ := h
    rfl
  obtain ⟨z, rfl, hz, qi, qn⟩ := h
  have hz' := line5' hz
  refine ⟨_, (pss_cons (ps_if (PW.pt (pw_or (pt_cmpR op_eq (pv 0) pe_str (nomark _)) (pw_or (pt_cmpR op_gt (pe_callB call_len (by rfl) m_len PySem.boot_len (pa_cons (pv 0) pa_nil)) pe_int (nomark _)) (pw_or1 (PW.pt (pw_and (pt_cmpR op_gt (pe_callB call_len (by rfl) m_len PySem.boot_len (pa_cons (pv 0) pa_nil)) pe_int (nomark _)) (pw_and1 (pt_cmpR op_eq (pe_ix ix_str (pv 0) pe_int (fun _ _ => rfl)) pe_str (nomark _))))))))) (pss_one (ps_ret pe_non)) pss_nil)
      (pss_cons (ps_for PassesOwn.never rfl (pi_str (pv 0)) (pg_name (i := 1) sc__law_figs.nd rfl (.inl rfl)) (pss_one (ps_if (pt_cmpR op_notIn_sign (pv 1) pe_str (by rfl)) (pss_one (ps_ret pe_non)) pss_nil)))
      (pss_one (ps_ret (pe_callTy call_int_str (by rfl) m_int PyProof.Rows.boot_int (pa_cons (pv 0) pa_nil)))))), ?_⟩
  refine ⟨_, rfl, rfl, _, rfl, ite2 (fun e => ?_) (fun e => ?_)⟩
  · refine iteT ?_
    refine qn ?_
    rw [V.str.inj (of_decide_eq_true e)]
    rfl
  have hne : tl z ≠ [] := fun e1 => e (decide_eq_true (congrArg V.str (ext_tl (y := ("" : Str)) e1)))
  refine ⟨_, rfl, _, z.length, rfl, ⟨hz', rfl⟩, _, _, rfl, rfl, _, rfl, ite2 (fun e1 => ?_) (fun e1 => ?_)⟩
  · refine iteT ?_
    refine qn ?_
    have h4 : 400 < (tl z).length := by
      have := of_decide_eq_true e1
      rw [← len_tl]
      omega
    unfold isNumB
    rw [if_pos (.inr h4)]
  have h4 : (tl z).length ≤ 400 := by
    have h5 : ¬ (400 : Int) < ((z.length : Nat) : Int) := fun z => e1 (decide_eq_true z)
    rw [← len_tl]
    omega
  obtain ⟨c, r, ez⟩ : ∃ c r, tl z = c :: r := by
    cases h : tl z with
    | nil => exact absurd h hne
    | cons c r => exact ⟨c, r, rfl⟩
  have hnum : isNumB (tl z) = if c = 48 then decide (tl z = [48]) else (tl z).all fun c => decide (c ∈ figs) := by
    unfold isNumB
    rw [if_neg (by rintro (e | e); exact hne e; omega), ez]
    by_cases hc : c = 48
    · rw [if_pos hc, if_pos (by rw [hc]; rfl)]
    · rw [if_neg hc, if_neg (show ¬ (c :: r).head? = some 48 from fun e => hc (Option.some.inj e))]
  have hat : atI (tl z) 0 = some c := by
    rw [ez]
    exact atI_nat (j := 0) rfl
  have h1len : ((z.length : Nat) : Int) = (r.length : Int) + 1 := by
    rw [len_tl, ez, List.length_cons]
    omega
  have loop : ¬ (0 < r.length ∧ c = 48) → isNumB (tl z) = (tl z).all fun c => decide (c ∈ figs) := by
    intro hn
    rw [hnum]
    by_cases hc : c = 48
    · rw [if_pos hc]
      have hr0 : r = [] := by
        cases r with
        | nil => rfl
        | cons d r => exact absurd ⟨by simp, hc⟩ hn
      rw [ez, hr0, hc]
      rfl
    · rw [if_neg hc]
  refine ⟨_, rfl, _, z.length, rfl, ⟨hz', rfl⟩, _, _, rfl, rfl, _, rfl, ite2 (fun e2 => ?_) (fun e2 => ?_)⟩
  · have hr1 : 0 < r.length := by
      have := of_decide_eq_true e2
      omega
    refine ⟨_, rfl, z, 0, c, rfl, rfl, hz', hat, rfl, _, rfl, ite2 (fun e3 => ?_) (fun e3 => ?_)⟩
    · refine qn ?_
      have hc : c = 48 := by
        have e4 := congrArg tl (show (⟨#[c]⟩ : Str) = ("0" : Str) from V.str.inj (of_decide_eq_true e3))
        rw [tl0] at e4
        exact (List.cons.inj e4).1
      rw [hnum, if_pos hc]
      refine decide_eq_false fun h => ?_
      rw [ez] at h
      rw [(List.cons.inj h).2] at hr1
      cases hr1
    · have hl := loop fun h => e3 (decide_eq_true (congrArg V.str (ext_tl (x := ⟨#[c]⟩) (by rw [tl0, h.2]))))
      refine ⟨_, rfl, z, rfl, ?_⟩
      refine for_it walk_str (fun i σ H' => ∃ y1, σ = [some (.str z), y1] ∧ H' = H ∧ ∀ c ∈ (tl z).take i, c ∈ figs) ⟨_, rfl, rfl, fun c hc => absurd hc (by simp)⟩ (fun _ _ _ _ _ => True.intro) (fun i x σ H' H'' hi hW hy => ?_) (fun σ H' hW => ?_)
      · obtain ⟨y1, rfl, rfl, hall⟩ := hW
        obtain ⟨rfl, c1, hc1, rfl⟩ := hy
        have e7 : (tl z)[i]? = some c1 := by
          rw [← hc1]
          simp [tl]
        refine ⟨_, rfl, c1, _, rfl, rfl, _, rfl, ?_⟩
        rw [show (("0123456789" : Str)).cps.toList = figs from tl_fig]
        by_cases hf : c1 ∈ figs
        · rw [decide_eq_true hf]
          refine iteF ?_
          refine ⟨_, rfl, rfl, fun c hc => ?_⟩
          rw [List.take_add_one, e7] at hc
          rcases List.mem_append.1 hc with h | h
          · exact hall c h
          · have : c = c1 := by simpa using h
            rw [this]
            exact hf
        · rw [decide_eq_false hf]
          refine iteT ?_
          refine qn ?_
          rw [hl]
          have hm : c1 ∈ tl z := List.mem_of_getElem? e7
          cases hh : (tl z).all (fun c => decide (c ∈ figs)) with
          | false => rfl
          | true => exact absurd (of_decide_eq_true (List.all_eq_true.1 hh c1 hm)) hf
      · obtain ⟨y1, rfl, rfl, hall⟩ := hW
        have e8 : (tl z).take z.cps.size = tl z := by
          refine List.take_of_length_le ?_
          simp [tl]
        rw [e8] at hall
        have hnn : isNumB (tl z) = true := by
          rw [hl, List.all_eq_true]
          exact fun c hc => decide_eq_true (hall c hc)
        obtain ⟨i2, l2⟩ := int_num2 hnn
        exact ⟨_, rfl, _, _, rfl, i2, Nat.le_trans l2 (by decide), qi hnn⟩
  · refine iteF ?_
    have hl := loop fun h => e2 (decide_eq_true (by omega))
    refine ⟨_, rfl, z, rfl, ?_⟩
    refine for_it walk_str (fun i σ H' => ∃ y1, σ = [some (.str z), y1] ∧ H' = H ∧ ∀ c ∈ (tl z).take i, c ∈ figs) ⟨_, rfl, rfl, fun c hc => absurd hc (by simp)⟩ (fun _ _ _ _ _ => True.intro) (fun i x σ H' H'' hi hW hy => ?_) (fun σ H' hW => ?_)
    · obtain ⟨y1, rfl, rfl, hall⟩ := hW
      obtain ⟨rfl, c1, hc1, rfl⟩ := hy
      have e7 : (tl z)[i]? = some c1 := by
        rw [← hc1]
        simp [tl]
      refine ⟨_, rfl, c1, _, rfl, rfl, _, rfl, ?_⟩
      rw [show (("0123456789" : Str)).cps.toList = figs from tl_fig]
      by_cases hf : c1 ∈ figs
      · rw [decide_eq_true hf]
        refine iteF ?_
        refine ⟨_, rfl, rfl, fun c hc => ?_⟩
        rw [List.take_add_one, e7] at hc
        rcases List.mem_append.1 hc with h | h
        · exact hall c h
        · have : c = c1 := by simpa using h
          rw [this]
          exact hf
      · rw [decide_eq_false hf]
        refine iteT ?_
        refine qn ?_
        rw [hl]
        have hm : c1 ∈ tl z := List.mem_of_getElem? e7
        cases hh : (tl z).all (fun c => decide (c ∈ figs)) with
        | false => rfl
        | true => exact absurd (of_decide_eq_true (List.all_eq_true.1 hh c1 hm)) hf
    · obtain ⟨y1, rfl, rfl, hall⟩ := hW
      have e8 : (tl z).take z.cps.size = tl z := by
        refine List.take_of_length_le ?_
        simp [tl]
      rw [e8] at hall
      have hnn : isNumB (tl z) = true := by
        rw [hl, List.all_eq_true]
        exact fun c hc => decide_eq_true (hall c hc)
      obtain ⟨i2, l2⟩ := int_num2 hnn
      exact ⟨_, rfl, _, _, rfl, i2, Nat.le_trans l2 (by decide), qi hnn⟩

def sp__law_meant (K : PySem.W.Frag) : Sp := fun vs H Q _ => ∃ z : Str, vs = [.str z] ∧ z.length ≤ 100000 ∧
  (∀ x, readL (tl z) = some x → ∀ H' v, Same H H' → Pp K H' v x → Q v H') ∧ (readL (tl z) = none → ∀ H', Same H H' → Q .non H')
theorem split_tl (z : Str) : (Txt.split z ("/" : Str)).map tl = spl [47] 0 [] (tl z) := by
  have h := split_spl z ("/" : Str) (by rw [slash_tl]; simp) (kind_ok (by
    rw [show ("/" : Str).cps = #[47] from Array.toList_inj.1 slash_tl]
    decide +kernel))
  rw [slash_tl] at h
  exact h
theorem spl_ne (S : List Nat) : ∀ (l : List Nat) (k : Nat) (acc : List Nat), 1 ≤ (spl S k acc l).length
  | [], k, acc => by rw [spl_nil]; exact Nat.le_refl _
  | c :: r, 0, acc => by
    cases h : pre S (c :: r) with
    | true => rw [spl_hit h, List.length_cons]; omega
    | false => rw [spl_miss h]; exact spl_ne S r 0 _
  | c :: r, k + 1, acc => by
    rw [spl_pass]
    show 1 ≤ (spl S 0 acc (r.drop k)).length
    exact spl_ne S (r.drop k) 0 acc
termination_by l => l.length
decreasing_by
  all_goals simp_wf
  all_goals omega
theorem split_cases (z : Str) (hz : z.length ≤ 100000) : ((Txt.split z ("/" : Str)).length ≠ 2 ∧ readL (tl z) = none) ∨ ∃ x y : Str, Txt.split z ("/" : Str) = [x, y] ∧ x.length ≤ 100000 ∧ y.length ≤ 100000 ∧ readL (tl z) = readAB (tl x) (tl y) := by
  have hs := split_tl z
  rcases slash_cases (tl z) with h | ⟨A, B, e, h⟩
  · refine .inl ⟨fun h2 => ?_, readL_no h⟩
    rw [spl_last1 h] at hs
    have := congrArg List.length hs
    rw [List.length_map, h2] at this
    cases this
  · have hz2 : A.length ≤ 100000 ∧ B.length ≤ 100000 := by
      rw [len_tl, e] at hz
      simp only [List.length_append, List.length_cons] at hz
      omega
    rw [e, spl_part1 h] at hs
    rw [e, readL_at h]
    by_cases hB : 47 ∈ B
    · refine .inl ⟨fun h2 => ?_, ?_⟩
      · obtain ⟨A', B', e', h'⟩ : ∃ A' B', B = A' ++ ([47] ++ B') ∧ 47 ∉ A' := by
          rcases slash_cases B with h3 | h3
          · exact absurd hB h3
          · exact h3
        rw [e', spl_part1 h'] at hs
        have := congrArg List.length hs
        rw [List.length_map, h2, List.length_cons, List.length_cons] at this
        have := spl_ne [47] B' 0 []
        omega
      · unfold readAB
        rw [if_neg]
        rintro ⟨_, h2, _⟩
        rw [isNum_47 hB] at h2
        cases h2
    · rw [spl_last1 hB] at hs
      refine .inr ⟨⟨A.toArray⟩, ⟨B.toArray⟩, ?_, ?_, ?_, rfl⟩
      · apply map_tl_inj
        rw [hs]
        rfl
      · rw [len_tl]
        exact hz2.1
      · rw [len_tl]
        exact hz2.2
theorem ok__law_meant {k : Nat} (D : Df K mg "_law_meant" s__law_meant ["_law_text"]) (D__law_figs : Df K mg "_law_figs" s__law_figs ["_law_word"]) (D__law_low : Df K mg "_law_low" s__law_low ["_law_top", "_law_bottom"]) (m_len : mg "len" = none) (m_int : mg "int" = none) (m_abs : mg "abs" = none) : FnOk P w K mg base CX0 (k + 2) D.f D.fd ["_law_text"] (sp__law_meant K) := by
  have G__law_figs : FnOk P w K mg base CX0 1 D__law_figs.f D__law_figs.fd ["_law_word"] sp__law_figs := ok__law_figs D__law_figs m_len m_int
  have G__law_low : FnOk P w K mg base CX0 1 D__law_low.f D__law_low.fd ["_law_top", "_law_bottom"] (sp_lowest K) := ok__law_low D__law_low m_abs
  refine D.F.ok sc__law_meant (fun vs H Q E h => ?_) (fun cdv A outer s H vs Q E hr h => ?_)
  · obtain ⟨z, rfl, _⟩ := h
    rfl
  obtain ⟨z, rfl, hz, q, qn⟩ := h
  refine ⟨_, (pss_cons (ps_set (i := 1) sc__law_meant.nd rfl (.inl rfl) (pe_split (pv 0) pe_str))
      (pss_cons (ps_if (pt_cmpR op_ne (pe_callB call_len_seq (by rfl) m_len PySem.boot_len (pa_cons (pv 1) pa_nil)) pe_int (nomark _)) (pss_one (ps_ret pe_non)) pss_nil)
      (pss_cons (ps_set (i := 2) sc__law_meant.nd rfl (.inl rfl) (pe_ix ix_list (pv 1) pe_int (fun _ _ => rfl)))
      (pss_cons (ps_set (i := 3) sc__law_meant.nd rfl (.inl rfl) (pe_cmpR op_eq (pe_slice sl_str (pv 2) po_none (po_some pe_int)) pe_str (nomark _)))
      (pss_cons (ps_if (pt_val (pv 3)) (pss_one (ps_set (i := 2) sc__law_meant.nd rfl (.inl rfl) (pe_slice sl_str (pv 2) (po_some pe_int) po_none))) pss_nil)
      (pss_cons (ps_set (i := 2) sc__law_meant.nd rfl (.inl rfl) (pe_call G__law_figs (hr.mono (by omega)) (by rfl) D__law_figs.g D__law_figs.F.kp D__law_figs.b .nil pass0 (pa_cons (pv 2) pa_nil)))
      (pss_cons (ps_set (i := 4) sc__law_meant.nd rfl (.inl rfl) (pe_call G__law_figs (hr.mono (by omega)) (by rfl) D__law_figs.g D__law_figs.F.kp D__law_figs.b .nil pass0 (pa_cons (pe_ix ix_list (pv 1) pe_int (fun _ _ => rfl)) pa_nil)))
      (pss_cons (ps_if (PW.pt (pw_or (pt_cmpR op_isN (pv 2) pe_non (nomark _)) (pw_or (pt_cmpR op_isN (pv 4) pe_non (nomark _)) (pw_or (pt_cmpR op_eq (pv 4) pe_int (nomark _)) (pw_or1 (PW.pt (pw_and (pt_val (pv 3)) (pw_and1 (pt_cmpR op_eq (pv 2) pe_int (nomark _)))))))))) (pss_one (ps_ret pe_non)) pss_nil)
      (pss_cons (ps_if (pt_cmpR (op_neD hr.units) (pe_call G__law_low (hr.mono (by omega)) (by rfl) D__law_low.g D__law_low.F.kp D__law_low.b .nil pass0 (pa_cons (pv 2) (pa_cons (pv 4) pa_nil))) (pe_tup (pa_cons (pv 2) (pa_cons (pv 4) pa_nil))) (nomark _)) (pss_one (ps_ret pe_non)) pss_nil)
      (pss_one (ps_ret (pe_ifExp (pt_val (pv 3)) (pe_tup (pa_cons (pe_un un_neg (pv 2)) (pa_cons (pv 4) pa_nil))) (pe_tup (pa_cons (pv 2) (pa_cons (pv 4) pa_nil))))))))))))))), ?_⟩
  refine ⟨_, rfl, ⟨_, rfl⟩, _, _, rfl, rfl, slash_len, Nat.le_trans (Nat.add_le_add_right hz 2) (by decide), fun p hp => ?_⟩
  have s1 : Same H (upd H p (.lst ((Txt.split z ("/" : Str)).map V.str))) := same_upd hp
  refine ⟨_, rfl, p, _, rfl, .inl (SqL.of upd_same), rfl, _, rfl, ?_⟩
  rcases split_cases z hz with ⟨h2, hr'⟩ | ⟨x, y, es, hx, hy, hr'⟩
  · rw [decide_eq_false (fun h => h2 (by have := V.int.inj h; rw [List.length_map] at this; omega))]
    exact iteT (qn hr' _ s1)
  rw [hr'] at q qn
  rw [es] at s1 ⊢
  refine iteF ?_
  have hL : SqL K (upd H p (.lst ([x, y].map V.str))) p [.str x, .str y] := SqL.of upd_same
  refine ⟨_, rfl, p, _, 0, .str x, rfl, rfl, hL, rfl, ?_⟩
  refine ⟨_, rfl, 1, rfl, x, rfl, line5' hx, rfl, ?_⟩
  -- less
  have hless : decide ((V.str (cutS x none (some 1))) = V.str ("-" : Str)) = decide ((tl x).head? = some 45) := by
    by_cases h : (tl x).head? = some 45
    · rw [decide_eq_true h]
      exact decide_eq_true (congrArg V.str (ext_tl (by rw [tl_cut0, tl45]; exact head45.1 h)))
    · rw [decide_eq_false h]
      refine decide_eq_false fun e => h ?_
      have e2 := congrArg tl (V.str.inj e)
      rw [tl_cut0, tl45] at e2
      exact head45.2 e2
  rw [hless]
  by_cases hl : (tl x).head? = some 45
  · rw [decide_eq_true hl]
    refine ⟨_, rfl, true, rfl, iteT ?_⟩
    refine ⟨_, rfl, 1, rfl, x, rfl, line5' hx, ?_⟩
    have ew : tl (cutS x (some 1) none) = strip45 (tl x) := by rw [tl_cut1, strip_drop hl]
    have hwl : (cutS x (some 1) none).length ≤ 100000 := Nat.le_trans (cutS_length _ _ _) hx
    have etop : topV (tl x) = -numV (strip45 (tl x)) := topV_less hl
    have e450 := is450 hl
    generalize cutS x (some 1) none = wd at ew hwl ⊢
    refine ⟨_, rfl, wd, rfl, hwl, fun hn => ?_, fun hn => ?_⟩
    · -- the top is a number
      rw [ew] at hn ⊢
      refine ⟨_, rfl, p, _, 1, .str y, rfl, rfl, hL, rfl, y, rfl, hy, fun hm => ?_, fun hm => ?_⟩
      · refine ⟨_, rfl, rfl, _, rfl, iteF ?_⟩
        refine ⟨_, rfl, rfl, _, rfl, iteF ?_⟩
        refine ⟨_, rfl, rfl, _, rfl, ite2 (fun e => ?_) (fun e => ?_)⟩
        · refine iteT ?_
          refine qn ?_ _ s1
          unfold readAB
          rw [if_neg]
          rintro ⟨_, _, _, h4⟩
          exact h4 ((val_zero hm).1 (V.int.inj (of_decide_eq_true e)))
        have b0 : numV (tl y) ≠ 0 := fun h => e (decide_eq_true (congrArg V.int h))
        have hb0 : 0 < numV (tl y) := by
          have := val_nonneg (tl y)
          omega
        have hy48 : tl y ≠ [48] := fun h => b0 ((val_zero hm).2 h)
        refine ⟨_, rfl, true, rfl, iteT ?_⟩
        refine ⟨_, rfl, rfl, _, rfl, ite2 (fun e2 => ?_) (fun e2 => ?_)⟩
        · refine qn ?_ _ s1
          unfold readAB
          rw [if_neg]
          rintro ⟨_, _, h3, _⟩
          exact h3 (e450.2 ((val_zero hn).1 (V.int.inj (of_decide_eq_true e2))))
        have h450 : tl x ≠ [45, 48] := fun h => e2 (decide_eq_true (congrArg V.int ((val_zero hn).2 (e450.1 h))))
        have hok : okAB (tl x) (tl y) := ⟨hn, hm, h450, hy48⟩
        have eAB : readAB (tl x) (tl y) = if Int.gcd (topV (tl x)) (numV (tl y)) = 1 then some (topV (tl x), numV (tl y)) else none := by
          unfold readAB
          rw [if_pos hok]
        have hgc : Int.gcd (numV (strip45 (tl x))) (numV (tl y)) = Int.gcd (topV (tl x)) (numV (tl y)) := by rw [etop, Int.neg_gcd]
        refine ⟨_, rfl, _, rfl, _, _, rfl, hb0, (val_bd hm).mono (by decide), fun H4 v4 s4 p4 => ?_⟩
        refine ⟨_, rfl, _, rfl, (by show 2 ≤ sizeLine; decide), fun t ht => ?_⟩
        have st : Same H4 (upd H4 t (.tup [.int (numV (strip45 (tl x))), .int (numV (tl y))])) := same_upd ht
        have p4' : Pp K H4 v4 (lowP (numV (strip45 (tl x))) (numV (tl y))) := p4
        have pr : Pp K (upd H4 t (.tup [.int (numV (strip45 (tl x))), .int (numV (tl y))])) (.ref t) (numV (strip45 (tl x)), numV (tl y)) := Pr.new
        refine ⟨_, _, Pr.dp (p4'.same st), Pr.dp pr, shp_pr _ _, shp_pr _ _, _, rfl, ?_⟩
        rw [eqv_pr2 (lowP (numV (strip45 (tl x))) (numV (tl y))) (numV (strip45 (tl x)), numV (tl y))]
        by_cases hg : Int.gcd (topV (tl x)) (numV (tl y)) = 1
        · rw [decide_eq_true ((low_iff hb0).2 (hgc.trans hg))]
          refine iteF ?_
          rw [if_pos hg] at eAB
          refine ⟨_, rfl, true, rfl, iteT ?_⟩
          refine ⟨_, rfl, _, rfl, _, rfl, (by show 2 ≤ sizeLine; decide), fun t2 ht2 => ?_⟩
          refine q _ eAB _ _ (s1.trans (s4.trans (st.trans (same_upd ht2)))) ?_
          rw [etop]
          exact Pr.new
        · rw [decide_eq_false fun h => hg (hgc.symm.trans ((low_iff hb0).1 h))]
          refine iteT ?_
          rw [if_neg hg] at eAB
          exact qn eAB _ (s1.trans (s4.trans st))
      · -- the bottom is none
        refine ⟨_, rfl, rfl, _, rfl, iteF ?_⟩
        refine ⟨_, rfl, rfl, _, rfl, iteT ?_⟩
        refine iteT ?_
        refine qn ?_ _ s1
        unfold readAB
        rw [if_neg]
        rintro ⟨_, h2, _⟩
        rw [hm] at h2
        cases h2
    · -- the top is none
      rw [ew] at hn
      have fin : readAB (tl x) (tl y) = none := by
        unfold readAB
        rw [if_neg]
        rintro ⟨h1, _⟩
        rw [hn] at h1
        cases h1
      refine ⟨_, rfl, p, _, 1, .str y, rfl, rfl, hL, rfl, y, rfl, hy, fun hm => ?_, fun hm => ?_⟩
      · refine ⟨_, rfl, rfl, _, rfl, iteT ?_⟩
        exact iteT (qn fin _ s1)
      · refine ⟨_, rfl, rfl, _, rfl, iteT ?_⟩
        exact iteT (qn fin _ s1)
  · rw [decide_eq_false hl]
    refine ⟨_, rfl, false, rfl, iteF ?_⟩
    obtain ⟨etop', es45⟩ := topV_not hl
    have ew : tl x = strip45 (tl x) := es45.symm
    have hwl := hx
    have etop : topV (tl x) = numV (strip45 (tl x)) := by rw [etop', es45]
    have e450 := not450 hl
    refine ⟨_, rfl, x, rfl, hwl, fun hn => ?_, fun hn => ?_⟩
    · -- the top is a number
      rw [ew] at hn ⊢
      refine ⟨_, rfl, p, _, 1, .str y, rfl, rfl, hL, rfl, y, rfl, hy, fun hm => ?_, fun hm => ?_⟩
      · refine ⟨_, rfl, rfl, _, rfl, iteF ?_⟩
        refine ⟨_, rfl, rfl, _, rfl, iteF ?_⟩
        refine ⟨_, rfl, rfl, _, rfl, ite2 (fun e => ?_) (fun e => ?_)⟩
        · refine iteT ?_
          refine qn ?_ _ s1
          unfold readAB
          rw [if_neg]
          rintro ⟨_, _, _, h4⟩
          exact h4 ((val_zero hm).1 (V.int.inj (of_decide_eq_true e)))
        have b0 : numV (tl y) ≠ 0 := fun h => e (decide_eq_true (congrArg V.int h))
        have hb0 : 0 < numV (tl y) := by
          have := val_nonneg (tl y)
          omega
        have hy48 : tl y ≠ [48] := fun h => b0 ((val_zero hm).2 h)
        refine ⟨_, rfl, false, rfl, iteF ?_⟩
        refine iteF ?_
        have h450 := e450
        have hok : okAB (tl x) (tl y) := ⟨hn, hm, h450, hy48⟩
        have eAB : readAB (tl x) (tl y) = if Int.gcd (topV (tl x)) (numV (tl y)) = 1 then some (topV (tl x), numV (tl y)) else none := by
          unfold readAB
          rw [if_pos hok]
        have hgc : Int.gcd (numV (strip45 (tl x))) (numV (tl y)) = Int.gcd (topV (tl x)) (numV (tl y)) := by rw [etop]
        refine ⟨_, rfl, _, rfl, _, _, rfl, hb0, (val_bd hm).mono (by decide), fun H4 v4 s4 p4 => ?_⟩
        refine ⟨_, rfl, _, rfl, (by show 2 ≤ sizeLine; decide), fun t ht => ?_⟩
        have st : Same H4 (upd H4 t (.tup [.int (numV (strip45 (tl x))), .int (numV (tl y))])) := same_upd ht
        have p4' : Pp K H4 v4 (lowP (numV (strip45 (tl x))) (numV (tl y))) := p4
        have pr : Pp K (upd H4 t (.tup [.int (numV (strip45 (tl x))), .int (numV (tl y))])) (.ref t) (numV (strip45 (tl x)), numV (tl y)) := Pr.new
        refine ⟨_, _, Pr.dp (p4'.same st), Pr.dp pr, shp_pr _ _, shp_pr _ _, _, rfl, ?_⟩
        rw [eqv_pr2 (lowP (numV (strip45 (tl x))) (numV (tl y))) (numV (strip45 (tl x)), numV (tl y))]
        by_cases hg : Int.gcd (topV (tl x)) (numV (tl y)) = 1
        · rw [decide_eq_true ((low_iff hb0).2 (hgc.trans hg))]
          refine iteF ?_
          rw [if_pos hg] at eAB
          refine ⟨_, rfl, false, rfl, iteF ?_⟩
          refine ⟨_, rfl, _, rfl, (by show 2 ≤ sizeLine; decide), fun t2 ht2 => ?_⟩
          refine q _ eAB _ _ (s1.trans (s4.trans (st.trans (same_upd ht2)))) ?_
          rw [etop]
          exact Pr.new
        · rw [decide_eq_false fun h => hg (hgc.symm.trans ((low_iff hb0).1 h))]
          refine iteT ?_
          rw [if_neg hg] at eAB
          exact qn eAB _ (s1.trans (s4.trans st))
      · -- the bottom is none
        refine ⟨_, rfl, rfl, _, rfl, iteF ?_⟩
        refine ⟨_, rfl, rfl, _, rfl, iteT ?_⟩
        refine iteT ?_
        refine qn ?_ _ s1
        unfold readAB
        rw [if_neg]
        rintro ⟨_, h2, _⟩
        rw [hm] at h2
        cases h2
    · -- the top is none
      rw [ew] at hn
      have fin : readAB (tl x) (tl y) = none := by
        unfold readAB
        rw [if_neg]
        rintro ⟨h1, _⟩
        rw [hn] at h1
        cases h1
      refine ⟨_, rfl, p, _, 1, .str y, rfl, rfl, hL, rfl, y, rfl, hy, fun hm => ?_, fun hm => ?_⟩
      · refine ⟨_, rfl, rfl, _, rfl, iteT ?_⟩
        exact iteT (qn fin _ s1)
      · refine ⟨_, rfl, rfl, _, rfl, iteT ?_⟩
        exact iteT (qn fin _ s1)

def sp__law_sign : Sp := fun vs H Q _ => ∃ x : Int, vs = [.int x] ∧ ∀ c : Nat, Q (.str ⟨#[c]⟩) H
theorem code_at {z : Str} {n : Nat} (hn : z.length = n) (i : Int) (h : 0 < n) : ∃ c, atI (tl z) (i % (n : Int)) = some c := by
  have h1 := Int.emod_nonneg i (show (n : Int) ≠ 0 by omega)
  have h2 := Int.emod_lt_of_pos i (show (0 : Int) < n by omega)
  obtain ⟨j, hj, hjn⟩ : ∃ j : Nat, i % (n : Int) = (j : Int) ∧ j < n := ⟨(i % (n : Int)).toNat, by omega, by omega⟩
  have hl : j < (tl z).length := by
    rw [← len_tl, hn]
    exact hjn
  refine ⟨(tl z)[j], ?_⟩
  rw [hj]
  exact atI_nat (List.getElem?_eq_getElem hl)
theorem ok__law_sign {k : Nat} (D : Df K mg "_law_sign" s__law_sign ["_law_one"]) : FnOk P w K mg base CX0 (k + 1) D.f D.fd ["_law_one"] sp__law_sign := by
  refine D.F.ok sc__law_sign (fun vs H Q E h => ?_) (fun cdv A outer s H vs Q E hr h => ?_)
  · obtain ⟨x, rfl, _⟩ := h
    rfl
  obtain ⟨x, rfl, q⟩ := h
  refine ⟨_, (pss_cons (ps_set (i := 1) sc__law_sign.nd rfl (.inl rfl) pe_str)
      (pss_cons (ps_set (i := 1) sc__law_sign.nd rfl (.inl rfl) (pe_op op_add_str (pv 1) pe_str))
      (pss_cons (ps_if (pt_cmpR op_eq (pe_op op_mod (pv 0) pe_int) pe_int (nomark _)) (pss_one (ps_ret (pe_ix ix_str (pv 1) (pe_op op_mod (pe_op op_fdivW (pv 0) pe_int) pe_int) (fun _ _ => rfl)))) pss_nil)
      (pss_one (ps_ret (pe_ix ix_str pe_str (pe_op op_mod (pe_op op_fdivW (pv 0) pe_int) pe_int) (fun _ _ => rfl))))))), ?_⟩
  have c2 : ∀ x : Int, CDivW x 2 := fun x => bd_divok (n := 20) (by decide) (by unfold Bd; decide) (by decide)
  refine ⟨_, rfl, _, _, rfl, rfl, (by decide +kernel), ?_⟩
  refine ⟨_, rfl, _, _, rfl, rfl, (by show (0 : Int) < _; decide), rfl, _, rfl, ite2 (fun e => ?_) (fun e => ?_)⟩
  · obtain ⟨c, hc⟩ := code_at (z := (" !\"#$&'()*+,-./0123456789:;<=>?@ABCDEFGHIJKLMNOPQRSTUVWXYZ" : Str) ++ ("[\\]^_`abcdefghijklmnopqrstuvwxyz{|}~\n" : Str)) (n := 95) (by decide +kernel) (x / 2) (by decide)
    exact ⟨_, rfl, _, rfl, _, _, rfl, rfl, c2 _, _, _, rfl, rfl, (by show (0 : Int) < _; decide), _, _, c, rfl, rfl, (by decide +kernel), hc, q c⟩
  · obtain ⟨c, hc⟩ := code_at (z := ("0123456789-/ 1" : Str)) (n := 14) (by decide +kernel) (x / 2) (by decide)
    exact ⟨_, rfl, _, _, rfl, rfl, c2 _, _, _, rfl, rfl, (by show (0 : Int) < _; decide), _, _, c, rfl, rfl, (by decide +kernel), hc, q c⟩

def sp__law_spoilt : Sp := fun vs H Q _ => ∃ (z : Str) (x y : Int), vs = [.str z, .int x, .int y] ∧ z.length ≤ 5000 ∧ ∀ w : Str, w.length ≤ 15001 → Q (.str w) H
theorem ok__law_spoilt {k : Nat} (D : Df K mg "_law_spoilt" s__law_spoilt ["_law_text", "_law_one", "_law_two"]) (D__law_sign : Df K mg "_law_sign" s__law_sign ["_law_one"]) (m_len : mg "len" = none) : FnOk P w K mg base CX0 (k + 2) D.f D.fd ["_law_text", "_law_one", "_law_two"] sp__law_spoilt := by
  have G__law_sign : FnOk P w K mg base CX0 1 D__law_sign.f D__law_sign.fd ["_law_one"] sp__law_sign := ok__law_sign D__law_sign
  refine D.F.ok sc__law_spoilt (fun vs H Q E h => ?_) (fun cdv A outer s H vs Q E hr h => ?_)
  · obtain ⟨z, x, y, rfl, _⟩ := h
    rfl
  obtain ⟨z, x, y, rfl, hz, q⟩ := h
  refine ⟨_, (pss_cons (ps_set (i := 3) sc__law_spoilt.nd rfl (.inl rfl) (pe_op op_mod (pe_op op_fdivW (pv 1) pe_int) (pe_op op_add (pe_callB call_len (by rfl) m_len PySem.boot_len (pa_cons (pv 0) pa_nil)) pe_int)))
      (pss_cons (ps_if (pt_cmpR op_eq (pe_op op_mod (pv 1) pe_int) pe_int (nomark _)) (pss_one (ps_ret (pe_op op_add_str (pe_op op_add_str (pe_slice sl_str (pv 0) po_none (po_some (pv 3))) (pe_call G__law_sign (hr.mono (by omega)) (by rfl) D__law_sign.g D__law_sign.F.kp D__law_sign.b .nil pass0 (pa_cons (pv 2) pa_nil))) (pe_slice sl_str (pv 0) (po_some (pv 3)) po_none)))) pss_nil)
      (pss_cons (ps_if (pt_cmpR op_eq (pe_op op_mod (pv 1) pe_int) pe_int (nomark _)) (pss_one (ps_ret (pe_op op_add_str (pe_slice sl_str (pv 0) po_none (po_some (pv 3))) (pe_slice sl_str (pv 0) (po_some (pe_op op_add (pv 3) pe_int)) po_none)))) pss_nil)
      (pss_cons (ps_if (pt_cmpR op_eq (pe_op op_mod (pv 1) pe_int) pe_int (nomark _)) (pss_one (ps_ret (pe_op op_add_str (pe_op op_add_str (pe_slice sl_str (pv 0) po_none (po_some (pv 3))) (pe_call G__law_sign (hr.mono (by omega)) (by rfl) D__law_sign.g D__law_sign.F.kp D__law_sign.b .nil pass0 (pa_cons (pv 2) pa_nil))) (pe_slice sl_str (pv 0) (po_some (pe_op op_add (pv 3) pe_int)) po_none)))) pss_nil)
      (pss_one (ps_ret (pe_op op_add_str (pe_op op_add_str (pe_slice sl_str (pv 0) po_none (po_some (pv 3))) (pe_slice sl_str (pv 0) (po_some (pv 3)) (po_some (pe_op op_add (pv 3) pe_int)))) (pe_slice sl_str (pv 0) (po_some (pv 3)) po_none)))))))), ?_⟩
  have hz' : z.length ≤ sizeLine := line5' (by omega)
  have c4 : ∀ x : Int, CDivW x 4 := fun x => bd_divok (n := 20) (by decide) (by unfold Bd; decide) (by decide)
  have cl : ∀ lo hi, (cutS z lo hi).length ≤ 5000 := fun lo hi => Nat.le_trans (cutS_length z lo hi) hz
  have one : ∀ c : Nat, (⟨#[c]⟩ : Str).length = 1 := fun _ => rfl
  refine ⟨_, rfl, _, _, rfl, rfl, c4 _, _, rfl, _, z.length, rfl, ⟨hz', rfl⟩, _, _, rfl, rfl, _, _, rfl, rfl, (by show (0 : Int) < ((z.length : Nat) : Int) + 1; omega), ?_⟩
  refine ⟨_, rfl, _, _, rfl, rfl, (by show (0 : Int) < _; decide), rfl, _, rfl, ite2 (fun e => ?_) (fun e => ?_)⟩
  · refine ⟨_, rfl, _, rfl, _, rfl, z, rfl, hz', _, rfl, y, rfl, fun c => ?_⟩
    have h1 := cl none (some (x / 4 % (((z.length : Nat) : Int) + 1)))
    have h2 := cl (some (x / 4 % (((z.length : Nat) : Int) + 1))) none
    have h3 := one c
    refine ⟨_, _, rfl, rfl, line5' (by omega), _, rfl, _, rfl, _, rfl, z, rfl, hz', _, _, rfl, rfl, line5' (by rw [app_len]; omega), q _ (by rw [app_len, app_len]; omega)⟩
  refine ⟨_, rfl, _, _, rfl, rfl, (by show (0 : Int) < _; decide), rfl, _, rfl, ite2 (fun e1 => ?_) (fun e1 => ?_)⟩
  · have h1 := cl none (some (x / 4 % (((z.length : Nat) : Int) + 1)))
    have h2 := cl (some (x / 4 % (((z.length : Nat) : Int) + 1) + 1)) none
    exact ⟨_, rfl, _, rfl, _, rfl, z, rfl, hz', _, rfl, _, rfl, _, _, rfl, rfl, _, rfl, z, rfl, hz', _, _, rfl, rfl, line5' (by omega), q _ (by rw [app_len]; omega)⟩
  refine ⟨_, rfl, _, _, rfl, rfl, (by show (0 : Int) < _; decide), rfl, _, rfl, ite2 (fun e2 => ?_) (fun e2 => ?_)⟩
  · refine ⟨_, rfl, _, rfl, _, rfl, z, rfl, hz', _, rfl, y, rfl, fun c => ?_⟩
    have h1 := cl none (some (x / 4 % (((z.length : Nat) : Int) + 1)))
    have h2 := cl (some (x / 4 % (((z.length : Nat) : Int) + 1) + 1)) none
    have h3 := one c
    exact ⟨_, _, rfl, rfl, line5' (by omega), _, rfl, _, rfl, _, _, rfl, rfl, _, rfl, z, rfl, hz', _, _, rfl, rfl, line5' (by rw [app_len]; omega), q _ (by rw [app_len, app_len]; omega)⟩
  · have h1 := cl none (some (x / 4 % (((z.length : Nat) : Int) + 1)))
    have h2 := cl (some (x / 4 % (((z.length : Nat) : Int) + 1))) (some (x / 4 % (((z.length : Nat) : Int) + 1) + 1))
    have h3 := cl (some (x / 4 % (((z.length : Nat) : Int) + 1))) none
    refine ⟨_, rfl, _, rfl, _, rfl, z, rfl, hz', _, rfl, _, rfl, _, rfl, _, rfl, _, _, rfl, rfl, _, rfl, z, rfl, hz', _, _, rfl, rfl, line5' (by omega), ?_⟩
    exact ⟨_, rfl, _, rfl, _, rfl, z, rfl, hz', _, _, rfl, rfl, line5' (by rw [app_len]; omega), q _ (by rw [app_len, app_len]; omega)⟩

def sp__law_odd : Sp := fun vs H Q _ => ∃ x : Int, vs = [.int x] ∧ ∀ H' w, Same H H' → (w : Str).length ≤ 15001 → Q (.str w) H'
/-- a text of at most 15001 signs -/
def Sh (v : V) : Prop := ∃ z : Str, v = .str z ∧ z.length ≤ 15001
theorem sh_of {z : Str} (h : z.length ≤ 15001) : Sh (.str z) := ⟨z, rfl, h⟩
theorem all_nil : ∀ v ∈ ([] : List V), Sh v := fun v h => nomatch h
theorem all_cons {v : V} {xs : List V} (h : Sh v) (t : ∀ v ∈ xs, Sh v) : ∀ u ∈ v :: xs, Sh u := fun u hu => by
  rcases List.mem_cons.1 hu with e | e
  · rw [e]
    exact h
  · exact t u e
theorem all_app {xs ys : List V} (h : ∀ v ∈ xs, Sh v) (t : ∀ v ∈ ys, Sh v) : ∀ u ∈ xs ++ ys, Sh u := fun u hu => by
  rcases List.mem_append.1 hu with e | e
  · exact h u e
  · exact t u e
theorem pick {xs : List V} (n : xs.length = 36) (h : ∀ v ∈ xs, Sh v) (i : Int) : ∃ z, atI xs (i % 36) = some (.str z) ∧ z.length ≤ 15001 := by
  have h1 := Int.emod_nonneg i (show (36 : Int) ≠ 0 by decide)
  have h2 := Int.emod_lt_of_pos i (show (0 : Int) < 36 by decide)
  obtain ⟨j, hj, hjn⟩ : ∃ j : Nat, i % 36 = (j : Int) ∧ j < 36 := ⟨(i % 36).toNat, by omega, by omega⟩
  have hl : j < xs.length := by omega
  obtain ⟨z, ez, hz⟩ := h xs[j] (List.getElem_mem hl)
  refine ⟨z, ?_, hz⟩
  rw [hj]
  exact atI_nat (by rw [List.getElem?_eq_getElem hl, ez])
theorem ok__law_odd {k : Nat} (D : Df K mg "_law_odd" s__law_odd ["_law_one"]) : FnOk P w K mg base CX0 (k + 1) D.f D.fd ["_law_one"] sp__law_odd := by
  refine D.F.ok sc__law_odd (fun vs H Q E h => ?_) (fun cdv A outer s H vs Q E hr h => ?_)
  · obtain ⟨x, rfl, _⟩ := h
    rfl
  obtain ⟨x, rfl, q⟩ := h
  refine ⟨_, (pss_cons (ps_set (i := 1) sc__law_odd.nd rfl (.inl rfl) (pe_lst (pa_cons pe_str (pa_cons pe_str (pa_cons pe_str (pa_cons pe_str (pa_cons pe_str (pa_cons pe_str (pa_cons pe_str (pa_cons pe_str (pa_cons pe_str (pa_cons pe_str (pa_cons pe_str (pa_cons pe_str pa_nil))))))))))))))
      (pss_cons (ps_set (i := 1) sc__law_odd.nd rfl (.inl rfl) (pe_op op_cat (pv 1) (pe_lst (pa_cons pe_str (pa_cons pe_str (pa_cons pe_str (pa_cons pe_str (pa_cons pe_str (pa_cons pe_str (pa_cons pe_str (pa_cons pe_str (pa_cons pe_str pa_nil))))))))))))
      (pss_cons (ps_set (i := 1) sc__law_odd.nd rfl (.inl rfl) (pe_op op_cat (pv 1) (pe_lst (pa_cons pe_str (pa_cons pe_str (pa_cons pe_str (pa_cons pe_str (pa_cons pe_str pa_nil))))))))
      (pss_cons (ps_set (i := 2) sc__law_odd.nd rfl (.inl rfl) (pe_op op_mul_str pe_str pe_int))
      (pss_cons (ps_set (i := 1) sc__law_odd.nd rfl (.inl rfl) (pe_op op_cat (pv 1) (pe_lst (pa_cons (pe_op op_add_str (pv 2) pe_str) (pa_cons (pe_op op_add_str pe_str (pv 2)) (pa_cons (pe_op op_add_str (pv 2) pe_str) (pa_cons (pe_op op_add_str pe_str (pv 2)) (pa_cons (pe_op op_add_str (pe_op op_add_str pe_str (pv 2)) pe_str) (pa_cons (pe_op op_add_str (pe_op op_add_str pe_str (pv 2)) pe_str) pa_nil)))))))))
      (pss_cons (ps_set (i := 1) sc__law_odd.nd rfl (.inl rfl) (pe_op op_cat (pv 1) (pe_lst (pa_cons (pe_op op_add_str (pe_op op_mul_str pe_str pe_int) pe_str) (pa_cons (pe_op op_add_str pe_str (pe_op op_mul_str pe_str pe_int)) (pa_cons pe_str (pa_cons pe_str pa_nil)))))))
      (pss_one (ps_ret (pe_ix ix_list (pv 1) (pe_op op_mod (pv 0) pe_int) (fun _ _ => rfl)))))))))), ?_⟩
  have mok : ∀ n : Int, n = 400 ∨ n = 4400 → MulOk ("1" : Str) n := by
    rintro n (rfl | rfl)
    · exact ⟨by decide, fun _ _ => by decide +kernel, fun _ _ => by decide +kernel⟩
    · exact ⟨by decide, fun _ _ => by decide +kernel, fun _ _ => by decide +kernel⟩
  have l4 : (Txt.mul "1" 400).length ≤ 5000 := Nat.le_trans (mul_len _ _) (by decide +kernel)
  have l44 : (Txt.mul "1" 4400).length ≤ 5000 := Nat.le_trans (mul_len _ _) (by decide +kernel)
  have w1 : ("/1" : Str).length ≤ 9 := by decide +kernel
  have w2 : ("1/" : Str).length ≤ 9 := by decide +kernel
  have w3 : ("1/1" : Str).length ≤ 9 := by decide +kernel
  have w4 : ("-" : Str).length ≤ 9 := by decide +kernel
  have aA : ∀ v ∈ ([V.str "", V.str "/", V.str "1", V.str "1/", V.str "/1", V.str "0/1", V.str "-0/1", V.str "0/2", V.str "1/0", V.str "0/0", V.str "-1/2", V.str "1/-2"] : List V), Sh v := (all_cons (sh_of (by decide +kernel)) (all_cons (sh_of (by decide +kernel)) (all_cons (sh_of (by decide +kernel)) (all_cons (sh_of (by decide +kernel)) (all_cons (sh_of (by decide +kernel)) (all_cons (sh_of (by decide +kernel)) (all_cons (sh_of (by decide +kernel)) (all_cons (sh_of (by decide +kernel)) (all_cons (sh_of (by decide +kernel)) (all_cons (sh_of (by decide +kernel)) (all_cons (sh_of (by decide +kernel)) (all_cons (sh_of (by decide +kernel)) all_nil))))))))))))
  have aB : ∀ v ∈ ([V.str "--1/2", V.str "+1/2", V.str "01/2", V.str "1/02", V.str "2/4", V.str "1/2/3", V.str " 1/2", V.str "1/2 ", V.str "1 /2"] : List V), Sh v := (all_cons (sh_of (by decide +kernel)) (all_cons (sh_of (by decide +kernel)) (all_cons (sh_of (by decide +kernel)) (all_cons (sh_of (by decide +kernel)) (all_cons (sh_of (by decide +kernel)) (all_cons (sh_of (by decide +kernel)) (all_cons (sh_of (by decide +kernel)) (all_cons (sh_of (by decide +kernel)) (all_cons (sh_of (by decide +kernel)) all_nil)))))))))
  have aC : ∀ v ∈ ([V.str "1/2\n", V.str "3/1", V.str "-7/1", V.str "1.5/1", V.str "a/b"] : List V), Sh v := (all_cons (sh_of (by decide +kernel)) (all_cons (sh_of (by decide +kernel)) (all_cons (sh_of (by decide +kernel)) (all_cons (sh_of (by decide +kernel)) (all_cons (sh_of (by decide +kernel)) all_nil)))))
  have aD : ∀ v ∈ ([V.str ((Txt.mul "1" 400) ++ ("/1" : Str)), V.str (("1/" : Str) ++ (Txt.mul "1" 400)), V.str ((Txt.mul "1" 400) ++ ("1/1" : Str)), V.str (("1/1" : Str) ++ (Txt.mul "1" 400)), V.str ((("-" : Str) ++ (Txt.mul "1" 400)) ++ ("/1" : Str)), V.str ((("-" : Str) ++ (Txt.mul "1" 400)) ++ ("1/1" : Str))] : List V), Sh v := (all_cons (sh_of (by simp only [app_len]; omega)) (all_cons (sh_of (by simp only [app_len]; omega)) (all_cons (sh_of (by simp only [app_len]; omega)) (all_cons (sh_of (by simp only [app_len]; omega)) (all_cons (sh_of (by simp only [app_len]; omega)) (all_cons (sh_of (by simp only [app_len]; omega)) all_nil))))))
  have aE : ∀ v ∈ ([V.str ((Txt.mul "1" 4400) ++ ("/1" : Str)), V.str (("1/" : Str) ++ (Txt.mul "1" 4400)), V.str "1_0/3", V.str "1/1_0"] : List V), Sh v := (all_cons (sh_of (by simp only [app_len]; omega)) (all_cons (sh_of (by simp only [app_len]; omega)) (all_cons (sh_of (by decide +kernel)) (all_cons (sh_of (by decide +kernel)) all_nil))))
  obtain ⟨z, hz1, hz2⟩ := pick (xs := ((([V.str "", V.str "/", V.str "1", V.str "1/", V.str "/1", V.str "0/1", V.str "-0/1", V.str "0/2", V.str "1/0", V.str "0/0", V.str "-1/2", V.str "1/-2"] ++ [V.str "--1/2", V.str "+1/2", V.str "01/2", V.str "1/02", V.str "2/4", V.str "1/2/3", V.str " 1/2", V.str "1/2 ", V.str "1 /2"]) ++ [V.str "1/2\n", V.str "3/1", V.str "-7/1", V.str "1.5/1", V.str "a/b"]) ++ [V.str ((Txt.mul "1" 400) ++ ("/1" : Str)), V.str (("1/" : Str) ++ (Txt.mul "1" 400)), V.str ((Txt.mul "1" 400) ++ ("1/1" : Str)), V.str (("1/1" : Str) ++ (Txt.mul "1" 400)), V.str ((("-" : Str) ++ (Txt.mul "1" 400)) ++ ("/1" : Str)), V.str ((("-" : Str) ++ (Txt.mul "1" 400)) ++ ("1/1" : Str))]) ++ [V.str ((Txt.mul "1" 4400) ++ ("/1" : Str)), V.str (("1/" : Str) ++ (Txt.mul "1" 4400)), V.str "1_0/3", V.str "1/1_0"]) rfl (all_app (all_app (all_app (all_app aA aB) aC) aD) aE) x
  refine ⟨(by show 12 ≤ sizeLine; decide), fun p1 h1 => ?_⟩
  refine ⟨_, rfl, (by show 9 ≤ sizeLine; decide), fun p2 h2 => ⟨p1, p2, _, _, rfl, rfl, same_upd h2 _ _ upd_same, upd_same, (by show 12 + 9 ≤ sizeLine; decide), fun p3 h3 => ?_⟩⟩
  refine ⟨_, rfl, (by show 5 ≤ sizeLine; decide), fun p4 h4 => ⟨p3, p4, _, _, rfl, rfl, same_upd h4 _ _ upd_same, upd_same, (by show 21 + 5 ≤ sizeLine; decide), fun p5 h5 => ?_⟩⟩
  refine ⟨_, _, rfl, rfl, mok _ (.inl rfl), ?_⟩
  refine ⟨_, rfl, _, rfl, _, _, rfl, rfl, line5' (by omega), _, rfl, _, _, rfl, rfl, line5' (by omega), _, rfl, _, _, rfl, rfl, line5' (by omega), _, rfl, _, _, rfl, rfl, line5' (by omega), ?_⟩
  refine ⟨_, rfl, _, _, rfl, rfl, line5' (by omega), _, _, rfl, rfl, line5' (by rw [app_len]; omega), _, rfl, _, _, rfl, rfl, line5' (by omega), _, _, rfl, rfl, line5' (by rw [app_len]; omega), (by show 6 ≤ sizeLine; decide), fun p6 h6 => ?_⟩
  refine ⟨p5, p6, _, _, rfl, rfl, same_upd h6 _ _ upd_same, upd_same, (by show 26 + 6 ≤ sizeLine; decide), fun p7 h7 => ?_⟩
  refine ⟨_, rfl, _, _, rfl, rfl, mok _ (.inr rfl), _, _, rfl, rfl, line5' (by omega), ?_⟩
  refine ⟨_, _, rfl, rfl, mok _ (.inr rfl), _, _, rfl, rfl, line5' (by omega), (by show 4 ≤ sizeLine; decide), fun p8 h8 => ?_⟩
  refine ⟨p7, p8, _, _, rfl, rfl, same_upd h8 _ _ upd_same, upd_same, (by show 32 + 4 ≤ sizeLine; decide), fun p9 h9 => ?_⟩
  refine ⟨_, rfl, _, rfl, _, _, rfl, rfl, (by show (0 : Int) < _; decide), p9, _, _, _, rfl, rfl, SqL.of upd_same, hz1, ?_⟩
  exact q _ _ ((same_upd h1).trans ((same_upd h2).trans ((same_upd h3).trans ((same_upd h4).trans ((same_upd h5).trans ((same_upd h6).trans ((same_upd h7).trans ((same_upd h8).trans (same_upd h9))))))))) hz2

def rs0 (rs : List Int) (z : Int) : List Int := rs ++ [z]
def sp__law_flow (K : PySem.W.Frag) : Sp := fun vs H Q _ => ∃ (a : Addr) (ns : List Int) (m : Nat), vs = [.ref a, .int m] ∧ SqL K H a (ns.map V.int) ∧ ns.length ≤ 63 ∧ m ≤ 500 ∧
  ∀ H' v rs, Same H H' → Ls H' v rs → rs.length = m → (∀ r ∈ rs, 0 ≤ r ∧ r < 1000000) → Q v H'
theorem ok__law_flow {k : Nat} (D : Df K mg "_law_flow" s__law_flow ["_law_script", "_law_many"]) (m_abs : mg "abs" = none) (m_len : mg "len" = none) (m_range : mg "range" = none) :
    FnOk P w K mg base CX0 (k + 1) D.f D.fd ["_law_script", "_law_many"] (sp__law_flow K) := by
  refine D.F.ok sc__law_flow (fun vs H Q E h => ?_) (fun cdv A outer s H vs Q E hr h => ?_)
  · obtain ⟨a, ns, m, rfl, _⟩ := h
    rfl
  · obtain ⟨a, ns, m, rfl, hS, hlen, hm, q⟩ := h
    refine ⟨_, (pss_cons (ps_set (i := 2) sc__law_flow.nd rfl (.inl rfl) pe_int)
      (pss_cons (ps_if (PW.pt (pw_and (pt_cmpR op_gt (pe_callB call_len_seq (by rfl) m_len PySem.boot_len (pa_cons (pv 0) pa_nil)) pe_int (nomark _)) (pw_and1 (pt_cmpR op_ge (pe_callB call_abs (by rfl) m_abs boot_abs (pa_cons (pe_ix ix_list (pv 0) pe_int (fun _ _ => rfl)) pa_nil)) (pe_op op_pow pe_int pe_int) (nomark _))))) (pss_one (ps_set (i := 2) sc__law_flow.nd rfl (.inl rfl) (pe_op op_sub (pe_callB call_abs (by rfl) m_abs boot_abs (pa_cons (pe_ix ix_list (pv 0) pe_int (fun _ _ => rfl)) pa_nil)) (pe_op op_pow pe_int pe_int)))) pss_nil)
      (pss_cons (ps_set (i := 3) sc__law_flow.nd rfl (.inl rfl) (pe_lst pa_nil))
      (pss_cons (ps_for PassesOwn.never rfl (pi_range1 (by rfl) m_range (pa_cons (pv 1) pa_nil)) (pg_name (i := 4) sc__law_flow.nd rfl (.inl rfl)) (pss_one (ps_if (pt_cmpR op_gt (pv 2) pe_int (nomark _)) (pss_cons (ps_expr (pe_bm PySem.F.plainAttrs_list PySem.F.slot_list_append PySem.F.type_list_append mt_append (pv 3) (pa_cons (pe_op op_mod (pv 2) pe_int) pa_nil)))
      (pss_one (ps_set (i := 2) sc__law_flow.nd rfl (.inl rfl) (pe_op op_fdivW (pv 2) pe_int)))) (pss_cons (ps_set (i := 5) sc__law_flow.nd rfl (.inl rfl) (pe_op op_add (pv 4) pe_int))
      (pss_cons (ps_if (pt_cmpR op_gt (pe_callB call_len_seq (by rfl) m_len PySem.boot_len (pa_cons (pv 0) pa_nil)) pe_int (nomark _)) (pss_one (ps_set (i := 5) sc__law_flow.nd rfl (.inl rfl) (pe_ix ix_list (pv 0) (pe_op op_mod (pv 4) (pe_callB call_len_seq (by rfl) m_len PySem.boot_len (pa_cons (pv 0) pa_nil))) (fun _ _ => rfl)))) pss_nil)
      (pss_cons (ps_set (i := 6) sc__law_flow.nd rfl (.inl rfl) (pe_op op_mod (pe_op op_add (pe_op op_add (pe_op op_mul (pv 5) pe_int) (pe_op op_mul (pv 4) pe_int)) pe_int) pe_int))
      (pss_cons (ps_set (i := 6) sc__law_flow.nd rfl (.inl rfl) (pe_op op_mod (pe_op op_add (pe_op op_add (pe_op op_mul (pv 6) pe_int) (pe_op op_mul (pv 4) pe_int)) (pe_callB call_len_seq (by rfl) m_len PySem.boot_len (pa_cons (pv 0) pa_nil))) pe_int))
      (pss_one (ps_expr (pe_bm PySem.F.plainAttrs_list PySem.F.slot_list_append PySem.F.type_list_append mt_append (pv 3) (pa_cons (pe_op op_mod (pe_op op_fdivW (pv 6) pe_int) pe_int) pa_nil)))))))))))
      (pss_one (ps_ret (pv 3))))))), ?_⟩
    -- the loop and what follows, for any great
    have c1 : ∀ x : Int, CDivW x 1000000 := fun x => bd_divok (n := 20) (by decide) (by unfold Bd; decide) (by decide)
    have c19 : ∀ x : Int, CDivW x 19 := fun x => bd_divok (n := 20) (by decide) (by unfold Bd; decide) (by decide)
    have mk : ∀ x c : Int, -(2 ^ 64) < c → c < 2 ^ 64 → CMul x c := fun x c h1 h2 => .inr ⟨h1, h2⟩
    refine ⟨_, rfl, a, _, rfl, .inl hS, _, _, rfl, rfl, _, rfl, ite2 (fun e => ?_) (fun e => ?_)⟩
    · have hpos : 0 < ns.length := by
        have := of_decide_eq_true e
        rw [List.length_map] at this
        omega
      have g0 : atI (ns.map V.int) 0 = some (.int (ns.getD 0 0)) := ls_at (j := 0) hpos
      refine ⟨_, rfl, a, _, 0, _, rfl, rfl, hS, g0, _, rfl, _, _, rfl, rfl, ⟨by decide, by decide, by decide⟩, _, _, rfl, rfl, _, rfl, ite2 (fun e2 => ?_) (fun e2 => ?_)⟩
      · refine ⟨_, rfl, a, _, 0, _, rfl, rfl, hS, g0, _, rfl, _, _, rfl, rfl, ⟨by decide, by decide, by decide⟩, _, _, rfl, rfl, ?_⟩
        refine ⟨Nat.zero_le _, fun p hp => ?_⟩
        refine ⟨_, rfl, (m : Int), rfl, (by omega), (by omega), ?_⟩
        refine for_range (n := m) (fun i σ H3 => ∃ (g : Int) (rs : List Int) (y4 y5 y6 : Option V), σ = [some (.ref a), some (.int m), some (.int g), some (.ref p), y4, y5, y6] ∧ Same H H3 ∧ H3 p = some (.lst (rs.map V.int)) ∧ rs.length = i ∧ ∀ r ∈ rs, 0 ≤ r ∧ r < 1000000)
          ⟨_, [], _, _, _, rfl, same_upd hp, upd_same, rfl, fun r hr => nomatch hr⟩ (fun i σ H3 hi hW => ?_) (fun σ H3 hW => ?_)
        · obtain ⟨g, rs, y4, y5, y6, rfl, sm, hL, hl, hb⟩ := hW
          have hS3 := sm.seq hS
          have step : ∀ (z : Int), (0 ≤ z ∧ z < 1000000) →
              Same H (upd H3 p (.lst ((rs0 rs z).map V.int))) ∧ (upd H3 p (.lst ((rs0 rs z).map V.int))) p = some (.lst ((rs0 rs z).map V.int)) ∧ (rs0 rs z).length = i + 1 ∧ ∀ r ∈ rs0 rs z, 0 ≤ r ∧ r < 1000000 := by
            intro z hz
            refine ⟨fun b o eb => ?_, upd_same, ?_, ?_⟩
            · rw [upd_ne (ne_of_none eb hp)]
              exact sm _ _ eb
            · unfold rs0
              rw [List.length_append, hl]
              rfl
            · intro r hr
              unfold rs0 at hr
              rcases List.mem_append.1 hr with h | h
              · exact hb r h
              · rw [List.mem_singleton.1 h]
                exact hz
          have em : ∀ z : Int, (rs.map V.int) ++ [V.int z] = (rs0 rs z).map V.int := fun z => by
            unfold rs0
            rw [List.map_append]
            rfl
          have hsz : (rs.map V.int).length < sizeLine := small1000 (by rw [List.length_map]; omega)
          refine ⟨_, rfl, _, _, rfl, rfl, _, rfl, ite2 (fun e => ?_) (fun e => ?_)⟩
          · refine ⟨_, rfl, .inl ⟨rfl, _, SqL.of hL⟩, _, rfl, _, _, rfl, rfl, (by show (0 : Int) < _; decide), p, _, _, rfl, rfl, hL, hsz, ?_⟩
            rw [em]
            refine ⟨_, rfl, _, _, rfl, rfl, c1 _, ?_⟩
            exact ⟨_, _, _, _, _, rfl, step _ ⟨Int.emod_nonneg _ (by decide), Int.emod_lt_of_pos _ (by decide)⟩⟩
          · refine ⟨_, rfl, _, _, rfl, rfl, ?_⟩
            refine ⟨_, rfl, a, _, rfl, .inl hS3, _, _, rfl, rfl, _, rfl, ite2 (fun e1 => ?_) (fun e1 => ?_)⟩
            · have hpos : 0 < ns.length := by
                have := of_decide_eq_true e1
                rw [List.length_map] at this
                omega
              have hlt : i % ns.length < ns.length := Nat.mod_lt _ hpos
              have gk : atI (ns.map V.int) ((0 + (i : Int)) % ((ns.map V.int).length : Int)) = some (.int (ns.getD (i % ns.length) 0)) := by
                rw [Int.zero_add, List.length_map, ← Int.natCast_emod]
                exact ls_at hlt
              refine ⟨_, rfl, _, rfl, _, rfl, a, _, rfl, .inl hS3, _, _, rfl, rfl, (by rw [List.length_map]; omega), a, _, _, _, rfl, rfl, hS3, gk, ?_⟩
              refine ⟨_, rfl, _, _, rfl, rfl, mk _ _ (by decide) (by decide), _, rfl, _, _, rfl, rfl, mk _ _ (by decide) (by decide), _, _, rfl, rfl, _, _, rfl, rfl, _, _, rfl, rfl, (by show (0 : Int) < _; decide), ?_⟩
              refine ⟨_, rfl, _, _, rfl, rfl, mk _ _ (by decide) (by decide), _, rfl, _, _, rfl, rfl, mk _ _ (by decide) (by decide), _, _, rfl, rfl, _, rfl, a, _, rfl, .inl hS3, _, _, rfl, rfl, _, _, rfl, rfl, (by show (0 : Int) < _; decide), ?_⟩
              refine ⟨_, rfl, .inl ⟨rfl, _, SqL.of hL⟩, _, rfl, _, _, rfl, rfl, c19 _, _, _, rfl, rfl, (by show (0 : Int) < _; decide), p, _, _, rfl, rfl, hL, hsz, ?_⟩
              rw [em]
              exact ⟨_, _, _, _, _, rfl, step _ ⟨Int.emod_nonneg _ (by decide), Int.emod_lt_of_pos _ (by decide)⟩⟩
            · refine ⟨_, rfl, _, _, rfl, rfl, mk _ _ (by decide) (by decide), _, rfl, _, _, rfl, rfl, mk _ _ (by decide) (by decide), _, _, rfl, rfl, _, _, rfl, rfl, _, _, rfl, rfl, (by show (0 : Int) < _; decide), ?_⟩
              refine ⟨_, rfl, _, _, rfl, rfl, mk _ _ (by decide) (by decide), _, rfl, _, _, rfl, rfl, mk _ _ (by decide) (by decide), _, _, rfl, rfl, _, rfl, a, _, rfl, .inl hS3, _, _, rfl, rfl, _, _, rfl, rfl, (by show (0 : Int) < _; decide), ?_⟩
              refine ⟨_, rfl, .inl ⟨rfl, _, SqL.of hL⟩, _, rfl, _, _, rfl, rfl, c19 _, _, _, rfl, rfl, (by show (0 : Int) < _; decide), p, _, _, rfl, rfl, hL, hsz, ?_⟩
              rw [em]
              exact ⟨_, _, _, _, _, rfl, step _ ⟨Int.emod_nonneg _ (by decide), Int.emod_lt_of_pos _ (by decide)⟩⟩
        · obtain ⟨g, rs, y4, y5, y6, rfl, sm, hL, hl, hb⟩ := hW
          exact ⟨_, rfl, q H3 _ rs sm ⟨p, rfl, hL⟩ hl hb⟩
      · refine ⟨Nat.zero_le _, fun p hp => ?_⟩
        refine ⟨_, rfl, (m : Int), rfl, (by omega), (by omega), ?_⟩
        refine for_range (n := m) (fun i σ H3 => ∃ (g : Int) (rs : List Int) (y4 y5 y6 : Option V), σ = [some (.ref a), some (.int m), some (.int g), some (.ref p), y4, y5, y6] ∧ Same H H3 ∧ H3 p = some (.lst (rs.map V.int)) ∧ rs.length = i ∧ ∀ r ∈ rs, 0 ≤ r ∧ r < 1000000)
          ⟨_, [], _, _, _, rfl, same_upd hp, upd_same, rfl, fun r hr => nomatch hr⟩ (fun i σ H3 hi hW => ?_) (fun σ H3 hW => ?_)
        · obtain ⟨g, rs, y4, y5, y6, rfl, sm, hL, hl, hb⟩ := hW
          have hS3 := sm.seq hS
          have step : ∀ (z : Int), (0 ≤ z ∧ z < 1000000) →
              Same H (upd H3 p (.lst ((rs0 rs z).map V.int))) ∧ (upd H3 p (.lst ((rs0 rs z).map V.int))) p = some (.lst ((rs0 rs z).map V.int)) ∧ (rs0 rs z).length = i + 1 ∧ ∀ r ∈ rs0 rs z, 0 ≤ r ∧ r < 1000000 := by
            intro z hz
            refine ⟨fun b o eb => ?_, upd_same, ?_, ?_⟩
            · rw [upd_ne (ne_of_none eb hp)]
              exact sm _ _ eb
            · unfold rs0
              rw [List.length_append, hl]
              rfl
            · intro r hr
              unfold rs0 at hr
              rcases List.mem_append.1 hr with h | h
              · exact hb r h
              · rw [List.mem_singleton.1 h]
                exact hz
          have em : ∀ z : Int, (rs.map V.int) ++ [V.int z] = (rs0 rs z).map V.int := fun z => by
            unfold rs0
            rw [List.map_append]
            rfl
          have hsz : (rs.map V.int).length < sizeLine := small1000 (by rw [List.length_map]; omega)
          refine ⟨_, rfl, _, _, rfl, rfl, _, rfl, ite2 (fun e => ?_) (fun e => ?_)⟩
          · refine ⟨_, rfl, .inl ⟨rfl, _, SqL.of hL⟩, _, rfl, _, _, rfl, rfl, (by show (0 : Int) < _; decide), p, _, _, rfl, rfl, hL, hsz, ?_⟩
            rw [em]
            refine ⟨_, rfl, _, _, rfl, rfl, c1 _, ?_⟩
            exact ⟨_, _, _, _, _, rfl, step _ ⟨Int.emod_nonneg _ (by decide), Int.emod_lt_of_pos _ (by decide)⟩⟩
          · refine ⟨_, rfl, _, _, rfl, rfl, ?_⟩
            refine ⟨_, rfl, a, _, rfl, .inl hS3, _, _, rfl, rfl, _, rfl, ite2 (fun e1 => ?_) (fun e1 => ?_)⟩
            · have hpos : 0 < ns.length := by
                have := of_decide_eq_true e1
                rw [List.length_map] at this
                omega
              have hlt : i % ns.length < ns.length := Nat.mod_lt _ hpos
              have gk : atI (ns.map V.int) ((0 + (i : Int)) % ((ns.map V.int).length : Int)) = some (.int (ns.getD (i % ns.length) 0)) := by
                rw [Int.zero_add, List.length_map, ← Int.natCast_emod]
                exact ls_at hlt
              refine ⟨_, rfl, _, rfl, _, rfl, a, _, rfl, .inl hS3, _, _, rfl, rfl, (by rw [List.length_map]; omega), a, _, _, _, rfl, rfl, hS3, gk, ?_⟩
              refine ⟨_, rfl, _, _, rfl, rfl, mk _ _ (by decide) (by decide), _, rfl, _, _, rfl, rfl, mk _ _ (by decide) (by decide), _, _, rfl, rfl, _, _, rfl, rfl, _, _, rfl, rfl, (by show (0 : Int) < _; decide), ?_⟩
              refine ⟨_, rfl, _, _, rfl, rfl, mk _ _ (by decide) (by decide), _, rfl, _, _, rfl, rfl, mk _ _ (by decide) (by decide), _, _, rfl, rfl, _, rfl, a, _, rfl, .inl hS3, _, _, rfl, rfl, _, _, rfl, rfl, (by show (0 : Int) < _; decide), ?_⟩
              refine ⟨_, rfl, .inl ⟨rfl, _, SqL.of hL⟩, _, rfl, _, _, rfl, rfl, c19 _, _, _, rfl, rfl, (by show (0 : Int) < _; decide), p, _, _, rfl, rfl, hL, hsz, ?_⟩
              rw [em]
              exact ⟨_, _, _, _, _, rfl, step _ ⟨Int.emod_nonneg _ (by decide), Int.emod_lt_of_pos _ (by decide)⟩⟩
            · refine ⟨_, rfl, _, _, rfl, rfl, mk _ _ (by decide) (by decide), _, rfl, _, _, rfl, rfl, mk _ _ (by decide) (by decide), _, _, rfl, rfl, _, _, rfl, rfl, _, _, rfl, rfl, (by show (0 : Int) < _; decide), ?_⟩
              refine ⟨_, rfl, _, _, rfl, rfl, mk _ _ (by decide) (by decide), _, rfl, _, _, rfl, rfl, mk _ _ (by decide) (by decide), _, _, rfl, rfl, _, rfl, a, _, rfl, .inl hS3, _, _, rfl, rfl, _, _, rfl, rfl, (by show (0 : Int) < _; decide), ?_⟩
              refine ⟨_, rfl, .inl ⟨rfl, _, SqL.of hL⟩, _, rfl, _, _, rfl, rfl, c19 _, _, _, rfl, rfl, (by show (0 : Int) < _; decide), p, _, _, rfl, rfl, hL, hsz, ?_⟩
              rw [em]
              exact ⟨_, _, _, _, _, rfl, step _ ⟨Int.emod_nonneg _ (by decide), Int.emod_lt_of_pos _ (by decide)⟩⟩
        · obtain ⟨g, rs, y4, y5, y6, rfl, sm, hL, hl, hb⟩ := hW
          exact ⟨_, rfl, q H3 _ rs sm ⟨p, rfl, hL⟩ hl hb⟩
    · refine ⟨Nat.zero_le _, fun p hp => ?_⟩
      refine ⟨_, rfl, (m : Int), rfl, (by omega), (by omega), ?_⟩
      refine for_range (n := m) (fun i σ H3 => ∃ (g : Int) (rs : List Int) (y4 y5 y6 : Option V), σ = [some (.ref a), some (.int m), some (.int g), some (.ref p), y4, y5, y6] ∧ Same H H3 ∧ H3 p = some (.lst (rs.map V.int)) ∧ rs.length = i ∧ ∀ r ∈ rs, 0 ≤ r ∧ r < 1000000)
        ⟨_, [], _, _, _, rfl, same_upd hp, upd_same, rfl, fun r hr => nomatch hr⟩ (fun i σ H3 hi hW => ?_) (fun σ H3 hW => ?_)
      · obtain ⟨g, rs, y4, y5, y6, rfl, sm, hL, hl, hb⟩ := hW
        have hS3 := sm.seq hS
        have step : ∀ (z : Int), (0 ≤ z ∧ z < 1000000) →
            Same H (upd H3 p (.lst ((rs0 rs z).map V.int))) ∧ (upd H3 p (.lst ((rs0 rs z).map V.int))) p = some (.lst ((rs0 rs z).map V.int)) ∧ (rs0 rs z).length = i + 1 ∧ ∀ r ∈ rs0 rs z, 0 ≤ r ∧ r < 1000000 := by
          intro z hz
          refine ⟨fun b o eb => ?_, upd_same, ?_, ?_⟩
          · rw [upd_ne (ne_of_none eb hp)]
            exact sm _ _ eb
          · unfold rs0
            rw [List.length_append, hl]
            rfl
          · intro r hr
            unfold rs0 at hr
            rcases List.mem_append.1 hr with h | h
            · exact hb r h
            · rw [List.mem_singleton.1 h]
              exact hz
        have em : ∀ z : Int, (rs.map V.int) ++ [V.int z] = (rs0 rs z).map V.int := fun z => by
          unfold rs0
          rw [List.map_append]
          rfl
        have hsz : (rs.map V.int).length < sizeLine := small1000 (by rw [List.length_map]; omega)
        refine ⟨_, rfl, _, _, rfl, rfl, _, rfl, ite2 (fun e => ?_) (fun e => ?_)⟩
        · refine ⟨_, rfl, .inl ⟨rfl, _, SqL.of hL⟩, _, rfl, _, _, rfl, rfl, (by show (0 : Int) < _; decide), p, _, _, rfl, rfl, hL, hsz, ?_⟩
          rw [em]
          refine ⟨_, rfl, _, _, rfl, rfl, c1 _, ?_⟩
          exact ⟨_, _, _, _, _, rfl, step _ ⟨Int.emod_nonneg _ (by decide), Int.emod_lt_of_pos _ (by decide)⟩⟩
        · refine ⟨_, rfl, _, _, rfl, rfl, ?_⟩
          refine ⟨_, rfl, a, _, rfl, .inl hS3, _, _, rfl, rfl, _, rfl, ite2 (fun e1 => ?_) (fun e1 => ?_)⟩
          · have hpos : 0 < ns.length := by
              have := of_decide_eq_true e1
              rw [List.length_map] at this
              omega
            have hlt : i % ns.length < ns.length := Nat.mod_lt _ hpos
            have gk : atI (ns.map V.int) ((0 + (i : Int)) % ((ns.map V.int).length : Int)) = some (.int (ns.getD (i % ns.length) 0)) := by
              rw [Int.zero_add, List.length_map, ← Int.natCast_emod]
              exact ls_at hlt
            refine ⟨_, rfl, _, rfl, _, rfl, a, _, rfl, .inl hS3, _, _, rfl, rfl, (by rw [List.length_map]; omega), a, _, _, _, rfl, rfl, hS3, gk, ?_⟩
            refine ⟨_, rfl, _, _, rfl, rfl, mk _ _ (by decide) (by decide), _, rfl, _, _, rfl, rfl, mk _ _ (by decide) (by decide), _, _, rfl, rfl, _, _, rfl, rfl, _, _, rfl, rfl, (by show (0 : Int) < _; decide), ?_⟩
            refine ⟨_, rfl, _, _, rfl, rfl, mk _ _ (by decide) (by decide), _, rfl, _, _, rfl, rfl, mk _ _ (by decide) (by decide), _, _, rfl, rfl, _, rfl, a, _, rfl, .inl hS3, _, _, rfl, rfl, _, _, rfl, rfl, (by show (0 : Int) < _; decide), ?_⟩
            refine ⟨_, rfl, .inl ⟨rfl, _, SqL.of hL⟩, _, rfl, _, _, rfl, rfl, c19 _, _, _, rfl, rfl, (by show (0 : Int) < _; decide), p, _, _, rfl, rfl, hL, hsz, ?_⟩
            rw [em]
            exact ⟨_, _, _, _, _, rfl, step _ ⟨Int.emod_nonneg _ (by decide), Int.emod_lt_of_pos _ (by decide)⟩⟩
          · refine ⟨_, rfl, _, _, rfl, rfl, mk _ _ (by decide) (by decide), _, rfl, _, _, rfl, rfl, mk _ _ (by decide) (by decide), _, _, rfl, rfl, _, _, rfl, rfl, _, _, rfl, rfl, (by show (0 : Int) < _; decide), ?_⟩
            refine ⟨_, rfl, _, _, rfl, rfl, mk _ _ (by decide) (by decide), _, rfl, _, _, rfl, rfl, mk _ _ (by decide) (by decide), _, _, rfl, rfl, _, rfl, a, _, rfl, .inl hS3, _, _, rfl, rfl, _, _, rfl, rfl, (by show (0 : Int) < _; decide), ?_⟩
            refine ⟨_, rfl, .inl ⟨rfl, _, SqL.of hL⟩, _, rfl, _, _, rfl, rfl, c19 _, _, _, rfl, rfl, (by show (0 : Int) < _; decide), p, _, _, rfl, rfl, hL, hsz, ?_⟩
            rw [em]
            exact ⟨_, _, _, _, _, rfl, step _ ⟨Int.emod_nonneg _ (by decide), Int.emod_lt_of_pos _ (by decide)⟩⟩
      · obtain ⟨g, rs, y4, y5, y6, rfl, sm, hL, hl, hb⟩ := hW
        exact ⟨_, rfl, q H3 _ rs sm ⟨p, rfl, hL⟩ hl hb⟩

theorem bd200 {x : Int} (h : Bd 200 x) : x.natAbs < 10 ^ 63 := Nat.lt_of_lt_of_le h (by decide +kernel)
theorem log63 {n : Int} (h : n.natAbs < 10 ^ 63) : n.natAbs.log2 < 1920 := by
  have h1 : n.natAbs < 2 ^ 1920 := Nat.lt_of_lt_of_le h (by decide +kernel)
  by_cases h0 : n.natAbs = 0
  · rw [h0]
    decide
  · exact (Nat.log2_lt h0).2 h1
theorem ok_law {tM tF tP tG : Tok} {CB CD CS : Addr} (D : Df K mg "law" s_law ["_law_script"]) (D_common : Df K mg "common" s_common ["a", "b"]) (D_lowest : Df K mg "lowest" s_lowest ["top", "bottom"]) (D_is_number : Df K mg "is_number" s_is_number ["text"]) (D_number_read : Df K mg "number_read" s_number_read ["figures"]) (D_long_part_read : Df K mg "long_part_read" s_long_part_read ["text"]) (D_part_read : Df K mg "part_read" s_part_read ["text"])
    (D__law_flow : Df K mg "_law_flow" s__law_flow ["_law_script", "_law_many"]) (D__law_whole : Df K mg "_law_whole" s__law_whole ["_law_found"]) (D__law_low : Df K mg "_law_low" s__law_low ["_law_top", "_law_bottom"]) (D__law_part : Df K mg "_law_part" s__law_part ["_law_found"]) (D__law_is : Df K mg "_law_is" s__law_is ["_law_found", "_law_due"]) (D__law_any : Df K mg "_law_any" s__law_any ["_law_one", "_law_two"])
    (D__law_figures : Df K mg "_law_figures" s__law_figures ["_law_one", "_law_two"]) (D__law_figs : Df K mg "_law_figs" s__law_figs ["_law_word"]) (D__law_meant : Df K mg "_law_meant" s__law_meant ["_law_text"]) (D__law_sign : Df K mg "_law_sign" s__law_sign ["_law_one"]) (D__law_spoilt : Df K mg "_law_spoilt" s__law_spoilt ["_law_text", "_law_one", "_law_two"]) (D__law_odd : Df K mg "_law_odd" s__law_odd ["_law_one"])
    (T_BadPart : ExcT K mg "BadPart" CB) (T_exc : ExcC K CB) (g_DitchError : mg "DitchError" = some (.ref CD)) (g_BadSheet : mg "BadSheet" = some (.ref CS)) (e_exm : PySem.W.exmOne K (.ref CB) (.ref CD) = some true) (e_kit1 : PySem.W.kitOne K (.ref CB) (.ref CB) = some true) (e_kit2 : PySem.W.kitOne K (.ref CB) (.type "ValueError") = some true) (e_kit3 : PySem.W.kitOne K (.ref CB) (.ref CS) = some false)
    (m_PIECE : mg "PIECE" = some (.int 10000000000000000000000000000000000000000000000000000000000000000 tP)) (m_PIECE_FIGURES : mg "PIECE_FIGURES" = some (.int 64 tG)) (m_MOST_FIGURES_READ : mg "MOST_FIGURES_READ" = some (.int 400 tM)) (m_FIGURES : mg "FIGURES" = some (.str "0123456789" tF))
    (m_abs : mg "abs" = none) (m_len : mg "len" = none) (m_range : mg "range" = none) (m_isinstance : mg "isinstance" = none) (m_int : mg "int" = none) (m_bool : mg "bool" = none) (m_tuple : mg "tuple" = none) (m_str : mg "str" = none) (m_all : mg "all" = none) (m_ValueError : mg "ValueError" = none) : FnOk P w K mg base CX0 7 D.f D.fd ["_law_script"] (sp_law K) := by
  have G_part_read : FnOk P w K mg base (L2.CX P w) 6 D_part_read.f D_part_read.fd ["text"] (sp_part_read K CB) := ok_part_read D_part_read D_long_part_read D_common D_lowest D_is_number D_number_read m_MOST_FIGURES_READ T_BadPart m_PIECE m_PIECE_FIGURES m_FIGURES m_len m_range m_int m_all
  have G__law_is : FnOk P w K mg base CX0 6 D__law_is.f D__law_is.fd ["_law_found", "_law_due"] (sp__law_is K) := ok__law_is D__law_is D__law_part D__law_whole m_isinstance m_int m_bool m_tuple m_len
  have G__law_flow : FnOk P w K mg base CX0 6 D__law_flow.f D__law_flow.fd ["_law_script", "_law_many"] (sp__law_flow K) := ok__law_flow D__law_flow m_abs m_len m_range
  have G__law_any : FnOk P w K mg base CX0 6 D__law_any.f D__law_any.fd ["_law_one", "_law_two"] (sp__law_any K) := ok__law_any D__law_any D__law_low m_abs
  have G__law_figures : FnOk P w K mg base CX0 6 D__law_figures.f D__law_figures.fd ["_law_one", "_law_two"] sp__law_figures := ok__law_figures D__law_figures m_str m_range
  have G__law_meant : FnOk P w K mg base CX0 6 D__law_meant.f D__law_meant.fd ["_law_text"] (sp__law_meant K) := ok__law_meant D__law_meant D__law_figs D__law_low m_len m_int m_abs
  have G__law_spoilt : FnOk P w K mg base CX0 6 D__law_spoilt.f D__law_spoilt.fd ["_law_text", "_law_one", "_law_two"] sp__law_spoilt := ok__law_spoilt D__law_spoilt D__law_sign m_len
  have G__law_odd : FnOk P w K mg base CX0 6 D__law_odd.f D__law_odd.fd ["_law_one"] sp__law_odd := ok__law_odd D__law_odd
  refine D.F.ok sc_law (fun vs H Q E h => ?_) (fun cdv A outer s H vs Q E hr h => ?_)
  · obtain ⟨a, ns, rfl, _⟩ := h
    rfl
  · obtain ⟨a, ns, rfl, hS, hlen, q⟩ := h
    refine ⟨_, (pss_cons (ps_set (i := 1) sc_law.nd rfl (.inl rfl) (pe_call G__law_flow (hr.mono (by omega)) (by rfl) D__law_flow.g D__law_flow.F.kp D__law_flow.b .nil pass0 (pa_cons (pv 0) (pa_cons pe_int pa_nil))))
      (pss_cons (ps_for PassesOwn.never rfl (pi_tup (pe_tup (pa_cons pe_int (pa_cons pe_int pa_nil)))) (pg_name (i := 2) sc_law.nd rfl (.inl rfl)) (pss_cons (ps_set (i := 3) sc_law.nd rfl (.inl rfl) (pe_op op_add_str (pe_op op_add_str (pe_call G__law_figures (hr.mono (by omega)) (by rfl) D__law_figures.g D__law_figures.F.kp D__law_figures.b .nil pass0 (pa_cons (pe_ix ix_list (pv 1) (pv 2) (fun _ _ => rfl)) (pa_cons (pe_ix ix_list (pv 1) (pe_op op_add (pv 2) pe_int) (fun _ _ => rfl)) pa_nil))) pe_str) (pe_call G__law_figures (hr.mono (by omega)) (by rfl) D__law_figures.g D__law_figures.F.kp D__law_figures.b .nil pass0 (pa_cons (pe_ix ix_list (pv 1) (pe_op op_add (pv 2) pe_int) (fun _ _ => rfl)) (pa_cons (pe_ix ix_list (pv 1) (pe_op op_add (pv 2) pe_int) (fun _ _ => rfl)) pa_nil)))))
      (C8.pss_cut (ps_if (pt_cmpR op_eq (pe_op op_mod (pe_ix ix_list (pv 1) (pe_op op_add (pv 2) pe_int) (fun _ _ => rfl)) pe_int) pe_int (nomark _)) (pss_one (ps_set (i := 3) sc_law.nd rfl (.inl rfl) (pe_op op_add_str pe_str (pv 3)))) pss_nil)
      (C8.pss_cut (ps_if (pt_cmpR op_eq (pe_op op_mod (pe_ix ix_list (pv 1) (pe_op op_add (pv 2) pe_int) (fun _ _ => rfl)) pe_int) pe_int (nomark _)) (pss_cons (ps_set (i := 4) sc_law.nd rfl (.inl rfl) (pe_call G__law_any (hr.mono (by omega)) (by rfl) D__law_any.g D__law_any.F.kp D__law_any.b .nil pass0 (pa_cons (pe_ix ix_list (pv 1) (pv 2) (fun _ _ => rfl)) (pa_cons (pe_ix ix_list (pv 1) (pe_op op_add (pv 2) pe_int) (fun _ _ => rfl)) pa_nil))))
      (pss_one (ps_set (i := 3) sc_law.nd rfl (.inl rfl) (pe_op op_add_str (pe_op op_add_str (pe_callTy call_str_int (by rfl) m_str PyProof.Rows.boot_str (pa_cons (pe_ix ix_tup (pv 4) pe_int (fun _ _ => rfl)) pa_nil)) pe_str) (pe_callTy call_str_int (by rfl) m_str PyProof.Rows.boot_str (pa_cons (pe_ix ix_tup (pv 4) pe_int (fun _ _ => rfl)) pa_nil)))))) pss_nil)
      (pss_cons (ps_set (i := 5) sc_law.nd rfl (.inl rfl) (pe_op op_mod (pe_ix ix_list (pv 1) (pe_op op_add (pv 2) pe_int) (fun _ _ => rfl)) pe_int))
      (C8.pss_cut (ps_if (pt_cmpR op_eq (pv 5) pe_int (nomark _)) (pss_one (ps_set (i := 3) sc_law.nd rfl (.inl rfl) (pe_call G__law_spoilt (hr.mono (by omega)) (by rfl) D__law_spoilt.g D__law_spoilt.F.kp D__law_spoilt.b .nil pass0 (pa_cons (pv 3) (pa_cons (pe_op op_fdivW (pe_ix ix_list (pv 1) (pe_op op_add (pv 2) pe_int) (fun _ _ => rfl)) pe_int) (pa_cons (pe_op op_fdivW (pe_ix ix_list (pv 1) (pe_op op_add (pv 2) pe_int) (fun _ _ => rfl)) pe_int) pa_nil)))))) pss_nil)
      (C8.pss_cut (ps_if (pt_cmpR op_eq (pv 5) pe_int (nomark _)) (pss_one (ps_set (i := 3) sc_law.nd rfl (.inl rfl) (pe_call G__law_odd (hr.mono (by omega)) (by rfl) D__law_odd.g D__law_odd.F.kp D__law_odd.b .nil pass0 (pa_cons (pe_op op_fdivW (pe_ix ix_list (pv 1) (pe_op op_add (pv 2) pe_int) (fun _ _ => rfl)) pe_int) pa_nil)))) pss_nil)
      (pss_cons (ps_set (i := 6) sc_law.nd rfl (.inl rfl) (pe_call G__law_meant (hr.mono (by omega)) (by rfl) D__law_meant.g D__law_meant.F.kp D__law_meant.b .nil pass0 (pa_cons (pv 3) pa_nil)))
      (pss_cons (ps_set (i := 7) sc_law.nd rfl (.inl rfl) pe_non)
      (pss_cons (ps_try_as (i := 8) rfl rfl sc_law.nd rfl rfl ⟨rfl, by decide, .inl g_DitchError⟩ takes0 (fun W pn xe tk ow => (pss_one (ps_set (i := 7) sc_law.nd rfl (.inl rfl) (pe_callS G_part_read (hr.mono (by omega)) (by rfl) D_part_read.g D_part_read.F.kp D_part_read.b (fun σ => passAt tk σ) (pa_cons (pv 3) pa_nil))))) (fun a oe cls d pn hz hf => (pss_cons (ps_if (PW.pt (pw_or (pt_cmpR op_notN (pv 6) pe_non (nomark _)) (pw_or (pt_not (pt_val (pe_callB (call_isX T_exc hz hf) (by rfl) m_isinstance PyProof.Rows.boot_isinstance (pa_cons (pv 8) (pa_cons (pe_glob (v := .ref CB) (by rfl) T_BadPart.g rfl) pa_nil))))) (pw_or1 (pt_not (pt_val (pe_callB (call_isX T_exc hz hf) (by rfl) m_isinstance PyProof.Rows.boot_isinstance (pa_cons (pv 8) (pa_cons (pe_bltn (v := .ty "ValueError") (by rfl) m_ValueError (by decide +kernel) rfl) pa_nil))))))))) (pss_one (ps_ret pe_bl)) pss_nil)
      (pss_one (ps_if (pt_val (pe_callB (call_isX T_exc hz hf) (by rfl) m_isinstance PyProof.Rows.boot_isinstance (pa_cons (pv 8) (pa_cons (pe_glob (v := .ref CS) (by rfl) g_BadSheet rfl) pa_nil)))) (pss_one (ps_ret pe_bl)) pss_nil)))))
      (pss_one (ps_if (PW.pt (pw_or (PW.pt (pw_and (pt_cmpR op_isN (pv 6) pe_non (nomark _)) (pw_and1 (pt_cmpR op_notN (pv 7) pe_non (nomark _))))) (pw_or1 (PW.pt (pw_and (pt_cmpR op_notN (pv 6) pe_non (nomark _)) (pw_and1 (pt_not (pt_val (pe_call G__law_is (hr.mono (by omega)) (by rfl) D__law_is.g D__law_is.F.kp D__law_is.b .nil pass0 (pa_cons (pv 7) (pa_cons (pv 6) pa_nil))))))))))) (pss_one (ps_ret pe_bl)) pss_nil))))))))))))
      (pss_one (ps_ret pe_bl)))), ?_⟩
    refine ⟨_, rfl, a, ns, 12, rfl, hS, hlen, (by decide), fun H1 v rs sm1 ls1 hl hb => ?_⟩
    obtain ⟨p, rfl, ep⟩ := ls1
    refine ⟨(by show 2 ≤ sizeLine; decide), fun t ht => ?_⟩
    refine ⟨t, rfl, ⟨_, SqT.of upd_same⟩, ?_⟩
    refine for_tup (xs := [.int 0, .int 6]) (fun i σ H3 => ∃ y2 y3 y4 y5 y6 y7 y8, σ = [some (.ref a), some (.ref p), y2, y3, y4, y5, y6, y7, y8] ∧ Same (upd H1 t (.tup [.int 0, .int 6])) H3)
      ⟨_, _, _, _, _, _, _, rfl, Same.refl _⟩ (fun i σ H3 _ hW => ?_) (fun i x σ H3 hx hW => ?_) (fun σ H3 hW => ?_)
    · obtain ⟨_, _, _, _, _, _, _, _, sm⟩ := hW
      exact same_seqT sm (SqT.of upd_same)
    · obtain ⟨y2, y3, y4, y5, y6, y7, y8, rfl, sm⟩ := hW
      obtain ⟨j, rfl, hj⟩ : ∃ j : Nat, x = .int (j : Int) ∧ j + 5 < 12 := by
        rcases i with _ | _ | i
        · exact ⟨0, (Option.some.inj hx).symm, by decide⟩
        · exact ⟨6, (Option.some.inj hx).symm, by decide⟩
        · cases hx
      have eL : H3 p = some (.lst (rs.map V.int)) := sm _ _ ((same_upd ht) _ _ ep)
      have hL : ∀ H', Same H3 H' → SqL K H' p (rs.map V.int) := fun H' s => SqL.of (s _ _ eL)
      have c4 : ∀ x : Int, CDivW x 4 := fun x => bd_divok (n := 20) (by decide) (by unfold Bd; decide) (by decide)
      have c3 : ∀ x : Int, CDivW x 3 := fun x => bd_divok (n := 20) (by decide) (by unfold Bd; decide) (by decide)
      have ls1 : ("/" : Str).length = 1 := by rw [len_tl, slash_tl]; rfl
      have lm1 : ("-" : Str).length = 1 := by rw [len_tl, tl45]; rfl
      have r0 := Same.refl H3
      -- text = figures + '/' + figures
      refine ⟨_, rfl, _, rfl, p, _, _, _, rfl, rfl, hL _ r0, ls_at (j := j) (by omega), _, rfl, _, rfl, _, _, rfl, rfl, p, _, _, _, rfl, rfl, hL _ r0, ls_z (j + 1) (by omega) (by omega), _, _, rfl, hb _ (getD_in (by omega)), hb _ (getD_in (by omega)), fun H4 z1 s4 l1 => ?_⟩
      refine ⟨_, _, rfl, rfl, line5' (by omega), ?_⟩
      refine ⟨_, rfl, _, rfl, _, _, rfl, rfl, p, _, _, _, rfl, rfl, hL _ s4, ls_z (j + 2) (by omega) (by omega), _, rfl, _, rfl, _, _, rfl, rfl, p, _, _, _, rfl, rfl, hL _ s4, ls_z (j + 3) (by omega) (by omega), _, _, rfl, hb _ (getD_in (by omega)), hb _ (getD_in (by omega)), fun H5 z2 s5 l2 => ?_⟩
      refine ⟨_, _, rfl, rfl, line5' (by rw [app_len]; omega), ?_⟩
      -- a minus ahead
      refine ⟨fun σ H' => ∃ (z : Str) (y4 y5 y6 y7 y8 : Option V), σ = [some (.ref a), some (.ref p), some (.int j), some (.str z), y4, y5, y6, y7, y8] ∧ z.length ≤ 3000 ∧ Same H3 H', ?_, fun σ6 H6 hm => ?_⟩
      · refine ⟨_, rfl, _, rfl, _, _, rfl, rfl, p, _, _, _, rfl, rfl, hL _ (s4.trans s5), ls_z (j + 4) (by omega) (by omega), _, _, rfl, rfl, (by show (0 : Int) < _; decide), rfl, _, rfl, ite2 (fun e => ?_) (fun e => ?_)⟩
        · exact ⟨_, rfl, _, _, rfl, rfl, line5' (by rw [app_len, app_len]; omega), _, _, _, _, _, _, rfl, by rw [app_len, app_len, app_len]; omega, s4.trans s5⟩
        · exact ⟨_, _, _, _, _, _, rfl, by rw [app_len, app_len]; omega, s4.trans s5⟩
      obtain ⟨z6, y4, y5, y6, y7, y8, rfl, l6, s6⟩ := hm
      -- a written part
      refine ⟨fun σ H' => ∃ (z : Str) (y4 y5 y6 y7 y8 : Option V), σ = [some (.ref a), some (.ref p), some (.int j), some (.str z), y4, y5, y6, y7, y8] ∧ z.length ≤ 3000 ∧ Same H3 H', ?_, fun σ7 H7 hm => ?_⟩
      · refine ⟨_, rfl, _, rfl, _, _, rfl, rfl, p, _, _, _, rfl, rfl, hL _ s6, ls_z (j + 4) (by omega) (by omega), _, _, rfl, rfl, (by show (0 : Int) < _; decide), rfl, _, rfl, ite2 (fun e => ?_) (fun e => ?_)⟩
        · refine ⟨_, rfl, _, rfl, p, _, _, _, rfl, rfl, hL _ s6, ls_at (j := j) (by omega), _, rfl, _, rfl, _, _, rfl, rfl, p, _, _, _, rfl, rfl, hL _ s6, ls_z (j + 2) (by omega) (by omega), _, _, rfl, hb _ (getD_in (by omega)), hb _ (getD_in (by omega)), fun H7 va x y s7 low bx by' pra => ?_⟩
          have hx' := bd200 bx
          have hy' := bd200 by'
          have n1 : (Str.ofString (toString x)).length ≤ 63 + 1 := numT_len (k := 63) (by decide) hx'
          have n2 : (Str.ofString (toString y)).length ≤ 63 + 1 := numT_len (k := 63) (by decide) hy'
          obtain ⟨pA, rfl, hA⟩ := pra
          refine ⟨_, rfl, pA, _, 0, _, rfl, rfl, hA, rfl, x, rfl, log63 hx', _, _, rfl, rfl, line5' (by omega), ?_⟩
          exact ⟨_, rfl, pA, _, 1, _, rfl, rfl, hA, rfl, y, rfl, log63 hy', _, _, rfl, rfl, line5' (by rw [app_len]; omega), _, _, _, _, _, _, rfl, by rw [app_len, app_len]; omega, s6.trans s7⟩
        · exact ⟨_, _, _, _, _, _, rfl, l6, s6⟩
      obtain ⟨z7, y4, y5, y6, y7, y8, rfl, l7, s7⟩ := hm
      -- the way
      refine ⟨_, rfl, _, rfl, _, _, rfl, rfl, p, _, _, _, rfl, rfl, hL _ s7, ls_z (j + 5) (by omega) (by omega), _, _, rfl, rfl, (by show (0 : Int) < _; decide), ?_⟩
      refine ⟨fun σ H' => ∃ (z : Str) (y4 y6 y7 y8 : Option V), σ = [some (.ref a), some (.ref p), some (.int j), some (.str z), y4, some (.int (rs.getD (j + 5) 0 % 4)), y6, y7, y8] ∧ z.length ≤ 15001 ∧ Same H3 H', ?_, fun σ8 H8 hm => ?_⟩
      · refine ⟨_, rfl, rfl, _, rfl, ite2 (fun e => ?_) (fun e => ?_)⟩
        · refine ⟨_, rfl, _, rfl, _, rfl, _, _, rfl, rfl, p, _, _, _, rfl, rfl, hL _ s7, ls_z (j + 5) (by omega) (by omega), _, _, rfl, rfl, c4 _, _, rfl, _, rfl, _, _, rfl, rfl, p, _, _, _, rfl, rfl, hL _ s7, ls_z (j + 4) (by omega) (by omega), _, _, rfl, rfl, c3 _, ?_⟩
          exact ⟨_, _, _, rfl, by omega, fun wd hw => ⟨_, _, _, _, _, rfl, hw, s7⟩⟩
        · exact ⟨_, _, _, _, _, rfl, by omega, s7⟩
      obtain ⟨z8, y4, y6, y7, y8, rfl, l8, s8⟩ := hm
      refine ⟨fun σ H' => ∃ (z : Str) (y4 y6 y7 y8 : Option V), σ = [some (.ref a), some (.ref p), some (.int j), some (.str z), y4, some (.int (rs.getD (j + 5) 0 % 4)), y6, y7, y8] ∧ z.length ≤ 15001 ∧ Same H3 H', ?_, fun σ9 H9 hm => ?_⟩
      · refine ⟨_, rfl, rfl, _, rfl, ite2 (fun e => ?_) (fun e => ?_)⟩
        · refine ⟨_, rfl, _, rfl, _, _, rfl, rfl, p, _, _, _, rfl, rfl, hL _ s8, ls_z (j + 5) (by omega) (by omega), _, _, rfl, rfl, c4 _, ?_⟩
          exact ⟨_, rfl, fun H' wd sw hw => ⟨_, _, _, _, _, rfl, hw, s8.trans sw⟩⟩
        · exact ⟨_, _, _, _, _, rfl, l8, s8⟩
      obtain ⟨z, y4, y6, y7, y8, rfl, lz, s9⟩ := hm
      have hzz : z.length ≤ 100000 := by omega
      -- due = meant(text)
      refine ⟨_, rfl, z, rfl, hzz, fun u hu H10 vd s10 pd => ?_, fun hn H10 s10 => ?_⟩
      · -- a part is due
        have pd' := pd
        obtain ⟨pD, rfl, _⟩ := pd'
        refine ⟨_, rfl, z, rfl, hzz, fun u2 hu2 H11 vf s11 pf => ?_, fun hn => absurd (hu.symm.trans hn) (by simp)⟩
        have e2 : u2 = u := Option.some.inj (hu2.symm.trans hu)
        subst e2
        refine ⟨_, rfl, rfl, _, rfl, iteF ?_⟩
        refine iteF ?_
        refine ⟨_, rfl, rfl, _, rfl, iteT ?_⟩
        refine ⟨_, rfl, _, rfl, _, _, _, rfl, pf, pd.same s11, true, rfl, iteF ?_⟩
        exact ⟨_, _, _, _, _, _, _, rfl, fun b o e => s11 _ _ (s10 _ _ (s9 _ _ (sm _ _ e)))⟩
      · -- none is due: the error
        refine ⟨_, rfl, z, rfl, hzz, fun u2 hu2 => absurd (hn.symm.trans hu2) (by simp), fun _ H11 s11 => ?_⟩
        refine ⟨true, e_exm, fun _ ae ha => ?_, fun z => nomatch z⟩
        refine ⟨_, rfl, rfl, _, rfl, iteF ?_⟩
        refine ⟨_, rfl, rfl, rfl, _, _, true, rfl, fun u r => r, e_kit1, true, rfl, iteF ?_⟩
        refine ⟨_, rfl, rfl, rfl, _, _, true, rfl, fun u r => r, e_kit2, true, rfl, iteF ?_⟩
        refine ⟨_, rfl, rfl, rfl, _, _, false, rfl, fun u r => r, e_kit3, false, rfl, iteF ?_⟩
        refine ⟨_, rfl, rfl, _, rfl, iteT ?_⟩
        refine ⟨_, rfl, rfl, _, rfl, iteF ?_⟩
        refine ⟨_, rfl, rfl, _, rfl, iteF ?_⟩
        refine iteF ?_
        exact ⟨_, _, _, _, _, _, _, rfl, fun b o e => s11 _ _ (s10 _ _ (s9 _ _ (sm _ _ e)))⟩
    · exact q _

end
theorem all_mk {l : PySem.W.OpenLaw} {w : World} {K : PySem.W.Frag} {h : Heap} {mg : Str → Option Value} {fa f0 f1 f2 f3 f4 f5 f6 f7 f8 f9 f10 f11 f12 f13 f14 f15 f16 f17 f18 : Addr} (X : K.In h) (G : h.Ns mainGlobals mg) (hfa : mg "law" = some (.ref fa))
    {od0 an0 : Option Addr} {sl0 : Array (Option Value)} {oc0 kV0 dc0 pm0 cd0 ct0 : Value}
    (a0 : PySem.W.nsIn K mainGlobals "common" = some (some (.ref f0))) (l0 : K.lookup f0 = some ⟨oc0, od0, .func (PySem.W.fnOf "common" "common" (defArgs s_common) (defBody s_common) (defScope s_common) .none kV0 dc0 pm0 an0 cd0 ct0), sl0⟩) (c0 : PySem.W.codeIn K cd0 "common" = true) (k0 : PySem.W.keepIn K (.ref f0) = true)
    {od1 an1 : Option Addr} {sl1 : Array (Option Value)} {oc1 kV1 dc1 pm1 cd1 ct1 : Value}
    (a1 : PySem.W.nsIn K mainGlobals "lowest" = some (some (.ref f1))) (l1 : K.lookup f1 = some ⟨oc1, od1, .func (PySem.W.fnOf "lowest" "lowest" (defArgs s_lowest) (defBody s_lowest) (defScope s_lowest) .none kV1 dc1 pm1 an1 cd1 ct1), sl1⟩) (c1 : PySem.W.codeIn K cd1 "lowest" = true) (k1 : PySem.W.keepIn K (.ref f1) = true)
    {od2 an2 : Option Addr} {sl2 : Array (Option Value)} {oc2 kV2 dc2 pm2 cd2 ct2 : Value}
    (a2 : PySem.W.nsIn K mainGlobals "is_number" = some (some (.ref f2))) (l2 : K.lookup f2 = some ⟨oc2, od2, .func (PySem.W.fnOf "is_number" "is_number" (defArgs s_is_number) (defBody s_is_number) (defScope s_is_number) .none kV2 dc2 pm2 an2 cd2 ct2), sl2⟩) (c2 : PySem.W.codeIn K cd2 "is_number" = true) (k2 : PySem.W.keepIn K (.ref f2) = true)
    {od3 an3 : Option Addr} {sl3 : Array (Option Value)} {oc3 kV3 dc3 pm3 cd3 ct3 : Value}
    (a3 : PySem.W.nsIn K mainGlobals "number_read" = some (some (.ref f3))) (l3 : K.lookup f3 = some ⟨oc3, od3, .func (PySem.W.fnOf "number_read" "number_read" (defArgs s_number_read) (defBody s_number_read) (defScope s_number_read) .none kV3 dc3 pm3 an3 cd3 ct3), sl3⟩) (c3 : PySem.W.codeIn K cd3 "number_read" = true) (k3 : PySem.W.keepIn K (.ref f3) = true)
    {od4 an4 : Option Addr} {sl4 : Array (Option Value)} {oc4 kV4 dc4 pm4 cd4 ct4 : Value}
    (a4 : PySem.W.nsIn K mainGlobals "long_part_read" = some (some (.ref f4))) (l4 : K.lookup f4 = some ⟨oc4, od4, .func (PySem.W.fnOf "long_part_read" "long_part_read" (defArgs s_long_part_read) (defBody s_long_part_read) (defScope s_long_part_read) .none kV4 dc4 pm4 an4 cd4 ct4), sl4⟩) (c4 : PySem.W.codeIn K cd4 "long_part_read" = true) (k4 : PySem.W.keepIn K (.ref f4) = true)
    {od5 an5 : Option Addr} {sl5 : Array (Option Value)} {oc5 kV5 dc5 pm5 cd5 ct5 : Value}
    (a5 : PySem.W.nsIn K mainGlobals "part_read" = some (some (.ref f5))) (l5 : K.lookup f5 = some ⟨oc5, od5, .func (PySem.W.fnOf "part_read" "part_read" (defArgs s_part_read) (defBody s_part_read) (defScope s_part_read) .none kV5 dc5 pm5 an5 cd5 ct5), sl5⟩) (c5 : PySem.W.codeIn K cd5 "part_read" = true) (k5 : PySem.W.keepIn K (.ref f5) = true)
    {od6 an6 : Option Addr} {sl6 : Array (Option Value)} {oc6 kV6 dc6 pm6 cd6 ct6 : Value}
    (a6 : PySem.W.nsIn K mainGlobals "_law_whole" = some (some (.ref f6))) (l6 : K.lookup f6 = some ⟨oc6, od6, .func (PySem.W.fnOf "_law_whole" "_law_whole" (defArgs s__law_whole) (defBody s__law_whole) (defScope s__law_whole) .none kV6 dc6 pm6 an6 cd6 ct6), sl6⟩) (c6 : PySem.W.codeIn K cd6 "_law_whole" = true) (k6 : PySem.W.keepIn K (.ref f6) = true)
    {od7 an7 : Option Addr} {sl7 : Array (Option Value)} {oc7 kV7 dc7 pm7 cd7 ct7 : Value}
    (a7 : PySem.W.nsIn K mainGlobals "_law_low" = some (some (.ref f7))) (l7 : K.lookup f7 = some ⟨oc7, od7, .func (PySem.W.fnOf "_law_low" "_law_low" (defArgs s__law_low) (defBody s__law_low) (defScope s__law_low) .none kV7 dc7 pm7 an7 cd7 ct7), sl7⟩) (c7 : PySem.W.codeIn K cd7 "_law_low" = true) (k7 : PySem.W.keepIn K (.ref f7) = true)
    {od8 an8 : Option Addr} {sl8 : Array (Option Value)} {oc8 kV8 dc8 pm8 cd8 ct8 : Value}
    (a8 : PySem.W.nsIn K mainGlobals "_law_part" = some (some (.ref f8))) (l8 : K.lookup f8 = some ⟨oc8, od8, .func (PySem.W.fnOf "_law_part" "_law_part" (defArgs s__law_part) (defBody s__law_part) (defScope s__law_part) .none kV8 dc8 pm8 an8 cd8 ct8), sl8⟩) (c8 : PySem.W.codeIn K cd8 "_law_part" = true) (k8 : PySem.W.keepIn K (.ref f8) = true)
    {od9 an9 : Option Addr} {sl9 : Array (Option Value)} {oc9 kV9 dc9 pm9 cd9 ct9 : Value}
    (a9 : PySem.W.nsIn K mainGlobals "_law_is" = some (some (.ref f9))) (l9 : K.lookup f9 = some ⟨oc9, od9, .func (PySem.W.fnOf "_law_is" "_law_is" (defArgs s__law_is) (defBody s__law_is) (defScope s__law_is) .none kV9 dc9 pm9 an9 cd9 ct9), sl9⟩) (c9 : PySem.W.codeIn K cd9 "_law_is" = true) (k9 : PySem.W.keepIn K (.ref f9) = true)
    {od10 an10 : Option Addr} {sl10 : Array (Option Value)} {oc10 kV10 dc10 pm10 cd10 ct10 : Value}
    (a10 : PySem.W.nsIn K mainGlobals "_law_any" = some (some (.ref f10))) (l10 : K.lookup f10 = some ⟨oc10, od10, .func (PySem.W.fnOf "_law_any" "_law_any" (defArgs s__law_any) (defBody s__law_any) (defScope s__law_any) .none kV10 dc10 pm10 an10 cd10 ct10), sl10⟩) (c10 : PySem.W.codeIn K cd10 "_law_any" = true) (k10 : PySem.W.keepIn K (.ref f10) = true)
    {od11 an11 : Option Addr} {sl11 : Array (Option Value)} {oc11 kV11 dc11 pm11 cd11 ct11 : Value}
    (a11 : PySem.W.nsIn K mainGlobals "_law_figures" = some (some (.ref f11))) (l11 : K.lookup f11 = some ⟨oc11, od11, .func (PySem.W.fnOf "_law_figures" "_law_figures" (defArgs s__law_figures) (defBody s__law_figures) (defScope s__law_figures) .none kV11 dc11 pm11 an11 cd11 ct11), sl11⟩) (c11 : PySem.W.codeIn K cd11 "_law_figures" = true) (k11 : PySem.W.keepIn K (.ref f11) = true)
    {od12 an12 : Option Addr} {sl12 : Array (Option Value)} {oc12 kV12 dc12 pm12 cd12 ct12 : Value}
    (a12 : PySem.W.nsIn K mainGlobals "_law_figs" = some (some (.ref f12))) (l12 : K.lookup f12 = some ⟨oc12, od12, .func (PySem.W.fnOf "_law_figs" "_law_figs" (defArgs s__law_figs) (defBody s__law_figs) (defScope s__law_figs) .none kV12 dc12 pm12 an12 cd12 ct12), sl12⟩) (c12 : PySem.W.codeIn K cd12 "_law_figs" = true) (k12 : PySem.W.keepIn K (.ref f12) = true)
    {od13 an13 : Option Addr} {sl13 : Array (Option Value)} {oc13 kV13 dc13 pm13 cd13 ct13 : Value}
    (a13 : PySem.W.nsIn K mainGlobals "_law_meant" = some (some (.ref f13))) (l13 : K.lookup f13 = some ⟨oc13, od13, .func (PySem.W.fnOf "_law_meant" "_law_meant" (defArgs s__law_meant) (defBody s__law_meant) (defScope s__law_meant) .none kV13 dc13 pm13 an13 cd13 ct13), sl13⟩) (c13 : PySem.W.codeIn K cd13 "_law_meant" = true) (k13 : PySem.W.keepIn K (.ref f13) = true)
    {od14 an14 : Option Addr} {sl14 : Array (Option Value)} {oc14 kV14 dc14 pm14 cd14 ct14 : Value}
    (a14 : PySem.W.nsIn K mainGlobals "_law_sign" = some (some (.ref f14))) (l14 : K.lookup f14 = some ⟨oc14, od14, .func (PySem.W.fnOf "_law_sign" "_law_sign" (defArgs s__law_sign) (defBody s__law_sign) (defScope s__law_sign) .none kV14 dc14 pm14 an14 cd14 ct14), sl14⟩) (c14 : PySem.W.codeIn K cd14 "_law_sign" = true) (k14 : PySem.W.keepIn K (.ref f14) = true)
    {od15 an15 : Option Addr} {sl15 : Array (Option Value)} {oc15 kV15 dc15 pm15 cd15 ct15 : Value}
    (a15 : PySem.W.nsIn K mainGlobals "_law_spoilt" = some (some (.ref f15))) (l15 : K.lookup f15 = some ⟨oc15, od15, .func (PySem.W.fnOf "_law_spoilt" "_law_spoilt" (defArgs s__law_spoilt) (defBody s__law_spoilt) (defScope s__law_spoilt) .none kV15 dc15 pm15 an15 cd15 ct15), sl15⟩) (c15 : PySem.W.codeIn K cd15 "_law_spoilt" = true) (k15 : PySem.W.keepIn K (.ref f15) = true)
    {od16 an16 : Option Addr} {sl16 : Array (Option Value)} {oc16 kV16 dc16 pm16 cd16 ct16 : Value}
    (a16 : PySem.W.nsIn K mainGlobals "_law_odd" = some (some (.ref f16))) (l16 : K.lookup f16 = some ⟨oc16, od16, .func (PySem.W.fnOf "_law_odd" "_law_odd" (defArgs s__law_odd) (defBody s__law_odd) (defScope s__law_odd) .none kV16 dc16 pm16 an16 cd16 ct16), sl16⟩) (c16 : PySem.W.codeIn K cd16 "_law_odd" = true) (k16 : PySem.W.keepIn K (.ref f16) = true)
    {od17 an17 : Option Addr} {sl17 : Array (Option Value)} {oc17 kV17 dc17 pm17 cd17 ct17 : Value}
    (a17 : PySem.W.nsIn K mainGlobals "_law_flow" = some (some (.ref f17))) (l17 : K.lookup f17 = some ⟨oc17, od17, .func (PySem.W.fnOf "_law_flow" "_law_flow" (defArgs s__law_flow) (defBody s__law_flow) (defScope s__law_flow) .none kV17 dc17 pm17 an17 cd17 ct17), sl17⟩) (c17 : PySem.W.codeIn K cd17 "_law_flow" = true) (k17 : PySem.W.keepIn K (.ref f17) = true)
    {od18 an18 : Option Addr} {sl18 : Array (Option Value)} {oc18 kV18 dc18 pm18 cd18 ct18 : Value}
    (a18 : PySem.W.nsIn K mainGlobals "law" = some (some (.ref f18))) (l18 : K.lookup f18 = some ⟨oc18, od18, .func (PySem.W.fnOf "law" "law" (defArgs s_law) (defBody s_law) (defScope s_law) .none kV18 dc18 pm18 an18 cd18 ct18), sl18⟩) (c18 : PySem.W.codeIn K cd18 "law" = true) (k18 : PySem.W.keepIn K (.ref f18) = true)
    {t_FIGURES : Tok} (c_FIGURES : PySem.W.nsIn K mainGlobals "FIGURES" = some (some (.str "0123456789" t_FIGURES)))
    {t_PIECE_FIGURES : Tok} (c_PIECE_FIGURES : PySem.W.nsIn K mainGlobals "PIECE_FIGURES" = some (some (.int 64 t_PIECE_FIGURES)))
    {t_PIECE : Tok} (c_PIECE : PySem.W.nsIn K mainGlobals "PIECE" = some (some (.int 10000000000000000000000000000000000000000000000000000000000000000 t_PIECE)))
    {t_MOST_FIGURES_READ : Tok} (c_MOST_FIGURES_READ : PySem.W.nsIn K mainGlobals "MOST_FIGURES_READ" = some (some (.int 400 t_MOST_FIGURES_READ)))
    (z_all : PySem.W.nsIn K mainGlobals "all" = some none)
    (z_len : PySem.W.nsIn K mainGlobals "len" = some none)
    (z_range : PySem.W.nsIn K mainGlobals "range" = some none)
    (z_int : PySem.W.nsIn K mainGlobals "int" = some none)
    (z_isinstance : PySem.W.nsIn K mainGlobals "isinstance" = some none)
    (z_bool : PySem.W.nsIn K mainGlobals "bool" = some none)
    (z_abs : PySem.W.nsIn K mainGlobals "abs" = some none)
    (z_tuple : PySem.W.nsIn K mainGlobals "tuple" = some none)
    (z_str : PySem.W.nsIn K mainGlobals "str" = some none)
    (z_ValueError : PySem.W.nsIn K mainGlobals "ValueError" = some none)
    {CB CD CS : Addr}
    (x_gB : PySem.W.nsIn K mainGlobals "BadPart" = some (some (.ref CB)))
    (x_gD : PySem.W.nsIn K mainGlobals "DitchError" = some (some (.ref CD)))
    (x_gS : PySem.W.nsIn K mainGlobals "BadSheet" = some (some (.ref CS)))
    (x_xx : PySem.W.excIn K CB [.type "ValueError", .type "Exception", .type "BaseException", .type "object"] "ValueError.__new__" = true)
    (x_k : PySem.W.keepIn K (.ref CB) = true)
    (x_b : PySem.W.subIn K (.ref CB) (.type "BaseException") = some true)
    (x_t : PySem.W.typeIn K (.ref CB) = some (.type "type"))
    (x_hg : PySem.W.findIn K (.ref CB) "__getattribute__" = some (some (.builtin "BaseException.__getattribute__")))
    (x_hk : PySem.W.findIn K (.ref CB) "__getattr__" = some none)
    (x_hd : PySem.W.hasDictIn K CB = true)
    (x_ha : PySem.W.findIn K (.ref CB) "__class__" = some (some (.builtin "object.__class__")))
    (x_hn : PySem.W.specialIn K (.builtin "object.__class__") "__get__" = some (some (.builtin "getset_descriptor.__get__")))
    (x_ht : PySem.W.takesIn K (.builtin "object.__class__") = some true)
    (x_hm : PySem.W.mroIn K CB (.type "object") = some true)
    (x_exm : PySem.W.exmOne K (.ref CB) (.ref CD) = some true)
    (x_kit1 : PySem.W.kitOne K (.ref CB) (.ref CB) = some true)
    (x_kit2 : PySem.W.kitOne K (.ref CB) (.type "ValueError") = some true)
    (x_kit3 : PySem.W.kitOne K (.ref CB) (.ref CS) = some false)
    : ∃ fd : FuncData, (∀ (s : Shared) (v : Value), BindsTo s fd ⟨[v], []⟩ [("_law_script", v)]) ∧ ∀ base : Heap, K.In base → base.Ns mainGlobals mg → FnOk l.prog w K mg base CX0 7 fa fd ["_law_script"] (sp_law K) := by
  have e := hfa.symm.trans (PySem.W.mg_of X G a18)
  cases e
  have F0 := fun_mk (st := s_common) l0 c0 k0
  have D_common : Df K mg "common" s_common ["a", "b"] := ⟨f0, _, F0, F0.binds (ps := ["a", "b"]) fun _ _ _ _ _ _ us hl => match us, hl with | [_, _], _ => rfl, PySem.W.mg_of X G a0⟩
  have F1 := fun_mk (st := s_lowest) l1 c1 k1
  have D_lowest : Df K mg "lowest" s_lowest ["top", "bottom"] := ⟨f1, _, F1, F1.binds (ps := ["top", "bottom"]) fun _ _ _ _ _ _ us hl => match us, hl with | [_, _], _ => rfl, PySem.W.mg_of X G a1⟩
  have F2 := fun_mk (st := s_is_number) l2 c2 k2
  have D_is_number : Df K mg "is_number" s_is_number ["text"] := ⟨f2, _, F2, F2.binds (ps := ["text"]) fun _ _ _ _ _ _ us hl => match us, hl with | [_], _ => rfl, PySem.W.mg_of X G a2⟩
  have F3 := fun_mk (st := s_number_read) l3 c3 k3
  have D_number_read : Df K mg "number_read" s_number_read ["figures"] := ⟨f3, _, F3, F3.binds (ps := ["figures"]) fun _ _ _ _ _ _ us hl => match us, hl with | [_], _ => rfl, PySem.W.mg_of X G a3⟩
  have F4 := fun_mk (st := s_long_part_read) l4 c4 k4
  have D_long_part_read : Df K mg "long_part_read" s_long_part_read ["text"] := ⟨f4, _, F4, F4.binds (ps := ["text"]) fun _ _ _ _ _ _ us hl => match us, hl with | [_], _ => rfl, PySem.W.mg_of X G a4⟩
  have F5 := fun_mk (st := s_part_read) l5 c5 k5
  have D_part_read : Df K mg "part_read" s_part_read ["text"] := ⟨f5, _, F5, F5.binds (ps := ["text"]) fun _ _ _ _ _ _ us hl => match us, hl with | [_], _ => rfl, PySem.W.mg_of X G a5⟩
  have F6 := fun_mk (st := s__law_whole) l6 c6 k6
  have D__law_whole : Df K mg "_law_whole" s__law_whole ["_law_found"] := ⟨f6, _, F6, F6.binds (ps := ["_law_found"]) fun _ _ _ _ _ _ us hl => match us, hl with | [_], _ => rfl, PySem.W.mg_of X G a6⟩
  have F7 := fun_mk (st := s__law_low) l7 c7 k7
  have D__law_low : Df K mg "_law_low" s__law_low ["_law_top", "_law_bottom"] := ⟨f7, _, F7, F7.binds (ps := ["_law_top", "_law_bottom"]) fun _ _ _ _ _ _ us hl => match us, hl with | [_, _], _ => rfl, PySem.W.mg_of X G a7⟩
  have F8 := fun_mk (st := s__law_part) l8 c8 k8
  have D__law_part : Df K mg "_law_part" s__law_part ["_law_found"] := ⟨f8, _, F8, F8.binds (ps := ["_law_found"]) fun _ _ _ _ _ _ us hl => match us, hl with | [_], _ => rfl, PySem.W.mg_of X G a8⟩
  have F9 := fun_mk (st := s__law_is) l9 c9 k9
  have D__law_is : Df K mg "_law_is" s__law_is ["_law_found", "_law_due"] := ⟨f9, _, F9, F9.binds (ps := ["_law_found", "_law_due"]) fun _ _ _ _ _ _ us hl => match us, hl with | [_, _], _ => rfl, PySem.W.mg_of X G a9⟩
  have F10 := fun_mk (st := s__law_any) l10 c10 k10
  have D__law_any : Df K mg "_law_any" s__law_any ["_law_one", "_law_two"] := ⟨f10, _, F10, F10.binds (ps := ["_law_one", "_law_two"]) fun _ _ _ _ _ _ us hl => match us, hl with | [_, _], _ => rfl, PySem.W.mg_of X G a10⟩
  have F11 := fun_mk (st := s__law_figures) l11 c11 k11
  have D__law_figures : Df K mg "_law_figures" s__law_figures ["_law_one", "_law_two"] := ⟨f11, _, F11, F11.binds (ps := ["_law_one", "_law_two"]) fun _ _ _ _ _ _ us hl => match us, hl with | [_, _], _ => rfl, PySem.W.mg_of X G a11⟩
  have F12 := fun_mk (st := s__law_figs) l12 c12 k12
  have D__law_figs : Df K mg "_law_figs" s__law_figs ["_law_word"] := ⟨f12, _, F12, F12.binds (ps := ["_law_word"]) fun _ _ _ _ _ _ us hl => match us, hl with | [_], _ => rfl, PySem.W.mg_of X G a12⟩
  have F13 := fun_mk (st := s__law_meant) l13 c13 k13
  have D__law_meant : Df K mg "_law_meant" s__law_meant ["_law_text"] := ⟨f13, _, F13, F13.binds (ps := ["_law_text"]) fun _ _ _ _ _ _ us hl => match us, hl with | [_], _ => rfl, PySem.W.mg_of X G a13⟩
  have F14 := fun_mk (st := s__law_sign) l14 c14 k14
  have D__law_sign : Df K mg "_law_sign" s__law_sign ["_law_one"] := ⟨f14, _, F14, F14.binds (ps := ["_law_one"]) fun _ _ _ _ _ _ us hl => match us, hl with | [_], _ => rfl, PySem.W.mg_of X G a14⟩
  have F15 := fun_mk (st := s__law_spoilt) l15 c15 k15
  have D__law_spoilt : Df K mg "_law_spoilt" s__law_spoilt ["_law_text", "_law_one", "_law_two"] := ⟨f15, _, F15, F15.binds (ps := ["_law_text", "_law_one", "_law_two"]) fun _ _ _ _ _ _ us hl => match us, hl with | [_, _, _], _ => rfl, PySem.W.mg_of X G a15⟩
  have F16 := fun_mk (st := s__law_odd) l16 c16 k16
  have D__law_odd : Df K mg "_law_odd" s__law_odd ["_law_one"] := ⟨f16, _, F16, F16.binds (ps := ["_law_one"]) fun _ _ _ _ _ _ us hl => match us, hl with | [_], _ => rfl, PySem.W.mg_of X G a16⟩
  have F17 := fun_mk (st := s__law_flow) l17 c17 k17
  have D__law_flow : Df K mg "_law_flow" s__law_flow ["_law_script", "_law_many"] := ⟨f17, _, F17, F17.binds (ps := ["_law_script", "_law_many"]) fun _ _ _ _ _ _ us hl => match us, hl with | [_, _], _ => rfl, PySem.W.mg_of X G a17⟩
  have F18 := fun_mk (st := s_law) l18 c18 k18
  have m_FIGURES := PySem.W.mg_of X G c_FIGURES
  have m_PIECE_FIGURES := PySem.W.mg_of X G c_PIECE_FIGURES
  have m_PIECE := PySem.W.mg_of X G c_PIECE
  have m_MOST_FIGURES_READ := PySem.W.mg_of X G c_MOST_FIGURES_READ
  have m_all := PySem.W.mg_none_of X G z_all
  have m_len := PySem.W.mg_none_of X G z_len
  have m_range := PySem.W.mg_none_of X G z_range
  have m_int := PySem.W.mg_none_of X G z_int
  have m_isinstance := PySem.W.mg_none_of X G z_isinstance
  have m_bool := PySem.W.mg_none_of X G z_bool
  have m_abs := PySem.W.mg_none_of X G z_abs
  have m_tuple := PySem.W.mg_none_of X G z_tuple
  have m_str := PySem.W.mg_none_of X G z_str
  have m_ValueError := PySem.W.mg_none_of X G z_ValueError
  have T_BadPart : ExcT K mg "BadPart" CB := ⟨PySem.W.mg_of X G x_gB, x_xx, x_k, x_b, x_t⟩
  have T_exc : ExcC K CB := ⟨x_hg, x_hk, x_b, x_hd, x_ha, x_hn, x_ht, x_hm⟩
  have g_DitchError := PySem.W.mg_of X G x_gD
  have g_BadSheet := PySem.W.mg_of X G x_gS
  have e_exm := x_exm
  have e_kit1 := x_kit1
  have e_kit2 := x_kit2
  have e_kit3 := x_kit3
  exact ⟨_, fun s v => .of_eq rfl, fun base _ _ => ok_law (P := l.prog) (w := w) (base := base) (⟨_, _, F18, F18.binds (ps := ["_law_script"]) fun _ _ _ _ _ _ us hl => match us, hl with | [_], _ => rfl, PySem.W.mg_of X G a18⟩) D_common D_lowest D_is_number D_number_read D_long_part_read D_part_read D__law_flow D__law_whole D__law_low D__law_part D__law_is D__law_any D__law_figures D__law_figs D__law_meant D__law_sign D__law_spoilt D__law_odd T_BadPart T_exc g_DitchError g_BadSheet e_exm e_kit1 e_kit2 e_kit3 m_PIECE m_PIECE_FIGURES m_MOST_FIGURES_READ m_FIGURES m_abs m_len m_range m_isinstance m_int m_bool m_tuple m_str m_all m_ValueError⟩
end DT
open PySem PySem.W PyProof.Rows
set_option maxHeartbeats 0 in
theorem PySem.Challenge.cw_ditchturn_k05_whole_parts_read_holds : PySem.Challenge.rw_ditchturn_k05_whole_parts_read.Holds := by
  w_on; o_law; k_head; (case hw => w_witness2)
  k_fill
  refine L2.walk_of (l := PySem.Challenge.rw_ditchturn_k05_whole_parts_read) (n := 63) (k := 7) (x := "_law_script") (CX := fun _ => L2.CX0) (sp := fun w => DT.sp_law _) rfl (by decide) rfl ⟨rfl, by decide, by decide⟩ (fun w h Y => PySem.W.kIn_of Y) ?F (fun _ _ a ns hl _ hS => ⟨a, ns, rfl, hS, hl, fun _ => rfl⟩) (fun _ _ _ _ _ h => h)
  case F =>
    intro w mg fa h KX G hmg
    refine' DT.all_mk KX G hmg ?a0 ?l0 ?c0 ?k0 ?a1 ?l1 ?c1 ?k1 ?a2 ?l2 ?c2 ?k2 ?a3 ?l3 ?c3 ?k3 ?a4 ?l4 ?c4 ?k4 ?a5 ?l5 ?c5 ?k5 ?a6 ?l6 ?c6 ?k6 ?a7 ?l7 ?c7 ?k7 ?a8 ?l8 ?c8 ?k8 ?a9 ?l9 ?c9 ?k9 ?a10 ?l10 ?c10 ?k10 ?a11 ?l11 ?c11 ?k11 ?a12 ?l12 ?c12 ?k12 ?a13 ?l13 ?c13 ?k13 ?a14 ?l14 ?c14 ?k14 ?a15 ?l15 ?c15 ?k15 ?a16 ?l16 ?c16 ?k16 ?a17 ?l17 ?c17 ?k17 ?a18 ?l18 ?c18 ?k18 ?c_FIGURES ?c_PIECE_FIGURES ?c_PIECE ?c_MOST_FIGURES_READ ?z_all ?z_len ?z_range ?z_int ?z_isinstance ?z_bool ?z_abs ?z_tuple ?z_str ?z_ValueError ?x_gB ?x_gD ?x_gS ?x_xx ?x_k ?x_b ?x_t ?x_hg ?x_hk ?x_hd ?x_ha ?x_hn ?x_ht ?x_hm ?x_exm ?x_kit1 ?x_kit2 ?x_kit3
    (case a0 => k_is); (case l0 => k_is); (case c0 => k_is); (case k0 => k_is); (case a1 => k_is); (case l1 => k_is); (case c1 => k_is); (case k1 => k_is); (case a2 => k_is); (case l2 => k_is); (case c2 => k_is); (case k2 => k_is); (case a3 => k_is); (case l3 => k_is); (case c3 => k_is); (case k3 => k_is); (case a4 => k_is); (case l4 => k_is); (case c4 => k_is); (case k4 => k_is); (case a5 => k_is); (case l5 => k_is); (case c5 => k_is); (case k5 => k_is); (case a6 => k_is); (case l6 => k_is); (case c6 => k_is); (case k6 => k_is); (case a7 => k_is); (case l7 => k_is); (case c7 => k_is); (case k7 => k_is); (case a8 => k_is); (case l8 => k_is); (case c8 => k_is); (case k8 => k_is); (case a9 => k_is); (case l9 => k_is); (case c9 => k_is); (case k9 => k_is); (case a10 => k_is); (case l10 => k_is); (case c10 => k_is); (case k10 => k_is); (case a11 => k_is); (case l11 => k_is); (case c11 => k_is); (case k11 => k_is); (case a12 => k_is); (case l12 => k_is); (case c12 => k_is); (case k12 => k_is); (case a13 => k_is); (case l13 => k_is); (case c13 => k_is); (case k13 => k_is); (case a14 => k_is); (case l14 => k_is); (case c14 => k_is); (case k14 => k_is); (case a15 => k_is); (case l15 => k_is); (case c15 => k_is); (case k15 => k_is); (case a16 => k_is); (case l16 => k_is); (case c16 => k_is); (case k16 => k_is); (case a17 => k_is); (case l17 => k_is); (case c17 => k_is); (case k17 => k_is); (case a18 => k_is); (case l18 => k_is); (case c18 => k_is); (case k18 => k_is); (case c_FIGURES => k_is); (case c_PIECE_FIGURES => k_is); (case c_PIECE => k_is); (case c_MOST_FIGURES_READ => k_is); (case z_all => k_is); (case z_len => k_is); (case z_range => k_is); (case z_int => k_is); (case z_isinstance => k_is); (case z_bool => k_is); (case z_abs => k_is); (case z_tuple => k_is); (case z_str => k_is); (case z_ValueError => k_is); (case x_gB => k_is); (case x_gD => k_is); (case x_gS => k_is); (case x_xx => k_exc); (case x_k => k_is); (case x_b => k_is); (case x_t => k_is); (case x_hg => k_is); (case x_hk => k_is); (case x_hd => k_is); (case x_ha => k_is); (case x_hn => k_is); (case x_ht => k_is); (case x_hm => k_is); (case x_exm => first | k_is | rfl); (case x_kit1 => first | k_is | rfl); (case x_kit2 => first | k_is | rfl); (case x_kit3 => first | k_is | rfl)
