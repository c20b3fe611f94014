import PyProof.Rows.All
import Wide.All
import OpenK.AllK
import Wide.FinOn
import HandS.ForMost
import HandS.Wide
import HandS.IsInst
import HandS.Walk
import HandS.Codes
import HandS.Iter
import HandS.More
import PySem.Challenge.RW_ditchturn_k17_whole_foe_wins
set_option Elab.async false
set_option linter.all false
set_option maxRecDepth 100000
set_option maxHeartbeats 4000000
namespace DT
/-! ### numbers: gcd, lowest terms -/
def gc (a b : Int) : Int := (Int.gcd a b : Int)
structure Low (a b : Int) : Prop where
  pos : 0 < b
  cop : Int.gcd a b = 1
theorem gc_pos {a b : Int} (h : 0 < b) : 0 < gc a b := by
  have : Int.gcd a b ≠ 0 := by
    intro e
    have := (Int.gcd_eq_zero_iff).1 e
    omega
  unfold gc
  omega
theorem gc_dl (a b : Int) : gc a b ∣ a := Int.gcd_dvd_left a b
theorem gc_dr (a b : Int) : gc a b ∣ b := Int.gcd_dvd_right a b
theorem gc_le {a b : Int} (h : 0 < b) : gc a b ≤ b := Int.le_of_dvd h (gc_dr a b)
theorem gc_step {a b : Int} : Int.gcd b (a % b) = Int.gcd a b := by
  rw [Int.emod_def, Int.gcd_comm a b]
  have := Int.gcd_add_mul_right_right b a (-(a / b))
  rw [← this]
  congr 1
  rw [Int.neg_mul, Int.mul_comm (a / b) b]
  omega
theorem gc_abs (a b : Int) : Int.gcd (if a < 0 then -a else a) b = Int.gcd a b := by
  split
  · exact Int.neg_gcd
  · rfl
theorem div_pos' {b g : Int} (hb : 0 < b) (hg : 0 < g) (hd : g ∣ b) : 0 < b / g := by
  obtain ⟨q, rfl⟩ := hd
  rw [Int.mul_ediv_cancel_left q (by omega)]
  exact Int.pos_of_mul_pos_right hb (by omega)
theorem low_div {a b : Int} (h : 0 < b) : Low (a / gc a b) (b / gc a b) := by
  have hg := gc_pos (a := a) h
  refine ⟨div_pos' h hg (gc_dr a b), ?_⟩
  have hn : 0 < Int.gcd a b := by
    have := hg
    unfold gc at this
    omega
  have e := Int.gcd_mul_left (gc a b) (a / gc a b) (b / gc a b)
  rw [Int.mul_ediv_cancel' (gc_dl a b), Int.mul_ediv_cancel' (gc_dr a b)] at e
  have e2 : (gc a b).natAbs = Int.gcd a b := by unfold gc; omega
  rw [e2] at e
  have : Int.gcd a b * 1 = Int.gcd a b * Int.gcd (a / gc a b) (b / gc a b) := by rw [← e, Nat.mul_one]
  exact (Nat.eq_of_mul_eq_mul_left hn this).symm
theorem low_cross (a b : Int) : (a / gc a b) * b = (b / gc a b) * a := by
  obtain ⟨p, hp⟩ := gc_dl a b
  obtain ⟨q, hq⟩ := gc_dr a b
  by_cases h0 : gc a b = 0
  · rw [h0] at hp hq
    rw [show a = 0 by omega, show b = 0 by omega]
  · have e1 : a / gc a b = p := Int.ediv_eq_of_eq_mul_right h0 hp
    have e2 : b / gc a b = q := Int.ediv_eq_of_eq_mul_right h0 hq
    rw [e1, e2]
    calc p * b = p * (gc a b * q) := by rw [← hq]
      _ = q * (gc a b * p) := by rw [Int.mul_left_comm, Int.mul_comm p q, Int.mul_left_comm q]
      _ = q * a := by rw [← hp]
theorem low_self {a b : Int} (h : Low a b) : a / gc a b = a ∧ b / gc a b = b := by
  have : gc a b = 1 := by unfold gc; rw [h.cop]; rfl
  rw [this, Int.ediv_one, Int.ediv_one]
  exact ⟨rfl, rfl⟩
theorem low_uniq {a b c d : Int} (h : Low a b) (k : Low c d) (e : a * d = c * b) : a = c ∧ b = d := by
  have h1 : b.natAbs ∣ d.natAbs := by
    have c1 : Nat.Coprime b.natAbs a.natAbs := by
      have := h.cop
      rw [Int.gcd_comm] at this
      exact this
    refine c1.dvd_of_dvd_mul_left (m := a.natAbs) (n := d.natAbs) ?_
    rw [← Int.natAbs_mul, e, Int.natAbs_mul]
    exact Nat.dvd_mul_left _ _
  have h2 : d.natAbs ∣ b.natAbs := by
    have c1 : Nat.Coprime d.natAbs c.natAbs := by
      have := k.cop
      rw [Int.gcd_comm] at this
      exact this
    refine c1.dvd_of_dvd_mul_left (m := c.natAbs) (n := b.natAbs) ?_
    rw [← Int.natAbs_mul, ← e, Int.natAbs_mul]
    exact Nat.dvd_mul_left _ _
  have hb := h.pos
  have hd := k.pos
  have e1 : b.natAbs = d.natAbs := Nat.dvd_antisymm h1 h2
  have e2 : b = d := by omega
  subst e2
  exact ⟨Int.eq_of_mul_eq_mul_right (by omega) e, rfl⟩
/-- the low form of a pair is told by any low pair worth the same -/
theorem low_is {a b c d : Int} (hd : 0 < d) (h : Low a b) (e : a * d = c * b) : a = c / gc c d ∧ b = d / gc c d := by
  refine low_uniq h (low_div hd) ?_
  obtain ⟨p, hp⟩ := gc_dl c d
  obtain ⟨q, hq⟩ := gc_dr c d
  have hg := gc_pos (a := c) hd
  have e1 : c / gc c d = p := Int.ediv_eq_of_eq_mul_right (by omega) hp
  have e2 : d / gc c d = q := Int.ediv_eq_of_eq_mul_right (by omega) hq
  rw [e1, e2]
  have e3 : gc c d * (a * q) = gc c d * (p * b) := by
    calc gc c d * (a * q) = a * (gc c d * q) := by rw [Int.mul_left_comm]
      _ = a * d := by rw [← hq]
      _ = c * b := e
      _ = gc c d * p * b := by rw [← hp]
      _ = gc c d * (p * b) := by rw [Int.mul_assoc]
  exact Int.eq_of_mul_eq_mul_left (by omega) e3
/-! ### the sum by crossing over what the bottoms share -/
theorem plus_low {a b c d : Int} (h : Low a b) (k : Low c d) :
    let s := gc b d
    let r := b / s
    let t := a * (d / s) + c * r
    let g := gc t s
    Low (t / g) (r * (d / g)) ∧ (t / g) * (b * d) = (a * d + c * b) * (r * (d / g)) := by
  intro s r t g
  have hb := h.pos
  have hd := k.pos
  have hs : 0 < s := gc_pos hd
  have hg : 0 < g := gc_pos hs
  obtain ⟨p, hp⟩ : s ∣ b := gc_dl b d
  obtain ⟨q, hq⟩ : s ∣ d := gc_dr b d
  have er : r = p := Int.ediv_eq_of_eq_mul_right (by omega) hp
  have eq : d / s = q := Int.ediv_eq_of_eq_mul_right (by omega) hq
  obtain ⟨u, hu⟩ : g ∣ t := gc_dl t s
  obtain ⟨v, hv⟩ : g ∣ s := gc_dr t s
  have eu : t / g = u := Int.ediv_eq_of_eq_mul_right (by omega) hu
  have ht : t = a * q + c * p := by
    show a * (d / s) + c * r = _
    rw [eq, er]
  have hgd : d = g * (v * q) := by rw [hq, ← Int.mul_assoc, ← hv]
  have ed : d / g = v * q := Int.ediv_eq_of_eq_mul_right (by omega) hgd
  have hp0 : 0 < p := Int.pos_of_mul_pos_right (hp ▸ hb) (by omega)
  have hq0 : 0 < q := Int.pos_of_mul_pos_right (hq ▸ hd) (by omega)
  have hv0 : 0 < v := Int.pos_of_mul_pos_right (hv ▸ hs) (by omega)
  rw [eu, er, ed]
  have cpq : Int.gcd p q = 1 := by
    have := (low_div (a := b) hd).cop
    rw [show b / gc b d = p from er, show d / gc b d = q from eq] at this
    exact this
  have cap : Nat.Coprime a.natAbs p.natAbs := by
    have c0 : Nat.Coprime a.natAbs b.natAbs := h.cop
    refine Nat.Coprime.coprime_dvd_right ?_ c0
    rw [hp, Int.natAbs_mul]
    exact Nat.dvd_mul_left _ _
  have ccq : Nat.Coprime c.natAbs q.natAbs := by
    have c0 : Nat.Coprime c.natAbs d.natAbs := k.cop
    refine Nat.Coprime.coprime_dvd_right ?_ c0
    rw [hq, Int.natAbs_mul]
    exact Nat.dvd_mul_left _ _
  have cqp : Nat.Coprime q.natAbs p.natAbs := by
    rw [Int.gcd_comm] at cpq
    exact cpq
  have ctp : Int.gcd t p = 1 := by
    rw [ht, Int.mul_comm c p, Int.gcd_add_mul_left_left]
    show Nat.Coprime (a * q).natAbs p.natAbs
    rw [Int.natAbs_mul]
    exact Nat.Coprime.mul_left cap cqp
  have ctq : Int.gcd t q = 1 := by
    rw [ht, Int.add_comm, Int.mul_comm a q, Int.gcd_add_mul_left_left]
    show Nat.Coprime (c * p).natAbs q.natAbs
    rw [Int.natAbs_mul]
    exact Nat.Coprime.mul_left ccq cpq
  have cuv : Int.gcd u v = 1 := by
    have := (low_div (a := t) hs).cop
    rw [show t / gc t s = u from eu, show s / gc t s = v from Int.ediv_eq_of_eq_mul_right (by omega) hv] at this
    exact this
  have ut : u.natAbs ∣ t.natAbs := by
    rw [hu, Int.natAbs_mul]
    exact Nat.dvd_mul_left _ _
  have cup : Nat.Coprime u.natAbs p.natAbs := Nat.Coprime.coprime_dvd_left ut ctp
  have cuq : Nat.Coprime u.natAbs q.natAbs := Nat.Coprime.coprime_dvd_left ut ctq
  refine ⟨⟨Int.mul_pos hp0 (Int.mul_pos hv0 hq0), ?_⟩, ?_⟩
  · show Nat.Coprime u.natAbs (p * (v * q)).natAbs
    rw [Int.natAbs_mul, Int.natAbs_mul]
    exact Nat.Coprime.mul_right cup (Nat.Coprime.mul_right cuv cuq)
  · have e1 : a * d + c * b = s * t := by
      rw [ht, Int.mul_add, ← Int.mul_assoc, ← Int.mul_assoc, Int.mul_comm s a, Int.mul_comm s c, Int.mul_assoc, Int.mul_assoc, ← hq, ← hp]
    rw [e1]
    calc u * (b * d) = u * ((s * p) * (g * (v * q))) := by rw [← hp, ← hgd]
      _ = s * (g * u) * (p * (v * q)) := by
        simp only [Int.mul_assoc, Int.mul_comm, Int.mul_left_comm]
      _ = s * t * (p * (v * q)) := by rw [← hu]
/-- the sum as the program reckons it is the low form of the sum by crossing -/
theorem plus_is {a b c d : Int} (h : Low a b) (k : Low c d) :
    let s := gc b d
    let r := b / s
    let t := a * (d / s) + c * r
    let g := gc t s
    t / g = (a * d + c * b) / gc (a * d + c * b) (b * d) ∧ r * (d / g) = (b * d) / gc (a * d + c * b) (b * d) := by
  intro s r t g
  obtain ⟨h1, h2⟩ := plus_low h k
  exact low_is (Int.mul_pos h.pos k.pos) h1 h2
end DT

namespace DT
open PySem PySem.Spec PyProof.Rows L2
/-! ### heaps that only grow; pairs of ints -/
theorem same_upd {H : Hp} {p : Addr} {o : HO} (h : H p = none) : Same H (upd H p o) := fun b x e => by
  rw [upd_ne (ne_of_none e h)]
  exact e
theorem same_seqT {K : PySem.W.Frag} {H H' : Hp} {a : Addr} {xs : List V} (e : Same H H') (h : SqT K H a xs) : SqT K H' a xs := by
  rcases h with h | h
  · rcases h with h | ⟨o, h⟩
    · exact .inl (.inl (e _ _ h))
    · exact .inl (.inr ⟨o, e _ _ h⟩)
  · exact .inr h
/-- v is a tuple of the ints a and b -/
def Pr (K : PySem.W.Frag) (H : Hp) (v : V) (a b : Int) : Prop := ∃ p, v = .ref p ∧ SqT K H p [.int a, .int b]
theorem Pr.same {K : PySem.W.Frag} {H H' : Hp} {v : V} {a b : Int} (h : Pr K H v a b) (e : Same H H') : Pr K H' v a b := by
  obtain ⟨p, r, q⟩ := h
  exact ⟨p, r, same_seqT e q⟩
theorem Pr.new {K : PySem.W.Frag} {H : Hp} {p : Addr} {a b : Int} : Pr K (upd H p (.tup [.int a, .int b])) (.ref p) a b := ⟨p, rfl, SqT.of upd_same⟩
theorem sqT_ty {K : PySem.W.Frag} {H : Hp} {a : Addr} {xs : List V} (h : SqT K H a xs) : TyX K H (.ref a) (.type "tuple") := by
  rcases h with (h | ⟨o, h⟩) | ⟨o, its, n, h, c, _⟩
  · exact .base (.tup h)
  · exact .fTuple h
  · exact .kTuple h c
theorem Pr.dp {K : PySem.W.Frag} {H : Hp} {v : V} {a b : Int} (h : Pr K H v a b) : Dp K H v (.tuple [.int a, .int b]) := by
  obtain ⟨p, rfl, q⟩ := h
  exact .tup q (.cons (.int a) (.cons (.int b) .nil))
/-- v is a new list of the ints rs -/
def Ls (H : Hp) (v : V) (rs : List Int) : Prop := ∃ p, v = .ref p ∧ H p = some (.lst (rs.map V.int))
theorem Ls.same {H H' : Hp} {v : V} {rs : List Int} (h : Ls H v rs) (e : Same H H') : Ls H' v rs := by
  obtain ⟨p, r, q⟩ := h
  exact ⟨p, r, e _ _ q⟩
theorem ls_at {rs : List Int} {j : Nat} (h : j < rs.length) : atI (rs.map V.int) (j : Int) = some (.int (rs.getD j 0)) := by
  refine atI_nat ?_
  rw [List.getElem?_map, List.getElem?_eq_getElem h]
  simp [List.getD, List.getElem?_eq_getElem h]
/-! ### sizes -/
def Bd (n : Nat) (x : Int) : Prop := x.natAbs < 2 ^ n
theorem Bd.mono {n m : Nat} {x : Int} (h : Bd n x) (e : n ≤ m) : Bd m x := Nat.lt_of_lt_of_le h (Nat.pow_le_pow_right (by decide) e)
theorem Bd.mul {n m : Nat} {x y : Int} (h : Bd n x) (k : Bd m y) : Bd (n + m) (x * y) := wide_lt h k
theorem Bd.add {n : Nat} {x y : Int} (h : Bd n x) (k : Bd n y) : Bd (n + 1) (x + y) := by
  unfold Bd at *
  have : (x + y).natAbs ≤ x.natAbs + y.natAbs := Int.natAbs_add_le x y
  rw [Nat.pow_succ]
  omega
theorem Bd.neg {n : Nat} {x : Int} (h : Bd n x) : Bd n (-x) := by
  unfold Bd at *
  omega
theorem Bd.dvd {n : Nat} {x y : Int} (h : Bd n x) (e : y ∣ x) (hx : x ≠ 0) : Bd n y :=
  Nat.lt_of_le_of_lt (Nat.le_of_dvd (by omega) (Int.natAbs_dvd_natAbs.2 e)) h
theorem Bd.div {n : Nat} {x y : Int} (h : Bd n x) (e : y ∣ x) : Bd n (x / y) := by
  unfold Bd at *
  rw [Int.natAbs_ediv_of_dvd e]
  exact Nat.lt_of_le_of_lt (Nat.div_le_self _ _) h
theorem Bd.gc {n : Nat} {x y : Int} (h : Bd n y) (hy : 0 < y) : Bd n (gc x y) := h.dvd (gc_dr x y) (by omega)
theorem Bd.of {n : Nat} {x m : Int} (h1 : -m < x) (h2 : x < m) (e : m.natAbs ≤ 2 ^ n) : Bd n x := by
  unfold Bd
  omega
theorem bd_mulok {n m : Nat} {x y : Int} (h : Bd n x) (k : Bd m y) (e : n + m ≤ 900000) : CMulW x y :=
  wide_mul (a := n + 1) (b := m + 1) (h.mono (by omega)) (k.mono (by omega)) (by omega) (by omega) (by omega)
theorem bd_divok {n : Nat} {x y : Int} (hy : 0 < y) (k : Bd n y) (e : n ≤ 8900) : CDivW x y := wide_div (b := n + 1) hy (k.mono (by omega)) (by omega) (by omega)
/-- a def of the text: where it stands, how it binds, what the module's name holds -/
structure Df (K : PySem.W.Frag) (mg : Str → Option Value) (x : Str) (st : Stmt) (ps : List Str) where
  f : Addr
  fd : FuncData
  F : Fun K x x st f fd
  b : Binds K fd ps []
  g : mg x = some (.ref f)
end DT
namespace DT
open PySem PySem.Spec PyProof.Rows L2
theorem ls_z {rs : List Int} {z : Int} (j : Nat) (e : z = (j : Int)) (h : j < rs.length) : atI (rs.map V.int) z = some (.int (rs.getD j 0)) := by
  rw [e]
  exact ls_at h
theorem getD_in {rs : List Int} {j : Nat} (h : j < rs.length) : rs.getD j 0 ∈ rs := by
  simp [List.getD, List.getElem?_eq_getElem h]
theorem eqv_pr (a b : Int) : PyData.eqv (.tuple [.int a, .int b]) (.tuple [.int a, .int b]) = true := by
  simp [PyData.eqv, PyData.eqvAll]
theorem shp_pr (a b : Int) : SeqAt.shaped (.tuple [.int a, .int b]) = true := by
  rfl
/-- the promise of a law: True for every script -/
def sp_law (K : PySem.W.Frag) : Sp := fun vs H Q _ => ∃ (a : Addr) (ns : List Int), vs = [.ref a] ∧ SqL K H a (ns.map V.int) ∧ ns.length ≤ 63 ∧ ∀ H', Q (.bl true) H'
end DT
namespace DT
theorem Bd.ediv {n : Nat} {x y : Int} (h : Bd n x) : Bd n (x / y) := Nat.lt_of_le_of_lt (Int.natAbs_ediv_le_natAbs x y) h
theorem Bd.emod {n : Nat} {x y : Int} (hy : 0 < y) (h : Bd n y) : Bd n (x % y) := by
  unfold Bd at *
  have := Int.emod_nonneg x (show y ≠ 0 by omega)
  have := Int.emod_lt_of_pos x hy
  omega
end DT
namespace DT
open PySem PySem.Spec PyProof.Rows L2
/-- a store at an address that was free to begin with -/
theorem same_at {H H1 : Hp} {p : Addr} {o : HO} (hp : H p = none) (sm : Same H H1) : Same H (upd H1 p o) := fun b x e => by
  rw [upd_ne (ne_of_none e hp)]
  exact sm _ _ e
end DT

namespace DT
open PySem PySem.Spec PyProof.Rows L2
def sp_lowest (K : PySem.W.Frag) : Sp := fun vs H Q _ => ∃ t b : Int, vs = [.int t, .int b] ∧ 0 < b ∧ Bd 8900 b ∧ ∀ H' v, Same H H' → Pr K H' v (t / gc t b) (b / gc t b) → Q v H'
end DT

namespace DT
open PySem PySem.Spec PyProof.Rows L2
/-! ### pairs and their reckoning, as the law does it -/
abbrev Q2 := Int × Int
def lowP (t b : Int) : Q2 := (t / gc t b, b / gc t b)
def addP (x y : Q2) : Q2 := lowP (x.1 * y.2 + y.1 * x.2) (x.2 * y.2)
def subP (x y : Q2) : Q2 := lowP (x.1 * y.2 - y.1 * x.2) (x.2 * y.2)
def mulP (x y : Q2) : Q2 := lowP (x.1 * y.1) (x.2 * y.2)
def Pp (K : PySem.W.Frag) (H : Hp) (v : V) (x : Q2) : Prop := Pr K H v x.1 x.2
theorem Pp.same {K : PySem.W.Frag} {H H' : Hp} {v : V} {x : Q2} (h : Pp K H v x) (e : Same H H') : Pp K H' v x := Pr.same h e
/-- both terms below 2 ^ n, the bottom above nought -/
structure Ok (n : Nat) (x : Q2) : Prop where
  pos : 0 < x.2
  top : Bd n x.1
  bot : Bd n x.2
theorem Ok.mono {n m : Nat} {x : Q2} (h : Ok n x) (e : n ≤ m) : Ok m x := ⟨h.pos, h.top.mono e, h.bot.mono e⟩
theorem lowP_low {t b : Int} (h : 0 < b) : Low (lowP t b).1 (lowP t b).2 := low_div h
theorem lowP_ok {t b : Int} {n : Nat} (h : 0 < b) (h1 : Bd n t) (h2 : Bd n b) : Ok n (lowP t b) := ⟨(low_div h).pos, h1.div (gc_dl t b), h2.div (gc_dr t b)⟩
theorem addP_ok {x y : Q2} {n m : Nat} (h : Ok n x) (k : Ok m y) : Ok (n + m + 1) (addP x y) :=
  lowP_ok (Int.mul_pos h.pos k.pos) (Bd.add (h.top.mul k.bot) ((k.top.mul h.bot).mono (by omega))) ((h.bot.mul k.bot).mono (by omega))
theorem subP_ok {x y : Q2} {n m : Nat} (h : Ok n x) (k : Ok m y) : Ok (n + m + 1) (subP x y) := by
  unfold subP
  rw [Int.sub_eq_add_neg]
  exact lowP_ok (Int.mul_pos h.pos k.pos) (Bd.add (h.top.mul k.bot) ((k.top.mul h.bot).neg.mono (by omega))) ((h.bot.mul k.bot).mono (by omega))
theorem mulP_ok {x y : Q2} {n m : Nat} (h : Ok n x) (k : Ok m y) : Ok (n + m) (mulP x y) := lowP_ok (Int.mul_pos h.pos k.pos) (h.top.mul k.top) (h.bot.mul k.bot)
theorem addP_low {x y : Q2} (h : 0 < x.2) (k : 0 < y.2) : Low (addP x y).1 (addP x y).2 := low_div (Int.mul_pos h k)
/-- promise of a def that makes the pair f x y of two pairs -/
def sp_two (K : PySem.W.Frag) (C : Q2 → Q2 → Prop) (f : Q2 → Q2 → Q2) : Sp := fun vs H Q _ => ∃ (v u : V) (x y : Q2) (n m : Nat), vs = [v, u] ∧ Pp K H v x ∧ Pp K H u y ∧ Ok n x ∧ Ok m y ∧ n + m ≤ 8890 ∧ C x y ∧ ∀ H' r, Same H H' → Pp K H' r (f x y) → Q r H'
def anyC : Q2 → Q2 → Prop := fun _ _ => True
def lowC : Q2 → Q2 → Prop := fun x y => Low x.1 x.2 ∧ Low y.1 y.2
theorem len_two {K : PySem.W.Frag} {C : Q2 → Q2 → Prop} {f : Q2 → Q2 → Q2} {vs : List V} {H : Hp} {Q : VK} {E : XK} (h : sp_two K C f vs H Q E) : vs.length = 2 := by
  obtain ⟨v, u, x, y, n, m, rfl, _⟩ := h
  rfl
theorem low_neg {a b : Int} (h : Low a b) : Low (-a) b := ⟨h.pos, by rw [Int.neg_gcd]; exact h.cop⟩
theorem subP_eq (x y : Q2) : addP x (-y.1, y.2) = subP x y := by
  unfold addP subP
  show lowP (x.1 * y.2 + -y.1 * x.2) _ = _
  rw [Int.neg_mul, ← Int.sub_eq_add_neg]
theorem pp_eq {K : PySem.W.Frag} {H : Hp} {v u : V} {x : Q2} (h : Pp K H v x) (k : Pp K H u x) : ∃ d e, Dp K H v d ∧ Dp K H u e ∧ SeqAt.shaped d = true ∧ SeqAt.shaped e = true ∧ PyData.eqv d e = true :=
  ⟨_, _, Pr.dp h, Pr.dp k, shp_pr _ _, shp_pr _ _, eqv_pr _ _⟩
end DT
namespace DT
open PySem PySem.Spec PyProof.Rows L2
/-! ### sums of lists of pairs -/
def sumP (xs : List Q2) : Q2 := xs.foldl addP (0, 1)
inductive Pps (K : PySem.W.Frag) (H : Hp) : List V → List Q2 → Prop
  | nil : Pps K H [] []
  | cons {v : V} {vs : List V} {x : Q2} {xs : List Q2} : Pp K H v x → Pps K H vs xs → Pps K H (v :: vs) (x :: xs)
theorem Pps.len {K : PySem.W.Frag} {H : Hp} : ∀ {vs : List V} {xs : List Q2}, Pps K H vs xs → vs.length = xs.length
  | _, _, .nil => rfl
  | _, _, .cons _ t => congrArg (· + 1) t.len
theorem Pps.same {K : PySem.W.Frag} {H H' : Hp} (e : Same H H') : ∀ {vs : List V} {xs : List Q2}, Pps K H vs xs → Pps K H' vs xs
  | _, _, .nil => .nil
  | _, _, .cons h t => .cons (h.same e) (t.same e)
theorem Pps.snoc {K : PySem.W.Frag} {H : Hp} {v : V} {x : Q2} (h : Pp K H v x) : ∀ {vs : List V} {xs : List Q2}, Pps K H vs xs → Pps K H (vs ++ [v]) (xs ++ [x])
  | _, _, .nil => .cons h .nil
  | _, _, .cons g t => .cons g (t.snoc h)
theorem pps_get {K : PySem.W.Frag} {H : Hp} : ∀ {vs : List V} {xs : List Q2} {i : Nat} {z : V}, Pps K H vs xs → vs[i]? = some z → ∃ x, xs[i]? = some x ∧ Pp K H z x
  | _, _, 0, _, .cons h _, e => ⟨_, rfl, Option.some.inj e ▸ h⟩
  | _, _, i + 1, z, .cons (vs := vs) (xs := xs) _ t, e => by
    have r := pps_get (vs := vs) (i := i) (z := z) t (by simpa using e)
    simpa using r
theorem sumP_take {xs : List Q2} {i : Nat} {x : Q2} (h : xs[i]? = some x) : sumP (xs.take (i + 1)) = addP (sumP (xs.take i)) x := by
  unfold sumP
  rw [List.take_add_one, h, List.foldl_append]
  rfl
theorem sumP_ok0 : Ok (201 * (0 + 1)) (sumP []) := ⟨by decide, by unfold Bd; decide +kernel, by unfold Bd; decide +kernel⟩
theorem sumP_low0 : Low (sumP []).1 (sumP []).2 := ⟨by decide, rfl⟩
def lowS : Q2 → Prop := fun x => Low x.1 x.2
def anyS : Q2 → Prop := fun _ => True
def sp_sum (K : PySem.W.Frag) (C : Q2 → Prop) : Sp := fun vs H Q _ => ∃ (l : Addr) (us : List V) (xs : List Q2), vs = [.ref l] ∧ SqL K H l us ∧ Pps K H us xs ∧ (∀ x ∈ xs, Ok 200 x) ∧ xs.length ≤ 30 ∧ (∀ x ∈ xs, C x) ∧
  ∀ H' r, Same H H' → Pp K H' r (sumP xs) → Ok 6300 (sumP xs) → Low (sumP xs).1 (sumP xs).2 → Q r H'
end DT
namespace DT
open PySem PySem.Spec PyProof.Rows L2
def datP (x : Q2) : PyData := .tuple [.int x.1, .int x.2]
theorem Pps.dp {K : PySem.W.Frag} {H : Hp} : ∀ {vs : List V} {xs : List Q2}, Pps K H vs xs → DpAll K H vs (xs.map datP)
  | _, _, .nil => .nil
  | _, _, .cons h t => .cons (Pr.dp h) t.dp
theorem lay_ps : ∀ xs : List Q2, PyData.canLayAll0 (xs.map datP) = true
  | [] => by simp [PyData.canLayAll0]
  | x :: xs => by
    rw [List.map_cons]
    simp only [PyData.canLayAll0, lay_ps xs, datP, PyData.canLay0, Bool.and_self]
theorem dep_ps : ∀ xs : List Q2, PyData.depthAll (xs.map datP) ≤ 1
  | [] => by simp [PyData.depthAll]
  | x :: xs => by
    have ih := dep_ps xs
    rw [List.map_cons]
    simp only [PyData.depthAll, datP, PyData.depth] at ih ⊢
    omega
theorem shp_ps (xs : List Q2) : SeqAt.shaped (.list (xs.map datP)) = true := by
  have h1 := lay_ps xs
  have h2 := dep_ps xs
  unfold SeqAt.shaped
  rw [Bool.and_eq_true]
  refine ⟨by simp only [PyData.canLay0, h1], decide_eq_true ?_⟩
  simp only [PyData.depth]
  omega
theorem eqv_ps : ∀ xs : List Q2, PyData.eqvAll (xs.map datP) (xs.map datP) = true
  | [] => by simp [PyData.eqvAll]
  | x :: xs => by
    rw [List.map_cons]
    simp only [PyData.eqvAll, eqv_ps xs, Bool.and_true]
    exact eqv_pr x.1 x.2
theorem eqv_psL (xs : List Q2) : PyData.eqv (.list (xs.map datP)) (.list (xs.map datP)) = true := by
  simp only [PyData.eqv, eqv_ps xs]
end DT
namespace DT
open PySem PySem.Spec PyProof.Rows L2
/-- a store to a list leaves pairs that stand elsewhere -/
theorem Pp.off {K : PySem.W.Frag} {H H' : Hp} {v : V} {x : Q2} {D : Addr} {us : List V} (h : Pp K H v x) (e : ∀ b o, H b = some o → b ≠ D → H' b = some o) (hD : H D = some (.lst us)) : Pp K H' v x := by
  obtain ⟨p, rfl, q⟩ := h
  refine ⟨p, rfl, ?_⟩
  rcases q with q | q
  · rcases q with q | ⟨o, q⟩
    · exact .inl (.inl (e _ _ q (fun z => by rw [z, hD] at q; cases q)))
    · exact .inl (.inr ⟨o, e _ _ q (fun z => by rw [z, hD] at q; cases q)⟩)
  · exact .inr q
theorem Pps.off {K : PySem.W.Frag} {H H' : Hp} {D : Addr} {ws : List V} : ∀ {vs : List V} {xs : List Q2}, Pps K H vs xs → (∀ b o, H b = some o → b ≠ D → H' b = some o) → H D = some (.lst ws) → Pps K H' vs xs
  | _, _, .nil, _, _ => .nil
  | _, _, .cons h t, e, hD => .cons (h.off e hD) (t.off e hD)
end DT

namespace DT
open PySem PySem.Spec PyProof.Rows L2
/-! ### bounds: sums of fractions, for up to 24 fields -/
def units (f : Int) (n : Nat) : List Q2 := (List.range n).map fun (i : Nat) => ((1, f + (i : Int)) : Q2)
theorem units_succ (f : Int) (n : Nat) : units f (n + 1) = units f n ++ [(1, f + (n : Int))] := by
  unfold units
  rw [List.range_succ, List.map_append]
  rfl
theorem ok_n1 {n : Int} (h1 : 0 ≤ n) (h2 : n ≤ 40) : Ok 6 ((n, 1) : Q2) :=
  ⟨show (0 : Int) < 1 by decide, Bd.of (m := 60) (by show (-60 : Int) < n; omega) (by show n < 60; omega) (by decide), show Bd 6 (1 : Int) by unfold Bd; decide⟩
theorem units_len (f : Int) (n : Nat) : (units f n).length = n := by
  unfold units
  rw [List.length_map, List.length_range]
theorem units_in {f : Int} {n : Nat} {x : Q2} (hf : 1 ≤ f) (hf2 : f ≤ 30) (hn : n ≤ 30) (h : x ∈ units f n) : Ok 200 x ∧ Low x.1 x.2 := by
  unfold units at h
  obtain ⟨i, hi, rfl⟩ := List.mem_map.1 h
  have hi := List.mem_range.1 hi
  exact ⟨⟨by show (0 : Int) < f + i; omega, show Bd 200 (1 : Int) by unfold Bd; decide +kernel, Bd.of (m := 100) (by show (-100 : Int) < f + i; omega) (by show f + (i : Int) < 100; omega) (by decide +kernel)⟩, by show (0 : Int) < f + i; omega, Int.one_gcd⟩
def usum (f l : Int) : Q2 := sumP (units f (l + 1 - f).toNat)
def sp_unit (K : PySem.W.Frag) : Sp := fun vs H Q _ => ∃ f l : Int, vs = [.int f, .int l] ∧ (1 ≤ f ∧ f ≤ 30) ∧ (0 ≤ l ∧ l ≤ 24) ∧ ∀ H' r, Same H H' → Pp K H' r (usum f l) → Ok 6300 (usum f l) → Low (usum f l).1 (usum f l).2 → Q r H'
/-- a def of one number n from 1 to 24 that hands back the pair f n -/
def sp_of (K : PySem.W.Frag) (f : Int → Q2) : Sp := fun vs H Q _ => ∃ n : Int, vs = [.int n] ∧ (1 ≤ n ∧ n ≤ 24) ∧ ∀ H' r, Same H H' → Pp K H' r (f n) → Ok 6300 (f n) → Low (f n).1 (f n).2 → Q r H'
def behindM (n : Int) : Q2 := usum 2 n
def beforeM (n : Int) : Q2 := lowP (n - 1) n
def mostM (n k : Int) : Q2 := mulP (k, 1) (usum (k + 1) n)
def lmostF (k : Int) : Nat → Q2
  | 0 => (0, 1)
  | i + 1 => addP (lmostF k i) (k, k + 1 + (i : Int))
def lmost (n k : Int) : Q2 := lmostF k (n + 1 - (k + 1)).toNat
theorem lmost_ok {k : Int} (h1 : 1 ≤ k) (h2 : k ≤ 24) : ∀ i : Nat, i ≤ 30 → Ok (7 * (i + 1)) (lmostF k i)
  | 0, _ => (⟨by decide, by unfold Bd; decide, by unfold Bd; decide⟩ : Ok 7 ((0, 1) : Q2))
  | i + 1, h => by
    have ih := lmost_ok h1 h2 i (by omega)
    have o : Ok 6 ((k, k + 1 + (i : Int)) : Q2) := ⟨by show (0 : Int) < k + 1 + i; omega, Bd.of (m := 60) (by show (-60 : Int) < k; omega) (by show k < 60; omega) (by decide), Bd.of (m := 60) (by show (-60 : Int) < k + 1 + i; omega) (by show k + 1 + (i : Int) < 60; omega) (by decide)⟩
    exact (addP_ok ih o).mono (by omega)
end DT

namespace DT
open PySem PySem.Spec PyProof.Rows L2
/-- xs[i] of a list, 0 ≤ i, for xs[i] += e -/
theorem get_list {X : Cx} : PGet X (fun x y H Q => ∃ (p : Addr) (xs : List V) (i : Nat) (v : V), x = .ref p ∧ y = .int (i : Int) ∧ SqL X.K H p xs ∧ xs[i]? = some v ∧ Q v H) := by
  intro pins s σ H o i ov iv Q I ro ri h
  obtain ⟨p, xs, k, v, rfl, rfl, hq, hx, q⟩ := h
  cases ro
  obtain ⟨t, rfl⟩ := ri
  obtain ⟨its, r, pl, hz⟩ := I.list hq
  obtain ⟨w, ew, rw'⟩ := r.get hx
  have hk : k < xs.length := (List.getElem?_eq_some_iff.1 hx).1
  have hn := line63
  exact wpAny_getItem_list pl.isList (by omega) (by omega) (by simpa using ew) ⟨v, H, I, rw', q⟩
/-! ### lists of pairs, tracked -/
def LP (K : PySem.W.Frag) (H : Hp) (p : Addr) (xs : List Q2) : Prop := ∃ us, H p = some (.lst us) ∧ Pps K H us xs
theorem LP.same {K : PySem.W.Frag} {H H' : Hp} {p : Addr} {xs : List Q2} (h : LP K H p xs) (e : Same H H') : LP K H' p xs := by
  obtain ⟨us, h1, h2⟩ := h
  exact ⟨us, e _ _ h1, h2.same e⟩
/-- every pair in lowest terms and below 2 ^ n -/
def AllOk (n : Nat) (xs : List Q2) : Prop := ∀ x ∈ xs, Ok n x ∧ Low x.1 x.2
theorem AllOk.mono {n m : Nat} {xs : List Q2} (h : AllOk n xs) (e : n ≤ m) : AllOk m xs := fun x hx => ⟨(h x hx).1.mono e, (h x hx).2⟩
theorem AllOk.nil {n : Nat} : AllOk n [] := fun _ h => nomatch h
theorem AllOk.snoc {n : Nat} {xs : List Q2} {x : Q2} (h : AllOk n xs) (o : Ok n x) (l : Low x.1 x.2) : AllOk n (xs ++ [x]) := fun y hy => by
  rcases List.mem_append.1 hy with z | z
  · exact h y z
  · rw [List.mem_singleton.1 z]
    exact ⟨o, l⟩
/-- a list that grows by one pair, the pair's tuple anywhere -/
theorem pps_grow {K : PySem.W.Frag} {H : Hp} {D : Addr} {us : List V} {v : V} {xs : List Q2} {x : Q2} (hD : H D = some (.lst us)) (h : Pps K H us xs) (k : Pp K H v x) : Pps K (upd H D (.lst (us ++ [v]))) (us ++ [v]) (xs ++ [x]) := by
  have sd : ∀ b o, H b = some o → b ≠ D → upd H D (.lst (us ++ [v])) b = some o := fun b o e n => by
    rw [upd_ne n]
    exact e
  exact (h.off sd hD).snoc (k.off sd hD)
theorem pps_at {K : PySem.W.Frag} {H : Hp} {us : List V} {xs : List Q2} (h : Pps K H us xs) {i : Nat} {x : Q2} (e : xs[i]? = some x) : ∃ v, us[i]? = some v ∧ Pp K H v x := by
  have hi : i < us.length := by
    rw [h.len]
    exact (List.getElem?_eq_some_iff.1 e).1
  obtain ⟨y, ey, py⟩ := pps_get h (List.getElem?_eq_getElem hi)
  rw [e] at ey
  cases ey
  exact ⟨_, List.getElem?_eq_getElem hi, py⟩
/-- == of two lists of pairs -/
theorem eqv_iff : ∀ (xs ys : List Q2), PyData.eqvAll (xs.map datP) (ys.map datP) = decide (xs = ys)
  | [], [] => by simp [PyData.eqvAll]
  | [], y :: ys => by simp [PyData.eqvAll]
  | x :: xs, [] => by simp [PyData.eqvAll]
  | x :: xs, y :: ys => by
    rw [List.map_cons, List.map_cons]
    simp only [PyData.eqvAll, eqv_iff xs ys]
    obtain ⟨a, b⟩ := x
    obtain ⟨c, d⟩ := y
    simp only [datP, PyData.eqv, PyData.eqvAll, Bool.and_true]
    by_cases h1 : a = c <;> by_cases h2 : b = d <;> by_cases h3 : xs = ys <;> simp [h1, h2, h3]
/-- a list of ints -/
theorem sq_ints {K : PySem.W.Frag} {H : Hp} {p : Addr} {rs : List Int} (h : H p = some (.lst (rs.map V.int))) : SqL K H p (rs.map V.int) := SqL.of h
theorem cut_map (rs : List Int) (lo hi : Option Int) : cutV (rs.map V.int) lo hi = ((rs.drop (HT.sIx rs.length 0 lo)).take (HT.sIx rs.length rs.length hi - HT.sIx rs.length 0 lo)).map V.int := by
  unfold cutV
  rw [List.length_map, ← List.map_drop, ← List.map_take]
theorem cut_to (rs : List Int) (n : Nat) (h : n ≤ rs.length) : cutV (rs.map V.int) none (some (n : Int)) = (rs.take n).map V.int := by
  rw [cut_map, HT.sIx_none, HT.sIx_nat, List.drop_zero, Nat.sub_zero, Nat.min_eq_left h]
theorem cut_from (rs : List Int) (n : Nat) (h : n ≤ rs.length) : cutV (rs.map V.int) (some (n : Int)) none = (rs.drop n).map V.int := by
  rw [cut_map, HT.sIx_none, HT.sIx_nat, Nat.min_eq_left h]
  rw [List.take_of_length_le (by rw [List.length_drop]; omega)]
end DT
namespace DT
open PySem PySem.Spec PyProof.Rows L2
/-- a store to the list at D leaves the lists of pairs at other places -/
theorem LP.off {K : PySem.W.Frag} {H : Hp} {D p : Addr} {us vs : List V} {xs : List Q2} (h : LP K H p xs) (hD : H D = some (.lst us)) (n : p ≠ D) : LP K (upd H D (.lst vs)) p xs := by
  obtain ⟨ws, e, k⟩ := h
  refine ⟨ws, by rw [upd_ne n]; exact e, k.off (D := D) (fun b o eb nb => by rw [upd_ne nb]; exact eb) hD⟩
theorem LP.ne {K : PySem.W.Frag} {H H' : Hp} {p q : Addr} {xs : List Q2} (h : LP K H p xs) (n : H q = none) : p ≠ q := by
  obtain ⟨us, e, _⟩ := h
  exact ne_of_none e n
theorem LP.sq {K : PySem.W.Frag} {H : Hp} {p : Addr} {xs : List Q2} (h : LP K H p xs) : ∃ us, SqL K H p us ∧ us.length = xs.length ∧ Pps K H us xs := by
  obtain ⟨us, e, k⟩ := h
  exact ⟨us, SqL.of e, k.len, k⟩
theorem LP.dp {K : PySem.W.Frag} {H : Hp} {p : Addr} {xs : List Q2} (h : LP K H p xs) : Dp K H (.ref p) (.list (xs.map datP)) := by
  obtain ⟨us, e, k⟩ := h
  exact .lst (SqL.of e) k.dp
def dat2 (xs ys : List Q2) : PyData := .list [.list (xs.map datP), .list (ys.map datP)]
theorem shp_2 (xs ys : List Q2) : SeqAt.shaped (dat2 xs ys) = true := by
  have h1 := lay_ps xs
  have h2 := dep_ps xs
  have h3 := lay_ps ys
  have h4 := dep_ps ys
  unfold SeqAt.shaped dat2
  rw [Bool.and_eq_true]
  refine ⟨by simp only [PyData.canLay0, PyData.canLayAll0, h1, h3, Bool.and_self], decide_eq_true ?_⟩
  simp only [PyData.depth, PyData.depthAll]
  omega
theorem eqv_2 (xs ys : List Q2) : PyData.eqv (dat2 xs ys) (dat2 xs ys) = true := by
  unfold dat2
  simp only [PyData.eqv, PyData.eqvAll, eqv_ps, Bool.and_self]
end DT

namespace DT
open PySem PySem.Spec PyProof.Rows L2
theorem take_map {rs : List Int} {i : Nat} {r : Int} (h : rs[i]? = some r) (f : Int → Int) : ((rs.take i).map f).map V.int ++ [V.int (f r)] = ((rs.take (i + 1)).map f).map V.int := by
  rw [List.take_add_one, h]
  simp only [List.map_append, Option.toList_some, List.map_cons, List.map_nil]
theorem int_at {rs : List Int} {i : Nat} {x : V} (h : (rs.map V.int)[i]? = some x) : ∃ r, rs[i]? = some r ∧ x = .int r := by
  rw [List.getElem?_map] at h
  cases e : rs[i]? with
  | none => rw [e] at h; cases h
  | some r => rw [e] at h; exact ⟨r, rfl, (Option.some.inj h).symm⟩
/-! ### the first of the greatest -/
def lessP (x y : Q2) : Bool := decide (x.1 * y.2 < y.1 * x.2)
def itemP (xs : List Q2) (i : Nat) : Q2 := xs.getD i (0, 1)
def firstF (xs : List Q2) : Nat → Nat
  | 0 => 0
  | i + 1 => if lessP (itemP xs (firstF xs i)) (itemP xs i) = true then i else firstF xs i
def firstM (xs : List Q2) : Nat := firstF xs xs.length
theorem firstF_lt (xs : List Q2) : ∀ i, firstF xs i < max 1 i
  | 0 => by show 0 < max 1 0; omega
  | i + 1 => by
    have ih := firstF_lt xs i
    unfold firstF
    split <;> omega
theorem firstM_lt {xs : List Q2} (h : 0 < xs.length) : firstM xs < xs.length := by
  have := firstF_lt xs xs.length
  unfold firstM
  omega
theorem item_some {xs : List Q2} {i : Nat} (h : i < xs.length) : xs[i]? = some (itemP xs i) := by
  unfold itemP
  rw [List.getElem?_eq_getElem h]
  simp [List.getD, List.getElem?_eq_getElem h]
theorem item_ok {xs : List Q2} {n i : Nat} (h : AllOk n xs) (hi : i < xs.length) : Ok n (itemP xs i) ∧ Low (itemP xs i).1 (itemP xs i).2 := by
  refine h _ ?_
  exact List.mem_of_getElem? (item_some hi)
def sp_first (K : PySem.W.Frag) : Sp := fun vs H Q _ => ∃ (p : Addr) (xs : List Q2), vs = [.ref p] ∧ LP K H p xs ∧ 0 < xs.length ∧ xs.length ≤ 1000 ∧ AllOk 4000 xs ∧ Q (.int (firstM xs : Int)) H
/-- two lists, item by item -/
def sp_raised (K : PySem.W.Frag) : Sp := fun vs H Q _ => ∃ (p q : Addr) (xs ys : List Q2), vs = [.ref p, .ref q] ∧ LP K H p xs ∧ LP K H q ys ∧ xs.length = ys.length ∧ xs.length ≤ 1000 ∧ AllOk 3800 xs ∧ AllOk 3800 ys ∧
  ∀ H' r, Same H H' → H r = none → LP K H' r (List.zipWith addP xs ys) → Q (.ref r) H'
theorem zip_at {xs ys : List Q2} {i : Nat} {x y : Q2} (hx : xs[i]? = some x) (hy : ys[i]? = some y) : (List.zipWith addP xs ys).take (i + 1) = (List.zipWith addP xs ys).take i ++ [addP x y] := by
  rw [List.take_add_one]
  have : (List.zipWith addP xs ys)[i]? = some (addP x y) := by
    rw [List.getElem?_zipWith, hx, hy]
  rw [this]
  rfl
/-- the weights and the shares of the law -/
def sharesOf (ws : List Int) : List Q2 := ws.map fun w => lowP w ws.sum
def WsOk (n : Nat) (ws : List Int) : Prop := ws.length = n ∧ (∀ w ∈ ws, 0 ≤ w ∧ w < 1000005) ∧ 0 < ws.sum ∧ ws.sum ≤ 1000005 * n
theorem shares_ok {n : Nat} {ws : List Int} (h : WsOk n ws) (hn : n ≤ 24) : AllOk 26 (sharesOf ws) := by
  intro x hx
  obtain ⟨w, hw, rfl⟩ := List.mem_map.1 hx
  obtain ⟨h1, h2, h3, h4⟩ := h
  have hb := h2 w hw
  exact ⟨lowP_ok h3 (Bd.of (m := 30000000) (by omega) (by omega) (by decide)) (Bd.of (m := 30000000) (by omega) (by omega) (by decide)), lowP_low h3⟩
theorem shares_len (ws : List Int) : (sharesOf ws).length = ws.length := by
  unfold sharesOf
  rw [List.length_map]
theorem sum_bound {ws : List Int} : (∀ w ∈ ws, 0 ≤ w ∧ w < 1000005) → 0 ≤ ws.sum ∧ ws.sum ≤ 1000005 * ws.length := by
  induction ws with
  | nil => intro _; exact ⟨Int.le_refl _, Int.le_refl _⟩
  | cons w ws ih =>
    intro h
    have h1 := h w List.mem_cons_self
    have h2 := ih fun v hv => h v (List.mem_cons_of_mem _ hv)
    rw [List.sum_cons, List.length_cons]
    omega
end DT

namespace DT
open PySem PySem.Spec PyProof.Rows L2
def natsV (ms : List Nat) : List V := ms.map fun (i : Nat) => V.int (i : Int)
theorem natsV_in (ms : List Nat) (i : Nat) : inV (.int (i : Int)) (natsV ms) = decide (i ∈ ms) := by
  unfold natsV inV
  induction ms with
  | nil => rfl
  | cons a ms ih =>
    rw [List.map_cons, List.any_cons, ih]
    by_cases h : a = i
    · simp [eqV, h]
    · have h2 : ¬ i = a := fun e => h e.symm
      have h3 : ¬ (a : Int) = (i : Int) := by omega
      simp [eqV, h2, h3]
theorem natsV_flat (ms : List Nat) : (natsV ms).all flatV = true := by
  unfold natsV
  rw [List.all_eq_true]
  intro x hx
  obtain ⟨i, _, rfl⟩ := List.mem_map.1 hx
  rfl
theorem filt_succ (p : Nat → Bool) (i : Nat) : (List.range (i + 1)).filter p = (List.range i).filter p ++ (if p i = true then [i] else []) := by
  rw [List.range_succ, List.filter_append]
  by_cases h : p i = true
  · rw [if_pos h, List.filter_cons_of_pos h]; rfl
  · rw [if_neg h, List.filter_cons_of_neg h]; rfl
theorem natsV_len (ms : List Nat) : (natsV ms).length = ms.length := List.length_map _
theorem natsV_get {ms : List Nat} {i : Nat} {x : V} (h : (natsV ms)[i]? = some x) : ∃ j : Nat, ms[i]? = some j ∧ x = .int (j : Int) := by
  unfold natsV at h
  rw [List.getElem?_map] at h
  cases e : ms[i]? with
  | none => rw [e] at h; cases h
  | some r => rw [e] at h; exact ⟨r, rfl, (Option.some.inj h).symm⟩
theorem natsV_at {ms : List Nat} {i j : Nat} (h : ms[i]? = some j) : (natsV ms)[i]? = some (.int (j : Int)) := by
  unfold natsV
  rw [List.getElem?_map, h]
  rfl
theorem natsV_take (ms : List Nat) (k : Nat) : (natsV ms).take k = natsV (ms.take k) := by
  unfold natsV
  rw [List.map_take]
theorem natsV_snoc (ms : List Nat) (k : Nat) : natsV ms ++ [.int (k : Int)] = natsV (ms ++ [k]) := by
  unfold natsV
  rw [List.map_append]
  rfl
theorem cut_mid (rs : List Int) (a j : Nat) (h : a + j ≤ rs.length) : cutV (rs.map V.int) (some (a : Int)) (some ((a : Int) + (j : Int))) = ((rs.drop a).take j).map V.int := by
  rw [cut_map, show (a : Int) + (j : Int) = ((a + j : Nat) : Int) by omega, HT.sIx_nat, HT.sIx_nat, Nat.min_eq_left h, Nat.min_eq_left (by omega), Nat.add_sub_cancel_left]
theorem cutV_nat (us : List V) (n : Nat) (h : n ≤ us.length) : cutV us none (some (n : Int)) = us.take n := by
  unfold cutV
  rw [HT.sIx_none, HT.sIx_nat, List.drop_zero, Nat.sub_zero, Nat.min_eq_left h]
theorem cutN_to (ms : List Nat) (k : Nat) (h : k ≤ ms.length) : cutV (natsV ms) none (some (k : Int)) = natsV (ms.take k) := by
  rw [cutV_nat (natsV ms) k (by rw [natsV_len]; exact h), natsV_take]
theorem mod_nat {r : Int} {n : Nat} (h : 0 < n) : ∃ m : Nat, r % (n : Int) = (m : Int) ∧ m < n := by
  have h1 := Int.emod_nonneg r (show (n : Int) ≠ 0 by omega)
  have h2 := Int.emod_lt_of_pos r (show (0 : Int) < (n : Int) by omega)
  exact ⟨(r % (n : Int)).toNat, by omega, by omega⟩
/-- a list of places below n -/
def Below (n : Nat) (ts : List Nat) : Prop := ∀ t ∈ ts, t < n
theorem Below.nil {n : Nat} : Below n [] := fun _ h => nomatch h
theorem Below.snoc {n m : Nat} {ts : List Nat} (h : Below n ts) (k : m < n) : Below n (ts ++ [m]) := fun t ht => by
  rcases List.mem_append.1 ht with z | z
  · exact h t z
  · rw [List.mem_singleton.1 z]
    exact k
theorem Below.take {n : Nat} {ts : List Nat} (h : Below n ts) (k : Nat) : Below n (ts.take k) := fun t ht => h t (List.mem_of_mem_take ht)
theorem Below.put {n m i : Nat} {ts : List Nat} (h : Below n ts) (k : m < n) : Below n (ts.take i ++ [m] ++ ts.drop i) := fun t ht => by
  rcases List.mem_append.1 ht with z | z
  · exact (Below.snoc (h.take i) k) t z
  · exact h t (List.mem_of_mem_drop z)
theorem natsV_put (ts : List Nat) (i m : Nat) : (natsV ts).take i ++ [V.int (m : Int)] ++ (natsV ts).drop i = natsV (ts.take i ++ [m] ++ ts.drop i) := by
  unfold natsV
  rw [List.map_append, List.map_append, List.map_take, List.map_drop]
  rfl
theorem put_len (ts : List Nat) (i m : Nat) : (ts.take i ++ [m] ++ ts.drop i).length = ts.length + 1 := by
  rw [List.length_append, List.length_append, List.length_take, List.length_drop, List.length_singleton]
  omega
theorem filt_lt (p : Nat → Bool) (i : Nat) : ((List.range i).filter p).length ≤ i := by
  have := List.length_filter_le p (List.range i)
  rw [List.length_range] at this
  exact this
end DT

namespace DT
open PySem PySem.Spec PyProof.Rows L2
/-! ### the foe's shares and lags -/
def waitL (n : Nat) (ts : List Nat) : List Nat := (List.range n).filter fun i => !decide (i ∈ ts)
def foeOne (n : Nat) (ts : List Nat) (i : Nat) : Q2 := if (waitL n ts).isEmpty = true then (1, (n : Int)) else if i ∈ waitL n ts then (1, ((waitL n ts).length : Int)) else (0, 1)
def foeM (n : Nat) (ts : List Nat) : List Q2 := (List.range n).map (foeOne n ts)
theorem foeM_len (n : Nat) (ts : List Nat) : (foeM n ts).length = n := by
  unfold foeM
  rw [List.length_map, List.length_range]
theorem wait_len (n : Nat) (ts : List Nat) : (waitL n ts).length ≤ n := filt_lt _ n
theorem wait_pos {n : Nat} {ts : List Nat} (h : ¬ (waitL n ts).isEmpty = true) : 1 ≤ (waitL n ts).length := by
  cases e : waitL n ts with
  | nil => rw [e] at h; exact absurd rfl h
  | cons a l => rw [List.length_cons]; omega
theorem low1 {k : Int} (h : 0 < k) : Low 1 k := ⟨h, Int.one_gcd⟩
theorem ok1k {k : Nat} (h1 : 1 ≤ k) (h2 : k ≤ 24) : Ok 6 ((1, (k : Int)) : Q2) ∧ Low ((1, (k : Int)) : Q2).1 ((1, (k : Int)) : Q2).2 :=
  ⟨⟨by show (0 : Int) < (k : Int); omega, show Bd 6 (1 : Int) by unfold Bd; decide, Bd.of (m := 60) (by show (-60 : Int) < (k : Int); omega) (by show (k : Int) < 60; omega) (by decide)⟩, low1 (by show (0 : Int) < (k : Int); omega)⟩
theorem ok01 : Ok 6 ((0, 1) : Q2) ∧ Low ((0, 1) : Q2).1 ((0, 1) : Q2).2 := ⟨⟨by decide, by unfold Bd; decide, by unfold Bd; decide⟩, by decide, rfl⟩
theorem foeOne_ok {n : Nat} {ts : List Nat} (h1 : 1 ≤ n) (h2 : n ≤ 24) (i : Nat) : Ok 6 (foeOne n ts i) ∧ Low (foeOne n ts i).1 (foeOne n ts i).2 := by
  unfold foeOne
  split
  · exact ok1k h1 h2
  · rename_i h
    have := wait_len n ts
    split
    · exact ok1k (wait_pos h) (by omega)
    · exact ok01
theorem foeM_ok {n : Nat} {ts : List Nat} (h1 : 1 ≤ n) (h2 : n ≤ 24) : AllOk 6 (foeM n ts) := fun x hx => by
  obtain ⟨i, _, rfl⟩ := List.mem_map.1 hx
  exact foeOne_ok h1 h2 i
def sp_foe (K : PySem.W.Frag) : Sp := fun vs H Q _ => ∃ (n : Nat) (p : Addr) (ts : List Nat), vs = [.int (n : Int), .ref p] ∧ H p = some (.lst (natsV ts)) ∧ 1 ≤ n ∧ n ≤ 24 ∧ ∀ H' r, Same H H' → H r = none → LP K H' r (foeM n ts) → Q (.ref r) H'
theorem map_succ {α : Type} (f : Nat → α) (i : Nat) : (List.range (i + 1)).map f = (List.range i).map f ++ [f i] := by
  rw [List.range_succ, List.map_append]
  rfl
end DT
namespace DT
open PySem PySem.Spec PyProof.Rows L2
/-! ### the law's own count of those that had a turn -/
def hadL (n : Nat) (ts : List Nat) : List Nat := (List.range n).filter fun i => decide (i ∈ ts)
theorem had_wait (n : Nat) (ts : List Nat) : (hadL n ts).length + (waitL n ts).length = n := by
  unfold hadL waitL
  induction n with
  | zero => rfl
  | succ n ih =>
    rw [filt_succ, filt_succ, List.length_append, List.length_append]
    by_cases h : n ∈ ts
    · have e1 : decide (n ∈ ts) = true := decide_eq_true h
      have e2 : (!decide (n ∈ ts)) = false := by rw [e1]; rfl
      rw [if_pos e1, if_neg (by rw [e2]; decide)]
      simp only [List.length_singleton, List.length_nil]
      omega
    · have e1 : decide (n ∈ ts) = false := decide_eq_false h
      have e2 : (!decide (n ∈ ts)) = true := by rw [e1]; rfl
      rw [if_neg (by rw [e1]; decide), if_pos e2]
      simp only [List.length_singleton, List.length_nil]
      omega
theorem mem_had {n : Nat} {ts : List Nat} {i : Nat} (h : i < n) : i ∈ hadL n ts ↔ i ∈ ts := by
  unfold hadL
  simp [List.mem_filter, List.mem_range, h]
theorem mem_wait {n : Nat} {ts : List Nat} {i : Nat} (h : i < n) : i ∈ waitL n ts ↔ ¬ i ∈ ts := by
  unfold waitL
  simp [List.mem_filter, List.mem_range, h]
def dueOne (n : Nat) (ts : List Nat) (i : Nat) : Q2 := if (hadL n ts).length = n then (1, (n : Int)) else if i ∈ hadL n ts then (0, 1) else (1, (n : Int) - ((hadL n ts).length : Int))
theorem due_foe {n : Nat} {ts : List Nat} {i : Nat} (h : i < n) : dueOne n ts i = foeOne n ts i := by
  have hw := had_wait n ts
  unfold dueOne foeOne
  by_cases e : (hadL n ts).length = n
  · have : waitL n ts = [] := List.length_eq_zero_iff.1 (by omega)
    rw [if_pos e, this]
    rfl
  · have e2 : ¬ (waitL n ts).isEmpty = true := fun z => by
      rw [List.isEmpty_iff] at z
      rw [z] at hw
      simp at hw
      exact e hw
    rw [if_neg e, if_neg e2]
    by_cases e3 : i ∈ ts
    · rw [if_pos ((mem_had h).2 e3), if_neg (fun z => (mem_wait h).1 z e3)]
    · rw [if_neg (fun z => e3 ((mem_had h).1 z)), if_pos ((mem_wait h).2 e3), show (n : Int) - ((hadL n ts).length : Int) = ((waitL n ts).length : Int) by omega]
theorem foeM_due (n : Nat) (ts : List Nat) : (List.range n).map (dueOne n ts) = foeM n ts := by
  unfold foeM
  exact List.map_congr_left fun i hi => due_foe (List.mem_range.1 hi)
/-! ### lists of places as data -/
def datN (ts : List Nat) : PyData := .list (ts.map fun (i : Nat) => PyData.int (i : Int))
theorem dp_nats {K : PySem.W.Frag} {H : Hp} : ∀ (ts : List Nat), DpAll K H (natsV ts) (ts.map fun (i : Nat) => PyData.int (i : Int))
  | [] => .nil
  | t :: ts => .cons (.int (t : Int)) (dp_nats ts)
theorem nats_dp {K : PySem.W.Frag} {H : Hp} {p : Addr} {ts : List Nat} (h : H p = some (.lst (natsV ts))) : Dp K H (.ref p) (datN ts) := .lst (SqL.of h) (dp_nats ts)
theorem eqv_nats : ∀ ts : List Nat, PyData.eqvAll (ts.map fun (i : Nat) => PyData.int (i : Int)) (ts.map fun (i : Nat) => PyData.int (i : Int)) = true
  | [] => rfl
  | t :: ts => by
    rw [List.map_cons]
    simp only [PyData.eqvAll, PyData.eqv, eqv_nats ts]
    simp
theorem eqv_datN (ts : List Nat) : PyData.eqv (datN ts) (datN ts) = true := by
  unfold datN
  simp only [PyData.eqv, eqv_nats]
theorem shp_nats : ∀ ts : List Nat, PyData.canLayAll0 (ts.map fun (i : Nat) => PyData.int (i : Int)) = true ∧ PyData.depthAll (ts.map fun (i : Nat) => PyData.int (i : Int)) ≤ 1
  | [] => ⟨rfl, by simp [PyData.depthAll]⟩
  | t :: ts => by
    obtain ⟨h1, h2⟩ := shp_nats ts
    rw [List.map_cons]
    simp only [PyData.canLayAll0, PyData.canLay0, PyData.depthAll, PyData.depth, h1]
    exact ⟨rfl, by omega⟩
theorem shp_datN (ts : List Nat) : SeqAt.shaped (datN ts) = true := by
  obtain ⟨h1, h2⟩ := shp_nats ts
  unfold SeqAt.shaped datN
  rw [Bool.and_eq_true]
  refine ⟨by simp only [PyData.canLay0, h1], decide_eq_true ?_⟩
  simp only [PyData.depth]
  omega
end DT

namespace DT
/-! ### what a pair is worth -/
def val (x : Q2) : Rat := (x.1 : Rat) / (x.2 : Rat)
theorem r_ne {a : Int} (h : 0 < a) : (a : Rat) ≠ 0 := fun e => by
  have := Rat.intCast_eq_zero_iff.1 e
  omega
theorem r_pos {a : Int} (h : 0 < a) : (0 : Rat) < (a : Rat) := Rat.intCast_pos.2 h
theorem val_eq {x y : Q2} (hx : 0 < x.2) (hy : 0 < y.2) (h : x.1 * y.2 = y.1 * x.2) : val x = val y := by
  unfold val
  have h1 := r_ne hx
  have h2 := r_ne hy
  have h3 : (x.1 : Rat) * (y.2 : Rat) = (y.1 : Rat) * (x.2 : Rat) := by rw [← Rat.intCast_mul, ← Rat.intCast_mul, h]
  grind
theorem val_low {t b : Int} (h : 0 < b) : val (lowP t b) = (t : Rat) / (b : Rat) := by
  have := val_eq (x := lowP t b) (y := (t, b)) (lowP_low h).pos h (by show t / gc t b * b = t * (b / gc t b); rw [low_cross t b, Int.mul_comm])
  exact this
theorem val_add {x y : Q2} (hx : 0 < x.2) (hy : 0 < y.2) : val (addP x y) = val x + val y := by
  unfold addP
  rw [val_low (Int.mul_pos hx hy)]
  unfold val
  have h1 := r_ne hx
  have h2 := r_ne hy
  rw [Rat.intCast_add, Rat.intCast_mul, Rat.intCast_mul, Rat.intCast_mul]
  grind
theorem val_sub {x y : Q2} (hx : 0 < x.2) (hy : 0 < y.2) : val (subP x y) = val x - val y := by
  unfold subP
  rw [val_low (Int.mul_pos hx hy)]
  unfold val
  have h1 := r_ne hx
  have h2 := r_ne hy
  rw [Rat.intCast_sub, Rat.intCast_mul, Rat.intCast_mul, Rat.intCast_mul]
  grind
theorem val_mul {x y : Q2} (hx : 0 < x.2) (hy : 0 < y.2) : val (mulP x y) = val x * val y := by
  unfold mulP
  rw [val_low (Int.mul_pos hx hy)]
  unfold val
  have h1 := r_ne hx
  have h2 := r_ne hy
  rw [Rat.intCast_mul, Rat.intCast_mul]
  grind
theorem val_lt {x y : Q2} (hx : 0 < x.2) (hy : 0 < y.2) : x.1 * y.2 < y.1 * x.2 ↔ val x < val y := by
  unfold val
  rw [Rat.div_lt_iff (r_pos hx), ← Rat.intCast_lt_intCast, Rat.intCast_mul, Rat.intCast_mul]
  have h2 := r_ne hy
  have hp := r_pos hy
  have e : (y.1 : Rat) / (y.2 : Rat) * (x.2 : Rat) = ((y.1 : Rat) * (x.2 : Rat)) / (y.2 : Rat) := by grind
  rw [e, Rat.lt_div_iff hp]
theorem lessP_iff {x y : Q2} (hx : 0 < x.2) (hy : 0 < y.2) : lessP x y = true ↔ val x < val y := by
  unfold lessP
  rw [decide_eq_true_iff]
  exact val_lt hx hy
theorem val_inj {x y : Q2} (hx : Low x.1 x.2) (hy : Low y.1 y.2) (h : val x = val y) : x = y := by
  have h1 := r_ne hx.pos
  have h2 := r_ne hy.pos
  have h3 : (x.1 : Rat) * (y.2 : Rat) = (y.1 : Rat) * (x.2 : Rat) := by
    unfold val at h
    grind
  rw [← Rat.intCast_mul, ← Rat.intCast_mul, Rat.intCast_inj] at h3
  obtain ⟨e1, e2⟩ := low_uniq hx hy h3
  exact Prod.ext e1 e2
def rsum (l : List Rat) : Rat := l.foldr (· + ·) 0
theorem rsum_cons (a : Rat) (l : List Rat) : rsum (a :: l) = a + rsum l := rfl
theorem rsum_nil : rsum [] = 0 := rfl
theorem rsum_app (l m : List Rat) : rsum (l ++ m) = rsum l + rsum m := by
  induction l with
  | nil => rw [List.nil_append, rsum_nil]; grind
  | cons a l ih => rw [List.cons_append, rsum_cons, rsum_cons, ih]; grind
def worth (xs : List Q2) : Rat := rsum (xs.map val)
theorem worth_cons (x : Q2) (xs : List Q2) : worth (x :: xs) = val x + worth xs := rfl
theorem worth_app (xs ys : List Q2) : worth (xs ++ ys) = worth xs + worth ys := by
  unfold worth
  rw [List.map_append, rsum_app]
/-- all bottoms above nought -/
def AllPos (xs : List Q2) : Prop := ∀ x ∈ xs, 0 < x.2
theorem AllOk.pos {n : Nat} {xs : List Q2} (h : AllOk n xs) : AllPos xs := fun x hx => (h x hx).1.pos
theorem fold_worth : ∀ (xs : List Q2) (x : Q2), 0 < x.2 → AllPos xs → val (xs.foldl addP x) = val x + worth xs ∧ 0 < (xs.foldl addP x).2
  | [], x, hx, _ => ⟨by show val x = val x + 0; grind, hx⟩
  | y :: ys, x, hx, h => by
    have hy := h y List.mem_cons_self
    have hz : 0 < (addP x y).2 := (addP_low hx hy).pos
    obtain ⟨e, p⟩ := fold_worth ys (addP x y) hz fun z hz => h z (List.mem_cons_of_mem _ hz)
    refine ⟨?_, p⟩
    rw [List.foldl_cons, e, val_add hx hy, worth_cons]
    grind
theorem sumP_worth {xs : List Q2} (h : AllPos xs) : val (sumP xs) = worth xs := by
  have := (fold_worth xs (0, 1) (by decide) h).1
  have z : val (0, 1) = 0 := by
    unfold val
    show ((0 : Int) : Rat) / ((1 : Int) : Rat) = 0
    rw [Rat.intCast_zero, Rat.intCast_one]
    grind
  unfold sumP
  rw [this, z]
  grind
theorem worth_zip : ∀ (xs ys : List Q2), xs.length = ys.length → AllPos xs → AllPos ys → worth (List.zipWith addP xs ys) = worth xs + worth ys
  | [], [], _, _, _ => by show (0 : Rat) = 0 + 0; grind
  | x :: xs, y :: ys, h, hx, hy => by
    rw [List.zipWith_cons_cons, worth_cons, worth_cons, worth_cons, val_add (hx x List.mem_cons_self) (hy y List.mem_cons_self),
      worth_zip xs ys (by simpa using h) (fun z hz => hx z (List.mem_cons_of_mem _ hz)) fun z hz => hy z (List.mem_cons_of_mem _ hz)]
    grind
theorem worth_set : ∀ {xs : List Q2} {i : Nat} {x y : Q2}, xs[i]? = some x → worth (xs.set i y) = worth xs - val x + val y
  | [], i, x, y, h => by simp at h
  | a :: xs, 0, x, y, h => by
    have e : a = x := Option.some.inj h
    subst e
    show val y + worth xs = val a + worth xs - val a + val y
    grind
  | a :: xs, i + 1, x, y, h => by
    have ih := worth_set (xs := xs) (i := i) (x := x) (y := y) (by simpa using h)
    show val a + worth (xs.set i y) = val a + worth xs - val x + val y
    rw [ih]
    grind
theorem worth_shares {n : Nat} {ws : List Int} (h : WsOk n ws) : worth (sharesOf ws) = 1 := by
  obtain ⟨_, _, hs, _⟩ := h
  have key : ∀ (l : List Int) (S : Int), 0 < S → worth (l.map fun w => lowP w S) = (l.sum : Rat) / (S : Rat) := by
    intro l S hS
    have hn := r_ne hS
    induction l with
    | nil =>
      show (0 : Rat) = ((0 : Int) : Rat) / (S : Rat)
      rw [Rat.intCast_zero]
      grind
    | cons w l ih =>
      rw [List.map_cons, worth_cons, ih, val_low hS, List.sum_cons, Rat.intCast_add]
      grind
  unfold sharesOf
  rw [key ws ws.sum hs]
  have hn := r_ne hs
  grind
theorem val_one : val (1, 1) = 1 := by
  unfold val
  show ((1 : Int) : Rat) / ((1 : Int) : Rat) = 1
  rw [Rat.intCast_one]
  grind
theorem val_zero' : val (0, 1) = 0 := by
  unfold val
  show ((0 : Int) : Rat) / ((1 : Int) : Rat) = 0
  rw [Rat.intCast_zero, Rat.intCast_one]
  grind
/-! ### one hour -/
def hourM (xs ys : List Q2) : Nat × List Q2 :=
  let zs := List.zipWith addP xs ys
  (firstM zs, zs.set (firstM zs) (subP (itemP zs (firstM zs)) (1, 1)))
theorem zip_ok {n m : Nat} {xs ys : List Q2} (hx : AllOk n xs) (hy : AllOk m ys) : AllOk (n + m + 1) (List.zipWith addP xs ys) := by
  intro z hz
  obtain ⟨i, hi⟩ := List.mem_iff_getElem?.1 hz
  rw [List.getElem?_zipWith] at hi
  cases ex : xs[i]? with
  | none => rw [ex] at hi; simp at hi
  | some x =>
    cases ey : ys[i]? with
    | none => rw [ex, ey] at hi; simp at hi
    | some y =>
      rw [ex, ey] at hi
      have e1 : addP x y = z := Option.some.inj hi
      have o1 := hx x (List.mem_of_getElem? ex)
      have o2 := hy y (List.mem_of_getElem? ey)
      rw [← e1]
      exact ⟨addP_ok o1.1 o2.1, addP_low o1.1.pos o2.1.pos⟩
theorem ok11 : Ok 1 ((1, 1) : Q2) := ⟨by decide, by unfold Bd; decide, by unfold Bd; decide⟩
theorem sub_low {x y : Q2} (hx : 0 < x.2) (hy : 0 < y.2) : Low (subP x y).1 (subP x y).2 := low_div (Int.mul_pos hx hy)
theorem hour_ok {n m : Nat} {xs ys : List Q2} (hx : AllOk n xs) (hy : AllOk m ys) (hl : xs.length = ys.length) (h0 : 0 < xs.length) : AllOk (n + m + 3) (hourM xs ys).2 ∧ (hourM xs ys).2.length = xs.length ∧ (hourM xs ys).1 < xs.length := by
  have hz := zip_ok hx hy
  have lz : (List.zipWith addP xs ys).length = xs.length := by rw [List.length_zipWith]; omega
  have hf := firstM_lt (xs := List.zipWith addP xs ys) (by omega)
  have oi := item_ok hz hf
  refine ⟨fun z hz' => ?_, ?_, by show firstM (List.zipWith addP xs ys) < _; omega⟩
  · rcases List.mem_or_eq_of_mem_set hz' with h | h
    · exact ⟨(hz z h).1.mono (by omega), (hz z h).2⟩
    · rw [h]
      exact ⟨(subP_ok oi.1 ok11).mono (by omega), sub_low oi.1.pos ok11.pos⟩
  · show ((List.zipWith addP xs ys).set _ _).length = _
    rw [List.length_set, lz]
theorem hour_worth {n m : Nat} {xs ys : List Q2} (hx : AllOk n xs) (hy : AllOk m ys) (hl : xs.length = ys.length) (h0 : 0 < xs.length) : worth (hourM xs ys).2 = worth xs + worth ys - 1 := by
  have hz := zip_ok hx hy
  have lz : (List.zipWith addP xs ys).length = xs.length := by rw [List.length_zipWith]; omega
  have hf := firstM_lt (xs := List.zipWith addP xs ys) (by omega)
  have oi := item_ok hz hf
  show worth ((List.zipWith addP xs ys).set _ _) = _
  rw [worth_set (item_some hf), val_sub oi.1.pos ok11.pos, val_one, worth_zip xs ys hl hx.pos hy.pos]
  grind
/-- lags behind some hours: as many, small, in lowest terms, together nought -/
structure Lags (n N : Nat) (xs : List Q2) : Prop where
  len : xs.length = n
  ok : AllOk N xs
  zero : worth xs = 0
end DT
namespace DT
open PySem PySem.Spec PyProof.Rows L2
theorem Pps.set {K : PySem.W.Frag} {H : Hp} {v : V} {y : Q2} (h : Pp K H v y) : ∀ {us : List V} {xs : List Q2} (i : Nat), Pps K H us xs → Pps K H (us.set i v) (xs.set i y)
  | _, _, _, .nil => .nil
  | _, _, 0, .cons _ t => .cons h t
  | _, _, i + 1, .cons g t => .cons g (t.set h i)
theorem LP.put {K : PySem.W.Frag} {H : Hp} {p : Addr} {us : List V} {v : V} {xs : List Q2} {y : Q2} (e : H p = some (.lst us)) (k : Pps K H us xs) (h : Pp K H v y) (i : Nat) : LP K (upd H p (.lst (us.set i v))) p (xs.set i y) := by
  have sd : ∀ b o, H b = some o → b ≠ p → upd H p (.lst (us.set i v)) b = some o := fun b o eb n => by
    rw [upd_ne n]
    exact eb
  exact ⟨_, upd_same, Pps.set (h.off sd e) i (k.off sd e)⟩
def sp_hour (K : PySem.W.Frag) : Sp := fun vs H Q _ => ∃ (p q : Addr) (xs ys : List Q2) (N : Nat), vs = [.ref p, .ref q] ∧ LP K H p xs ∧ LP K H q ys ∧ xs.length = ys.length ∧ 0 < xs.length ∧ xs.length ≤ 1000 ∧ AllOk N xs ∧ AllOk 26 ys ∧ N ≤ 3700 ∧
  ∀ H' t r, Same H H' → H r = none → SqT K H' t [.int ((hourM xs ys).1 : Int), .ref r] → LP K H' r (hourM xs ys).2 → Q (.ref t) H'
theorem ix_nat {n : Nat} {j : Nat} (h : j < n) : ixN n (j : Int) = some j := by
  unfold ixN
  rw [if_pos (by omega), if_pos (by omega), Int.toNat_natCast]
end DT

namespace DT
open PySem PySem.Spec PyProof.Rows L2
/-! ### the foe's lags, hour by hour -/
def takeOne (zs : List Q2) (t : Nat) : List Q2 := zs.set t (subP (itemP zs t) (1, 1))
def foeF (n : Nat) (ts : List Nat) : Nat → List Q2
  | 0 => List.replicate n (0, 1)
  | i + 1 => takeOne (List.zipWith addP (foeF n ts i) (foeM n (ts.take i))) (ts.getD i 0)
theorem foeF_len (n : Nat) (ts : List Nat) : ∀ i, (foeF n ts i).length = n
  | 0 => by show (List.replicate n _).length = n; rw [List.length_replicate]
  | i + 1 => by
    show (List.set _ _ _).length = n
    rw [List.length_set, List.length_zipWith, foeF_len n ts i, foeM_len, Nat.min_self]
theorem zip6_ok {N : Nat} {xs ys : List Q2} (hx : AllOk N xs) (hy : AllOk 6 ys) : AllOk (N + 7) (List.zipWith addP xs ys) := by
  intro z hz
  obtain ⟨i, hi⟩ := List.mem_iff_getElem?.1 hz
  rw [List.getElem?_zipWith] at hi
  cases ex : xs[i]? with
  | none => rw [ex] at hi; simp at hi
  | some x =>
    cases ey : ys[i]? with
    | none => rw [ex, ey] at hi; simp at hi
    | some y =>
      rw [ex, ey] at hi
      have e1 : addP x y = z := Option.some.inj hi
      have o1 := hx x (List.mem_of_getElem? ex)
      have o2 := hy y (List.mem_of_getElem? ey)
      rw [← e1]
      exact ⟨(addP_ok o1.1 o2.1).mono (by omega), addP_low o1.1.pos o2.1.pos⟩
theorem take_ok {N t : Nat} {zs : List Q2} (h : AllOk N zs) (ht : t < zs.length) : AllOk (N + 2) (takeOne zs t) := by
  intro x hx
  have oi := item_ok h ht
  have o1 : Ok 1 ((1, 1) : Q2) := ⟨by decide, by unfold Bd; decide, by unfold Bd; decide⟩
  rcases List.mem_or_eq_of_mem_set hx with z | z
  · exact ⟨(h x z).1.mono (by omega), (h x z).2⟩
  · rw [z]
    exact ⟨(subP_ok oi.1 o1).mono (by omega), sub_low oi.1.pos o1.pos⟩
theorem getD_below {n i : Nat} {ts : List Nat} (h : Below n ts) (h0 : 0 < n) : ts.getD i 0 < n := by
  cases e : ts[i]? with
  | none => rw [List.getD, e]; exact h0
  | some t => rw [List.getD, e]; exact h t (List.mem_of_getElem? e)
theorem foeF_ok {n : Nat} {ts : List Nat} (h1 : 1 ≤ n) (h2 : n ≤ 24) (hb : Below n ts) : ∀ i, AllOk (6 + 9 * i) (foeF n ts i)
  | 0 => fun x hx => by rw [(List.mem_replicate.1 hx).2]; exact ok01
  | i + 1 => by
    have ih := zip6_ok (foeF_ok h1 h2 hb i) (foeM_ok (ts := ts.take i) h1 h2)
    have := take_ok ih (t := ts.getD i 0) (by rw [List.length_zipWith, foeF_len, foeM_len, Nat.min_self]; exact getD_below hb (by omega))
    exact this.mono (by omega)
def foeL (n : Nat) (ts : List Nat) : List Q2 := foeF n ts ts.length
def sp_foe_lags (K : PySem.W.Frag) : Sp := fun vs H Q _ => ∃ (n : Nat) (p : Addr) (ts : List Nat), vs = [.int (n : Int), .ref p] ∧ H p = some (.lst (natsV ts)) ∧ 1 ≤ n ∧ n ≤ 24 ∧ ts.length ≤ 200 ∧ Below n ts ∧ ∀ H' r, Same H H' → H r = none → LP K H' r (foeL n ts) → Q (.ref r) H'
theorem rep_snoc (i : Nat) (x : Q2) : List.replicate (i + 1) x = List.replicate i x ++ [x] := List.replicate_succ' ..
theorem nat_at {ts : List Nat} {i t : Nat} (h : ts[i]? = some t) : ts.getD i 0 = t := by rw [List.getD, h]; rfl
end DT
namespace DT
open PySem PySem.Spec PyProof.Rows L2
/-! ### the law's own foe: a list that is changed place by place -/
theorem had_snoc {n t : Nat} {us : List Nat} (h : t < n) : (hadL n (us ++ [t])).length = (hadL n us).length + (if t ∈ us then 0 else 1) := by
  have key : ∀ m, ((List.range m).filter fun i => decide (i ∈ us ++ [t])).length = ((List.range m).filter fun i => decide (i ∈ us)).length + (if t ∈ us then 0 else if t < m then 1 else 0) := by
    intro m
    induction m with
    | zero => simp
    | succ m ih =>
      rw [filt_succ, filt_succ, List.length_append, List.length_append, ih]
      by_cases h1 : t ∈ us
      · by_cases h2 : m ∈ us
        · simp [h1, h2]
        · have : ¬ m = t := fun z => h2 (z ▸ h1)
          simp [h1, h2, this]
      · by_cases h2 : m ∈ us
        · have : ¬ t = m := fun z => h1 (z ▸ h2)
          simp [h1, h2]
          by_cases h3 : t < m
          · rw [if_pos h3, if_pos (by omega)]
          · rw [if_neg h3, if_neg (by omega)]
        · by_cases h3 : m = t
          · subst h3
            simp [h1]
          · have h4 : (m ∈ us ++ [t]) = False := by simp [h2, h3]
            simp [h1, h2, h3]
            by_cases h5 : t < m
            · rw [if_pos h5, if_pos (by omega)]
            · rw [if_neg h5, if_neg (by omega)]
  have := key n
  unfold hadL
  rw [this]
  by_cases h1 : t ∈ us
  · simp [h1]
  · simp [h1, h]
theorem mid_set {zs xs : List Q2} {i : Nat} (hl : zs.length = xs.length) (hi : i < xs.length) : (zs.take i ++ xs.drop i).set i (itemP zs i) = zs.take (i + 1) ++ xs.drop (i + 1) := by
  have l1 : (zs.take i).length = i := by rw [List.length_take]; omega
  rw [List.set_append_right _ _ (by omega), l1, Nat.sub_self, List.drop_eq_getElem_cons hi]
  show zs.take i ++ itemP zs i :: xs.drop (i + 1) = _
  rw [List.take_add_one, item_some (by omega), List.append_assoc]
  rfl
theorem mid_same {zs xs : List Q2} {i : Nat} (hl : zs.length = xs.length) (hi : i < xs.length) (e : itemP zs i = itemP xs i) : zs.take i ++ xs.drop i = zs.take (i + 1) ++ xs.drop (i + 1) := by
  rw [List.take_add_one, item_some (by omega), e, List.append_assoc]
  congr 1
  rw [List.drop_eq_getElem_cons hi]
  have := item_some hi
  rw [List.getElem?_eq_getElem hi] at this
  rw [Option.some.inj this]
  rfl
theorem mid_item {zs xs : List Q2} {i : Nat} (hl : zs.length = xs.length) (hi : i < xs.length) : itemP (zs.take i ++ xs.drop i) i = itemP xs i := by
  have l1 : (zs.take i).length = i := by rw [List.length_take]; omega
  unfold itemP
  rw [List.getD, List.getD, List.getElem?_append_right (by omega), l1, Nat.sub_self, List.getElem?_drop, Nat.add_zero]
theorem add_nought {x : Q2} (h : Low x.1 x.2) : addP x (0, 1) = x := by
  unfold addP
  show lowP (x.1 * 1 + 0 * x.2) (x.2 * 1) = x
  rw [Int.mul_one, Int.mul_one, Int.zero_mul, Int.add_zero]
  unfold lowP
  obtain ⟨e1, e2⟩ := low_self h
  rw [e1, e2]
theorem zip_item {xs ys : List Q2} {i : Nat} (h1 : i < xs.length) (h2 : i < ys.length) : itemP (List.zipWith addP xs ys) i = addP (itemP xs i) (itemP ys i) := by
  have : (List.zipWith addP xs ys)[i]? = some (addP (itemP xs i) (itemP ys i)) := by
    rw [List.getElem?_zipWith, item_some h1, item_some h2]
  unfold itemP at *
  rw [List.getD, this]
  rfl
theorem foeM_item {n i : Nat} {ts : List Nat} (h : i < n) : itemP (foeM n ts) i = dueOne n ts i := by
  unfold itemP foeM
  rw [List.getD, List.getElem?_map, List.getElem?_range h, due_foe h]
  rfl
/-- a store to the dict at D leaves pairs -/
theorem Pp.offD {K : PySem.W.Frag} {H : Hp} {v : V} {x : Q2} {D : Addr} {kvs kvs' : List (Key × V)} (h : Pp K H v x) (hD : H D = some (.dK kvs)) : Pp K (upd H D (.dK kvs')) v x := by
  obtain ⟨p, rfl, q⟩ := h
  refine ⟨p, rfl, ?_⟩
  rcases q with (q | ⟨o, q⟩) | q
  · exact .inl (.inl (by rw [upd_ne (fun z => by rw [z, hD] at q; cases q)]; exact q))
  · exact .inl (.inr ⟨o, by rw [upd_ne (fun z => by rw [z, hD] at q; cases q)]; exact q⟩)
  · exact .inr q
theorem Pps.offD {K : PySem.W.Frag} {H : Hp} {D : Addr} {kvs kvs' : List (Key × V)} : ∀ {vs : List V} {xs : List Q2}, Pps K H vs xs → H D = some (.dK kvs) → Pps K (upd H D (.dK kvs')) vs xs
  | _, _, .nil, _ => .nil
  | _, _, .cons h t, hD => .cons (h.offD hD) (t.offD hD)
/-- who had a turn, as a dict -/
def HadD (n : Nat) (us : List Nat) (kvs : List (Key × V)) : Prop := (∀ i : Nat, (valV kvs (Sum.inl (i : Int))).isSome = decide (i ∈ us)) ∧ kvs.length = (hadL n us).length
theorem HadD.nil {n : Nat} : HadD n [] [] := ⟨fun _ => by simp [valV_nil], by
  show 0 = ((List.range n).filter fun i => decide (i ∈ ([] : List Nat))).length
  rw [List.filter_eq_nil_iff.2 (by simp)]
  rfl⟩
theorem HadD.put {n t : Nat} {us : List Nat} {kvs : List (Key × V)} (h : HadD n us kvs) (ht : t < n) (v : V) : HadD n (us ++ [t]) (putK kvs (Sum.inl (t : Int)) v) := by
  obtain ⟨h1, h2⟩ := h
  refine ⟨fun i => ?_, ?_⟩
  · rw [valV_put]
    by_cases e : i = t
    · subst e
      rw [if_pos rfl]
      simp
    · rw [if_neg (fun z => e (by injection z with z; omega)), h1 i]
      simp [e]
  · rw [had_snoc ht, ← h2]
    have ht' := h1 t
    cases e : valV kvs (Sum.inl (t : Int)) with
    | none =>
      rw [e] at ht'
      have : ¬ t ∈ us := fun z => by rw [decide_eq_true z] at ht'; cases ht'
      rw [putK_new v e, if_neg this, List.length_append]
      rfl
    | some y =>
      rw [e] at ht'
      have : t ∈ us := of_decide_eq_true ht'.symm
      rw [if_pos this]
      unfold putK
      rw [valV_any, e]
      simp
def sp__law_foe (K : PySem.W.Frag) : Sp := fun vs H Q _ => ∃ (n : Nat) (p : Addr) (ts : List Nat), vs = [.int (n : Int), .ref p] ∧ H p = some (.lst (natsV ts)) ∧ 1 ≤ n ∧ n ≤ 24 ∧ ts.length ≤ 200 ∧ Below n ts ∧
  ∀ H' r rws, Same H H' → H r = none → H' r = some (.lst rws) → rws.length = ts.length → (0 < ts.length → ∃ l, rws[ts.length - 1]? = some (.ref l) ∧ LP K H' l (foeL n ts)) → Q (.ref r) H'
end DT
namespace DT
open PySem PySem.Spec PyProof.Rows L2
theorem at_end {xs : List V} {i : Nat} {v : V} (hl : xs.length = i + 1) (h : xs[i]? = some v) : atI xs (-1) = some v := by
  unfold atI ixN
  rw [if_neg (by omega), if_pos (by omega), hl, show (-1 + ((i + 1 : Nat) : Int)).toNat = i by omega]
  exact h
end DT

namespace DT
theorem val_nil : val ((0, 1) : Q2) = 0 := by
  unfold val
  show ((0 : Int) : Rat) / ((1 : Int) : Rat) = 0
  rw [Rat.intCast_zero, Rat.intCast_one]
  grind
/-- the foe's shares: 1 over j to the marked places -/
def marked (n j : Nat) (ms : List Nat) : List Q2 := (List.range n).map fun i => if i ∈ ms then (1, (j : Int)) else (0, 1)
theorem filter_sub {α : Type} [DecidableEq α] {m l : List α} (h : m.Sublist l) : l.Nodup → l.filter (fun x => decide (x ∈ m)) = m := by
  induction h with
  | slnil => intro _; rfl
  | @cons m l a hs ih =>
    intro hn
    obtain ⟨h1, h2⟩ := List.nodup_cons.1 hn
    have ha : a ∉ m := fun z => h1 (hs.subset z)
    rw [List.filter_cons_of_neg (by simpa using ha)]
    exact ih h2
  | @cons_cons m l a hs ih =>
    intro hn
    obtain ⟨h1, h2⟩ := List.nodup_cons.1 hn
    rw [List.filter_cons_of_pos (by simp)]
    have e : l.filter (fun x => decide (x ∈ a :: m)) = l.filter (fun x => decide (x ∈ m)) := by
      refine List.filter_congr fun x hx => ?_
      have : x ≠ a := fun z => h1 (z ▸ hx)
      simp [this]
    rw [e, ih h2]
theorem marked_worth {n j : Nat} {ms : List Nat} (hj : 1 ≤ j) (hs : ms.Sublist (List.range n)) (hl : ms.length = j) : worth (marked n j ms) = 1 := by
  have key : ∀ l : List Nat, worth (l.map fun i => if i ∈ ms then ((1, (j : Int)) : Q2) else (0, 1)) = ((l.filter fun i => decide (i ∈ ms)).length : Rat) * (1 / (j : Rat)) := by
    intro l
    induction l with
    | nil => show (0 : Rat) = ((0 : Nat) : Rat) * _; grind
    | cons a l ih =>
      rw [List.map_cons, worth_cons, ih]
      by_cases h : a ∈ ms
      · rw [if_pos h, List.filter_cons_of_pos (by simpa using h), List.length_cons]
        have e : (((l.filter fun i => decide (i ∈ ms)).length + 1 : Nat) : Rat) = ((l.filter fun i => decide (i ∈ ms)).length : Rat) + 1 := by simp
        have v : val ((1, (j : Int)) : Q2) = 1 / (j : Rat) := rfl
        rw [e, v]
        grind
      · rw [if_neg h, List.filter_cons_of_neg (by simpa using h), val_nil]
        grind
  unfold marked
  rw [key, filter_sub hs List.nodup_range, hl]
  have hp : (j : Rat) ≠ 0 := fun e => by
    have := Rat.intCast_eq_zero_iff.1 (show ((j : Int) : Rat) = 0 from e)
    omega
  grind
end DT

namespace DT
open PySem PySem.Spec PyProof.Rows L2
/-! ### as long as no turn comes twice -/
def stepF (n : Nat) : Nat → Q2
  | 0 => (0, 1)
  | i + 1 => addP (stepF n i) (1, ((n - i : Nat) : Int))
theorem step_all : ∀ n : Fin 25, ∀ k : Fin 25, 1 ≤ k.1 → k.1 ≤ n.1 → mulP (stepF n.1 (n.1 - k.1)) ((k.1 : Int), 1) = lmost (n.1 : Int) (k.1 : Int) ∧ mostM (n.1 : Int) (k.1 : Int) = lmost (n.1 : Int) (k.1 : Int) := by decide +kernel
theorem step_fact {n k : Nat} (h0 : n ≤ 24) (h1 : 1 ≤ k) (h2 : k ≤ n) : mulP (stepF n (n - k)) ((k : Int), 1) = lmost (n : Int) (k : Int) ∧ mostM (n : Int) (k : Int) = lmost (n : Int) (k : Int) := step_all ⟨n, by omega⟩ ⟨k, by omega⟩ h1 h2
theorem rev_ind {P : List Nat → Prop} (nil : P []) (snoc : ∀ us t, P us → P (us ++ [t])) : ∀ us, P us := fun us => by
  have key : ∀ (n : Nat) (us : List Nat), us.length = n → P us := by
    intro n
    induction n with
    | zero => intro us h; rw [List.length_eq_zero_iff.1 h]; exact nil
    | succ n ih =>
      intro us h
      have hne : us ≠ [] := fun z => by rw [z] at h; cases h
      rw [← List.dropLast_concat_getLast hne]
      exact snoc _ _ (ih _ (by rw [List.length_dropLast, h]; rfl))
  exact key _ us rfl
theorem had_nodup {n : Nat} : ∀ (us : List Nat), us.Nodup → Below n us → (hadL n us).length = us.length := by
  intro us
  induction us using rev_ind with
  | nil => intro _ _; exact (HadD.nil (n := n)).2.symm
  | snoc us t ih =>
    intro hn hb
    have ht : t < n := hb t (List.mem_append_right _ List.mem_cons_self)
    obtain ⟨h1, _, h3⟩ := List.nodup_append.1 hn
    have hni : ¬ t ∈ us := fun z => h3 t z t List.mem_cons_self rfl
    rw [had_snoc ht, ih h1 (fun x hx => hb x (List.mem_append_left _ hx)), if_neg hni, List.length_append]
    rfl
theorem step_item {n t : Nat} {us : List Nat} (hn : us.Nodup) (hb : Below n us) (ht : t < n) (hnt : ¬ t ∈ us) : ∀ i, i ≤ us.length → itemP (foeF n us i) t = stepF n i
  | 0, _ => by
    show (List.replicate n ((0, 1) : Q2)).getD t (0, 1) = (0, 1)
    rw [List.getD, List.getElem?_replicate, if_pos ht]
    rfl
  | i + 1, hi => by
    have ih := step_item hn hb ht hnt i (by omega)
    have fl := foeF_len n us i
    have ml := foeM_len n (us.take i)
    have ne : us.getD i 0 ≠ t := fun z => by
      have e : us[i]? = some us[i] := List.getElem?_eq_getElem (by omega)
      rw [nat_at e] at z
      exact hnt (z ▸ List.getElem_mem _)
    have h1 : itemP (foeF n us (i + 1)) t = itemP (List.zipWith addP (foeF n us i) (foeM n (us.take i))) t := by
      show ((List.zipWith addP (foeF n us i) (foeM n (us.take i))).set _ _).getD t (0, 1) = _
      rw [List.getD, List.getElem?_set_ne ne]
      rfl
    have hw := had_wait n (us.take i)
    have hh := had_nodup (n := n) (us.take i) (hn.sublist (List.take_sublist _ _)) (hb.take i)
    rw [List.length_take, Nat.min_eq_left (by omega)] at hh
    have nt : ¬ t ∈ us.take i := fun z => hnt (List.mem_of_mem_take z)
    have hlt : us.length < n ∨ us.length = n ∨ n < us.length := by omega
    have hhu := had_nodup (n := n) us hn hb
    have hin : i < n := by
      have : (hadL n us).length ≤ n := by have := had_wait n us; omega
      omega
    rw [h1, zip_item (by omega) (by omega), ih, foeM_item ht]
    have e1 : ¬ (hadL n (us.take i)).length = n := by omega
    have e2 : ¬ t ∈ hadL n (us.take i) := fun z => nt ((mem_had ht).1 z)
    rw [show dueOne n (us.take i) t = (1, (n : Int) - ((hadL n (us.take i)).length : Int)) from by unfold dueOne; rw [if_neg e1, if_neg e2], hh, show (n : Int) - (i : Int) = ((n - i : Nat) : Int) by omega]
    rfl
theorem put_nodup {us : List Nat} {i m : Nat} (hn : us.Nodup) (hb : Below i us) : (us.take m ++ [i] ++ us.drop m).Nodup := by
  have hp : (us.take m ++ [i] ++ us.drop m).Perm (i :: us) := by
    have h1 : (us.take m ++ [i] ++ us.drop m).Perm ([i] ++ us.take m ++ us.drop m) := (List.perm_append_comm).append_right _
    have h2 : [i] ++ us.take m ++ us.drop m = i :: us := by
      rw [List.append_assoc, List.take_append_drop]
      rfl
    rw [h2] at h1
    exact h1
  refine hp.nodup_iff.2 (List.nodup_cons.2 ⟨fun z => ?_, hn⟩)
  have := hb i z
  omega
theorem Below.mono {n m : Nat} {us : List Nat} (h : Below n us) (e : n ≤ m) : Below m us := fun t ht => Nat.lt_of_lt_of_le (h t ht) e
theorem drop_out {us : List Nat} {t j : Nat} (hn : us.Nodup) (h : t ∈ us.drop j) : ¬ t ∈ us.take j := by
  have e : us.take j ++ us.drop j = us := List.take_append_drop j us
  rw [← e] at hn
  obtain ⟨_, _, h3⟩ := List.nodup_append.1 hn
  exact fun z => h3 t z t h rfl
theorem cutN_from (ms : List Nat) (k : Nat) (h : k ≤ ms.length) : cutV (natsV ms) (some (k : Int)) none = natsV (ms.drop k) := by
  unfold cutV natsV
  rw [HT.sIx_none, HT.sIx_nat, List.length_map, Nat.min_eq_left h, ← List.map_drop, List.take_of_length_le (by rw [List.length_map, List.length_drop]; omega)]
end DT

namespace DT
/-! ### the foe wins -/
theorem nat_ne {j : Nat} (h : 1 ≤ j) : (j : Rat) ≠ 0 := fun e => by
  have := Rat.intCast_eq_zero_iff.1 (show ((j : Int) : Rat) = 0 from e)
  omega
theorem nat_pos {j : Nat} (h : 1 ≤ j) : (0 : Rat) < (j : Rat) := r_pos (a := (j : Int)) (by omega)
theorem nat_le {i j : Nat} (h : i ≤ j) : (i : Rat) ≤ (j : Rat) := Rat.intCast_le_intCast.2 (show (i : Int) ≤ (j : Int) by omega)
theorem val1k (j : Nat) : val ((1, (j : Int)) : Q2) = 1 / (j : Rat) := rfl
theorem one_le {i j : Nat} (h1 : 1 ≤ i) (h2 : i ≤ j) : 1 / (j : Rat) ≤ 1 / (i : Rat) := by
  have p1 := nat_pos h1
  have p2 := nat_pos (show 1 ≤ j by omega)
  refine Rat.not_lt.1 fun z => ?_
  have z1 := (Rat.div_lt_iff p1).1 z
  have e : 1 / (j : Rat) * (i : Rat) = (i : Rat) / (j : Rat) := by grind
  rw [e] at z1
  have z2 := (Rat.lt_div_iff p2).1 z1
  have z3 := nat_le h2
  have e2 : (1 : Rat) * (j : Rat) = (j : Rat) := by grind
  rw [e2] at z2
  exact absurd z3 (Rat.not_le.2 z2)
theorem one_pos {i : Nat} (h1 : 1 ≤ i) : 0 < 1 / (i : Rat) := by
  have p1 := nat_pos h1
  rw [Rat.lt_div_iff p1]
  grind
theorem foe_worth {n : Nat} {ts : List Nat} (h1 : 1 ≤ n) : worth (foeM n ts) = 1 := by
  by_cases e : (waitL n ts).isEmpty = true
  · have e2 : foeM n ts = marked n n (List.range n) := by
      unfold foeM marked
      refine List.map_congr_left fun i hi => ?_
      rw [if_pos hi]
      unfold foeOne
      rw [if_pos e]
    rw [e2]
    exact marked_worth h1 (List.Sublist.refl _) List.length_range
  · have e2 : foeM n ts = marked n (waitL n ts).length (waitL n ts) := by
      unfold foeM marked
      refine List.map_congr_left fun i hi => ?_
      unfold foeOne
      rw [if_neg e]
    rw [e2]
    exact marked_worth (wait_pos e) List.filter_sublist rfl
theorem fold_low : ∀ (xs : List Q2) (x : Q2), Low x.1 x.2 → AllPos xs → Low (xs.foldl addP x).1 (xs.foldl addP x).2
  | [], _, hx, _ => hx
  | y :: ys, x, hx, h => fold_low ys (addP x y) (addP_low hx.pos (h y List.mem_cons_self)) fun z hz => h z (List.mem_cons_of_mem _ hz)
theorem sum_low {xs : List Q2} (h : AllPos xs) : Low (sumP xs).1 (sumP xs).2 := fold_low xs (0, 1) ⟨by decide, rfl⟩ h
theorem foe_sum {n : Nat} {ts : List Nat} (h1 : 1 ≤ n) (h2 : n ≤ 24) : sumP (foeM n ts) = (1, 1) := by
  have ok := foeM_ok (ts := ts) h1 h2
  refine val_inj ?_ (⟨by decide, rfl⟩ : Low 1 1) ?_
  · exact (sum_low ok.pos)
  · rw [sumP_worth ok.pos, foe_worth h1]
    show (1 : Rat) = ((1 : Int) : Rat) / ((1 : Int) : Rat)
    rw [Rat.intCast_one]
    grind
/-- how many wait behind i hours -/
def Wt (n : Nat) (ts : List Nat) (i : Nat) : Nat := (waitL n (ts.take i)).length
def Sm (n : Nat) (ts : List Nat) : Nat → Rat
  | 0 => 0
  | i + 1 => Sm n ts i + 1 / (Wt n ts i : Rat)
def Tl (n : Nat) : Nat → Rat
  | 0 => 0
  | d + 1 => Tl n d + 1 / ((n - d : Nat) : Rat)
theorem item_sum {n t : Nat} {ts : List Nat} (hb : Below n ts) (h1 : 1 ≤ n) (h2 : n ≤ 24) (ht : t < n) : ∀ i, i ≤ ts.length → ¬ t ∈ ts.take i → val (itemP (foeF n ts i) t) = Sm n ts i
  | 0, _, _ => by
    have : itemP (foeF n ts 0) t = (0, 1) := by
      show (List.replicate n ((0, 1) : Q2)).getD t (0, 1) = (0, 1)
      rw [List.getD, List.getElem?_replicate, if_pos ht]
      rfl
    rw [this]
    exact val_nil
  | i + 1, hi, hnt => by
    have e : ts[i]? = some ts[i] := List.getElem?_eq_getElem (by omega)
    rw [List.take_add_one, e] at hnt
    have nt : ¬ t ∈ ts.take i := fun z => hnt (List.mem_append_left _ z)
    have ne : ts.getD i 0 ≠ t := fun z => by
      rw [nat_at e] at z
      exact hnt (List.mem_append_right _ (by rw [z]; exact List.mem_cons_self))
    have ih := item_sum hb h1 h2 ht i (by omega) nt
    have fl := foeF_len n ts i
    have ml := foeM_len n (ts.take i)
    have hh : itemP (foeF n ts (i + 1)) t = itemP (List.zipWith addP (foeF n ts i) (foeM n (ts.take i))) t := by
      show ((List.zipWith addP (foeF n ts i) (foeM n (ts.take i))).set _ _).getD t (0, 1) = _
      rw [List.getD, List.getElem?_set_ne ne]
      rfl
    have hw := had_wait n (ts.take i)
    have hm : t ∈ waitL n (ts.take i) := (mem_wait ht).2 nt
    have e1 : ¬ (waitL n (ts.take i)).isEmpty = true := fun z => by
      rw [List.isEmpty_iff] at z
      rw [z] at hm
      cases hm
    have of := item_ok (foeF_ok h1 h2 hb i) (i := t) (by omega)
    have ef : itemP (foeM n (ts.take i)) t = (1, ((waitL n (ts.take i)).length : Int)) := by
      rw [foeM_item ht, due_foe ht]
      unfold foeOne
      rw [if_neg e1, if_pos hm]
    have pw := wait_pos e1
    rw [hh, zip_item (by omega) (by omega), ef, val_add of.1.pos (by show (0 : Int) < ((waitL n (ts.take i)).length : Int); omega), ih, val1k]
    rfl
theorem Wt_zero (n : Nat) (ts : List Nat) : Wt n ts 0 = n := by
  have h := had_wait n (ts.take 0)
  have : (hadL n (ts.take 0)).length = 0 := (HadD.nil (n := n)).2.symm
  unfold Wt
  omega
theorem Wt_step {n i : Nat} {ts : List Nat} (hb : Below n ts) (hi : i < ts.length) : Wt n ts (i + 1) = Wt n ts i ∨ (Wt n ts (i + 1) + 1 = Wt n ts i) := by
  have e : ts[i]? = some ts[i] := List.getElem?_eq_getElem hi
  have h1 := had_wait n (ts.take i)
  have h2 := had_wait n (ts.take (i + 1))
  have h3 := had_snoc (us := ts.take i) (hb _ (List.getElem_mem hi))
  have e2 : ts.take (i + 1) = ts.take i ++ [ts[i]] := by rw [List.take_add_one, e]; rfl
  rw [← e2] at h3
  unfold Wt
  split at h3 <;> omega
theorem Sm_low {n : Nat} {ts : List Nat} (hb : Below n ts) : ∀ i, i ≤ ts.length → (∀ j, j < i → 1 ≤ Wt n ts j) → Tl n (n - Wt n ts i) ≤ Sm n ts i
  | 0, _, _ => by rw [Wt_zero, Nat.sub_self]; exact Rat.le_refl
  | i + 1, hi, hp => by
    have ih := Sm_low hb i (by omega) fun j hj => hp j (by omega)
    have pw := hp i (by omega)
    have hle : Wt n ts i ≤ n := wait_len n _
    have op := one_pos pw
    show _ ≤ Sm n ts i + 1 / (Wt n ts i : Rat)
    rcases Wt_step hb (show i < ts.length by omega) with e | e
    · rw [e]
      grind
    · have e2 : n - Wt n ts (i + 1) = (n - Wt n ts i) + 1 := by omega
      rw [e2]
      show Tl n (n - Wt n ts i) + 1 / ((n - (n - Wt n ts i) : Nat) : Rat) ≤ _
      rw [show n - (n - Wt n ts i) = Wt n ts i by omega]
      grind
theorem Sm_all {n : Nat} {ts : List Nat} (h1 : 1 ≤ n) : ∀ i, (∀ j, j < i → 1 ≤ Wt n ts j) → (i : Rat) * (1 / (n : Rat)) ≤ Sm n ts i
  | 0, _ => by
    show ((0 : Nat) : Rat) * _ ≤ 0
    have : ((0 : Nat) : Rat) = 0 := rfl
    rw [this]
    grind
  | i + 1, hp => by
    have ih := Sm_all (ts := ts) h1 i fun j hj => hp j (by omega)
    have pw := hp i (by omega)
    have hle : Wt n ts i ≤ n := wait_len n _
    have ol := one_le pw hle
    have e : ((i + 1 : Nat) : Rat) = (i : Rat) + 1 := by simp
    show _ ≤ Sm n ts i + 1 / (Wt n ts i : Rat)
    rw [e]
    grind
theorem Wt_mono {n : Nat} {ts : List Nat} (hb : Below n ts) : ∀ i j, i ≤ j → j ≤ ts.length → Wt n ts j ≤ Wt n ts i := by
  intro i j hij
  induction j with
  | zero => intro _; rw [show i = 0 by omega]; exact Nat.le_refl _
  | succ j ih =>
    intro hj
    by_cases e : i = j + 1
    · rw [e]; exact Nat.le_refl _
    · have := ih (by omega) (by omega)
      rcases Wt_step hb (show j < ts.length by omega) with z | z <;> omega
/-- there is an hour at which just one waits -/
theorem one_waits {n : Nat} {ts : List Nat} (hb : Below n ts) (h2 : 2 ≤ n) : ∀ N, N ≤ ts.length → Wt n ts N = 0 → ∃ i, 1 ≤ i ∧ i ≤ N ∧ Wt n ts i = 1 := by
  intro N
  induction N with
  | zero => intro _ h; rw [Wt_zero] at h; omega
  | succ N ih =>
    intro hN h
    rcases Wt_step hb (show N < ts.length by omega) with z | z
    · obtain ⟨i, h1, h2', h3⟩ := ih (by omega) (by omega)
      exact ⟨i, h1, by omega, h3⟩
    · refine ⟨N, ?_, by omega, by omega⟩
      rcases N with _ | N
      · rw [Wt_zero] at z; omega
      · omega
theorem foe_wins {n : Nat} {ts : List Nat} {B : Rat} (hb : Below n ts) (h2 : 2 ≤ n) (h3 : n ≤ 24) (hB : B = Tl n (n - 1)) (hN : (n : Rat) * B ≤ (ts.length : Rat)) (h0 : 1 ≤ ts.length) : ∃ i t, 1 ≤ i ∧ i ≤ ts.length ∧ t < n ∧ B ≤ val (itemP (foeF n ts i) t) := by
  have pick : ∀ i, i ≤ ts.length → 1 ≤ Wt n ts i → ∃ t, t < n ∧ val (itemP (foeF n ts i) t) = Sm n ts i := fun i hi hw => by
    have : ∃ t, t ∈ waitL n (ts.take i) := List.exists_mem_of_length_pos hw
    obtain ⟨t, ht⟩ := this
    have tn : t < n := List.mem_range.1 (List.mem_filter.1 ht).1
    exact ⟨t, tn, item_sum hb (by omega) h3 tn i hi ((mem_wait tn).1 ht)⟩
  by_cases e : Wt n ts ts.length = 0
  · obtain ⟨i, i1, i2, i3⟩ := one_waits hb h2 ts.length (Nat.le_refl _) e
    obtain ⟨t, tn, ev⟩ := pick i i2 (by omega)
    refine ⟨i, t, i1, i2, tn, ?_⟩
    rw [ev, hB, ← i3]
    exact Sm_low hb i i2 fun j hj => by
      have := Wt_mono hb j i (by omega) i2
      omega
  · obtain ⟨t, tn, ev⟩ := pick ts.length (Nat.le_refl _) (by omega)
    refine ⟨ts.length, t, h0, Nat.le_refl _, tn, ?_⟩
    have hs := Sm_all (n := n) (ts := ts) (by omega) ts.length fun j hj => by
      have := Wt_mono hb j ts.length (by omega) (Nat.le_refl _)
      omega
    rw [ev]
    refine Rat.le_trans ?_ hs
    have pn := nat_pos (show 1 ≤ n by omega)
    refine Rat.not_lt.1 fun z => ?_
    have e1 : (ts.length : Rat) * (1 / (n : Rat)) = (ts.length : Rat) / (n : Rat) := by grind
    rw [e1] at z
    have z2 := (Rat.div_lt_iff pn).1 z
    have e2 : B * (n : Rat) = (n : Rat) * B := by grind
    rw [e2] at z2
    exact absurd hN (Rat.not_le.2 z2)
/-- the law's bound -/
theorem lmost_tail : ∀ n : Fin 25, 2 ≤ n.1 → lmost (n.1 : Int) 1 = (stepF n.1 (n.1 - 1)) := by decide +kernel
theorem step_val {n : Nat} : ∀ d, d < n → val (stepF n d) = Tl n d ∧ 0 < (stepF n d).2
  | 0, _ => ⟨val_nil, (by decide : (0 : Int) < 1)⟩
  | d + 1, h => by
    obtain ⟨e, p⟩ := step_val (n := n) d (by omega)
    have p2 : 0 < (((1, ((n - d : Nat) : Int)) : Q2)).2 := by show (0 : Int) < ((n - d : Nat) : Int); omega
    refine ⟨?_, (addP_low p p2).pos⟩
    show val (addP (stepF n d) (1, ((n - d : Nat) : Int))) = Tl n d + 1 / ((n - d : Nat) : Rat)
    rw [val_add p p2, e, val1k]
theorem bound_val {n : Nat} (h2 : 2 ≤ n) (h3 : n ≤ 24) : val (lmost (n : Int) 1) = Tl n (n - 1) ∧ 0 < (lmost (n : Int) 1).2 := by
  have := lmost_tail ⟨n, by omega⟩ h2
  rw [show lmost (n : Int) 1 = stepF n (n - 1) from this]
  exact step_val (n - 1) (by omega)
def hoursI (n : Int) : Int := -(-(mulP (n, 1) (behindM n)).1 / (mulP (n, 1) (behindM n)).2)
theorem hours_all : ∀ n : Fin 25, 2 ≤ n.1 → 0 < hoursI (n.1 : Int) ∧ hoursI (n.1 : Int) ≤ 70 ∧ lessP (hoursI (n.1 : Int), 1) (mulP ((n.1 : Int), 1) (lmost (n.1 : Int) 1)) = false := by decide +kernel
theorem hours_fact {n : Nat} (h2 : 2 ≤ n) (h3 : n ≤ 24) : ∃ N : Nat, hoursI (n : Int) = (N : Int) ∧ 1 ≤ N ∧ N ≤ 70 ∧ (n : Rat) * Tl n (n - 1) ≤ (N : Rat) := by
  obtain ⟨a, b, c⟩ := hours_all ⟨n, by omega⟩ h2
  refine ⟨(hoursI (n : Int)).toNat, by show hoursI (n : Int) = _; have : 0 < hoursI (n : Int) := a; omega, by have : 0 < hoursI (n : Int) := a; omega, by have : hoursI (n : Int) ≤ 70 := b; omega, ?_⟩
  obtain ⟨ev, pb⟩ := bound_val h2 h3
  have p1 : (0 : Int) < (((n : Int), 1) : Q2).2 := (show (0 : Int) < 1 by decide)
  have pm : 0 < (mulP ((n : Int), 1) (lmost (n : Int) 1)).2 := (lowP_low (Int.mul_pos p1 pb)).pos
  have c' : ¬ lessP (hoursI (n : Int), 1) (mulP ((n : Int), 1) (lmost (n : Int) 1)) = true := by
    rw [show lessP (hoursI (n : Int), 1) (mulP ((n : Int), 1) (lmost (n : Int) 1)) = false from c]
    decide
  rw [lessP_iff (show (0 : Int) < 1 by decide) pm, val_mul p1 pb, ev] at c'
  have vn : ∀ z : Int, val ((z, 1) : Q2) = (z : Rat) := fun z => by
    unfold val
    show (z : Rat) / ((1 : Int) : Rat) = _
    rw [Rat.intCast_one]
    grind
  rw [vn, vn] at c'
  have e : (((hoursI (n : Int)).toNat : Nat) : Rat) = ((hoursI (n : Int) : Int) : Rat) := by
    have hz : (((hoursI (n : Int)).toNat : Nat) : Int) = hoursI (n : Int) := by have : 0 < hoursI (n : Int) := a; omega
    rw [← hz]
    rfl
  rw [e]
  exact Rat.not_lt.1 c'
theorem foeF_app {n : Nat} {ts us : List Nat} : ∀ i, i ≤ ts.length → foeF n (ts ++ us) i = foeF n ts i
  | 0, _ => rfl
  | i + 1, h => by
    have e : (ts ++ us).getD i 0 = ts.getD i 0 := by rw [List.getD, List.getD, List.getElem?_append_left (by omega)]
    show takeOne (List.zipWith addP (foeF n (ts ++ us) i) (foeM n ((ts ++ us).take i))) _ = takeOne (List.zipWith addP (foeF n ts i) (foeM n (ts.take i))) _
    rw [foeF_app i (by omega), e, List.take_append_of_le_length (by omega)]
end DT
namespace DT
theorem foe_nonneg {n : Nat} {ts : List Nat} {x : Q2} (h : x ∈ foeM n ts) : 0 ≤ x.1 := by
  obtain ⟨i, _, rfl⟩ := List.mem_map.1 h
  unfold foeOne
  split
  · exact Int.zero_le_ofNat 1
  · split
    · exact Int.zero_le_ofNat 1
    · exact Int.le_refl 0
end DT

namespace DT
open PySem PySem.Spec PyProof.Rows L2
theorem sumN0 (N : Nat) : Ok ((N + 1) * (0 + 1)) (sumP []) := (⟨by decide, by unfold Bd; decide, by unfold Bd; decide⟩ : Ok 1 (sumP [])).mono (by omega)
/-- the sum of a list of any pairs, their size with it -/
def sp_sumN (K : PySem.W.Frag) (C : Q2 → Prop) : Sp := fun vs H Q _ => ∃ (l : Addr) (us : List V) (xs : List Q2) (N : Nat), vs = [.ref l] ∧ SqL K H l us ∧ Pps K H us xs ∧ (∀ x ∈ xs, Ok N x) ∧ (N + 1) * (xs.length + 1) ≤ 8890 ∧ (∀ x ∈ xs, C x) ∧
  ∀ H' r, Same H H' → Pp K H' r (sumP xs) → Ok ((N + 1) * (xs.length + 1)) (sumP xs) → Low (sumP xs).1 (sumP xs).2 → Q r H'
end DT

namespace DT
open PySem PySem.Spec PyProof.Rows L2
def topS (i : Nat) : Stmt := PySem.Challenge.pw_ditchturn_k17_whole_foe_wins.main.body.getD i (.Pass ⟨0, 0, 0, 0⟩)
abbrev s_common : Stmt := topS 1
abbrev N_common : List Str := ["a", "b"]
theorem sc_common : FnScope N_common ["a", "b"] (defScope s_common) := ⟨rfl, rfl, rfl, by decide +kernel, rfl, by decide +kernel, by decide +kernel⟩
abbrev s_lowest : Stmt := topS 2
abbrev N_lowest : List Str := ["top", "bottom", "shared"]
theorem sc_lowest : FnScope N_lowest ["top", "bottom"] (defScope s_lowest) := ⟨rfl, rfl, rfl, by decide +kernel, rfl, by decide +kernel, by decide +kernel⟩
abbrev s_plus : Stmt := topS 3
abbrev N_plus : List Str := ["a", "b", "shared", "rest", "top", "again"]
theorem sc_plus : FnScope N_plus ["a", "b"] (defScope s_plus) := ⟨rfl, rfl, rfl, by decide +kernel, rfl, by decide +kernel, by decide +kernel⟩
abbrev s_times : Stmt := topS 4
abbrev N_times : List Str := ["a", "b"]
theorem sc_times : FnScope N_times ["a", "b"] (defScope s_times) := ⟨rfl, rfl, rfl, by decide +kernel, rfl, by decide +kernel, by decide +kernel⟩
abbrev s_total : Stmt := topS 5
abbrev N_total : List Str := ["row", "result", "part"]
theorem sc_total : FnScope N_total ["row"] (defScope s_total) := ⟨rfl, rfl, rfl, by decide +kernel, rfl, by decide +kernel, by decide +kernel⟩
abbrev s_ceil_of : Stmt := topS 6
abbrev N_ceil_of : List Str := ["a"]
theorem sc_ceil_of : FnScope N_ceil_of ["a"] (defScope s_ceil_of) := ⟨rfl, rfl, rfl, by decide +kernel, rfl, by decide +kernel, by decide +kernel⟩
abbrev s_unit_sum : Stmt := topS 8
abbrev N_unit_sum : List Str := ["first", "last", "number"]
theorem sc_unit_sum : FnScope N_unit_sum ["first", "last"] (defScope s_unit_sum) := ⟨rfl, rfl, rfl, by decide +kernel, rfl, by decide +kernel, by decide +kernel⟩
abbrev s_behind : Stmt := topS 9
abbrev N_behind : List Str := ["many"]
theorem sc_behind : FnScope N_behind ["many"] (defScope s_behind) := ⟨rfl, rfl, rfl, by decide +kernel, rfl, by decide +kernel, by decide +kernel⟩
abbrev s_foe_hours : Stmt := topS 10
abbrev N_foe_hours : List Str := ["many"]
theorem sc_foe_hours : FnScope N_foe_hours ["many"] (defScope s_foe_hours) := ⟨rfl, rfl, rfl, by decide +kernel, rfl, by decide +kernel, by decide +kernel⟩
abbrev s_foe_shares : Stmt := topS 12
abbrev N_foe_shares : List Str := ["many", "turns", "waiting", "place"]
theorem sc_foe_shares : FnScope N_foe_shares ["many", "turns"] (defScope s_foe_shares) := ⟨rfl, rfl, rfl, by decide +kernel, rfl, by decide +kernel, by decide +kernel⟩
abbrev s__law_whole : Stmt := topS 15
abbrev N__law_whole : List Str := ["_law_found"]
theorem sc__law_whole : FnScope N__law_whole ["_law_found"] (defScope s__law_whole) := ⟨rfl, rfl, rfl, by decide +kernel, rfl, by decide +kernel, by decide +kernel⟩
abbrev s__law_low : Stmt := topS 16
abbrev N__law_low : List Str := ["_law_top", "_law_bottom", "_law_one", "_law_other"]
theorem sc__law_low : FnScope N__law_low ["_law_top", "_law_bottom"] (defScope s__law_low) := ⟨rfl, rfl, rfl, by decide +kernel, rfl, by decide +kernel, by decide +kernel⟩
abbrev s__law_add : Stmt := topS 17
abbrev N__law_add : List Str := ["_law_a", "_law_b"]
theorem sc__law_add : FnScope N__law_add ["_law_a", "_law_b"] (defScope s__law_add) := ⟨rfl, rfl, rfl, by decide +kernel, rfl, by decide +kernel, by decide +kernel⟩
abbrev s__law_sub : Stmt := topS 18
abbrev N__law_sub : List Str := ["_law_a", "_law_b"]
theorem sc__law_sub : FnScope N__law_sub ["_law_a", "_law_b"] (defScope s__law_sub) := ⟨rfl, rfl, rfl, by decide +kernel, rfl, by decide +kernel, by decide +kernel⟩
abbrev s__law_less : Stmt := topS 19
abbrev N__law_less : List Str := ["_law_a", "_law_b"]
theorem sc__law_less : FnScope N__law_less ["_law_a", "_law_b"] (defScope s__law_less) := ⟨rfl, rfl, rfl, by decide +kernel, rfl, by decide +kernel, by decide +kernel⟩
abbrev s__law_sum : Stmt := topS 20
abbrev N__law_sum : List Str := ["_law_row", "_law_found", "_law_a"]
theorem sc__law_sum : FnScope N__law_sum ["_law_row"] (defScope s__law_sum) := ⟨rfl, rfl, rfl, by decide +kernel, rfl, by decide +kernel, by decide +kernel⟩
abbrev s__law_part : Stmt := topS 21
abbrev N__law_part : List Str := ["_law_found"]
theorem sc__law_part : FnScope N__law_part ["_law_found"] (defScope s__law_part) := ⟨rfl, rfl, rfl, by decide +kernel, rfl, by decide +kernel, by decide +kernel⟩
abbrev s__law_parts : Stmt := topS 22
abbrev N__law_parts : List Str := ["_law_found", "_law_a"]
theorem sc__law_parts : FnScope N__law_parts ["_law_found"] (defScope s__law_parts) := ⟨rfl, rfl, rfl, by decide +kernel, rfl, by decide +kernel, by decide +kernel⟩
abbrev s__law_most : Stmt := topS 23
abbrev N__law_most : List Str := ["_law_n", "_law_k", "_law_found", "_law_j"]
theorem sc__law_most : FnScope N__law_most ["_law_n", "_law_k"] (defScope s__law_most) := ⟨rfl, rfl, rfl, by decide +kernel, rfl, by decide +kernel, by decide +kernel⟩
abbrev s__law_first : Stmt := topS 24
abbrev N__law_first : List Str := ["_law_row", "_law_at", "_law_k"]
theorem sc__law_first : FnScope N__law_first ["_law_row"] (defScope s__law_first) := ⟨rfl, rfl, rfl, by decide +kernel, rfl, by decide +kernel, by decide +kernel⟩
abbrev s__law_flow : Stmt := topS 14
abbrev N__law_flow : List Str := ["_law_script", "_law_many", "_law_great", "_law_row", "_law_k", "_law_cell", "_law_mixed"]
theorem sc__law_flow : FnScope N__law_flow ["_law_script", "_law_many"] (defScope s__law_flow) := ⟨rfl, rfl, rfl, by decide +kernel, rfl, by decide +kernel, by decide +kernel⟩
abbrev s_law : Stmt := topS 25
abbrev N_law : List Str := ["_law_script", "_law_row", "_law_n", "_law_bound", "_law_hours", "_law_place", "_law_lags", "_law_turns", "_law_hour", "_law_shares", "_law_left", "_law_lag", "_law_share", "_law_k"]
theorem sc_law : FnScope N_law ["_law_script"] (defScope s_law) := ⟨rfl, rfl, rfl, by decide +kernel, rfl, by decide +kernel, by decide +kernel⟩
section
variable {P : Program} {w : World} {K : PySem.W.Frag} {mg : Str → Option Value} {base : Heap}
def sp_common : Sp := fun vs H Q _ => ∃ a b : Int, vs = [.int a, .int b] ∧ 0 < b ∧ Q (.int (gc a b)) H
theorem ok_common {k : Nat} (D : Df K mg "common" s_common ["a", "b"]) : FnOk P w K mg base CX0 (k + 1) D.f D.fd ["a", "b"] sp_common := by
  refine D.F.ok sc_common (fun vs H Q E h => ?_) (fun cdv A outer s H vs Q E hr h => ?_)
  · obtain ⟨a, b, rfl, _⟩ := h
    rfl
  · obtain ⟨a, b, rfl, hb, q⟩ := h
    refine ⟨_, (pss_cons (ps_while PassesOwn.never (pt_cmpR op_gt (pv 1) pe_int (nomark _)) (pss_one (ps_par (i := 0) (j := 1) (by rfl) sc_common.nd rfl rfl (by decide) rfl rfl (pa_cons (pv 1) (pa_cons (pe_op op_mod (pv 0) (pv 1)) pa_nil)) (by rfl))))
      (pss_one (ps_ret (pv 0)))), ?_⟩
    refine while_by (fun σ H' => ∃ x y : Int, σ = [some (.int x), some (.int y)] ∧ H' = H ∧ 0 ≤ y ∧ Int.gcd x y = Int.gcd a b ∧ (y = 0 → 0 ≤ x))
      (fun σ _ => match σ with | [_, some (.int y)] => y.toNat | _ => 0) ⟨a, b, rfl, rfl, by omega, rfl, by omega⟩ ?_ ?_
    · rintro σ H' ⟨x, y, rfl, rfl, h0, hg, hz⟩
      refine ⟨_, rfl, _, _, rfl, rfl, _, rfl, ite2 (fun e => ?_) (fun e => ?_)⟩
      · have e1 : 0 < y := of_decide_eq_true e
        refine ⟨_, rfl, _, rfl, _, rfl, _, _, rfl, rfl, e1, _, _, rfl, ⟨y, x % y, rfl, rfl, Int.emod_nonneg x (by omega), gc_step.trans hg, fun _ => by omega⟩, ?_⟩
        show (x % y).toNat < y.toNat
        have := Int.emod_lt_of_pos x e1
        have := Int.emod_nonneg x (show y ≠ 0 by omega)
        omega
      · have e1 : ¬ 0 < y := fun z => e (decide_eq_true z)
        have e2 : y = 0 := by omega
        subst e2
        refine ⟨_, rfl, ?_⟩
        have e3 : x = gc a b := by
          unfold gc
          rw [← hg, Int.gcd_zero]
          have := hz rfl
          omega
        rw [e3]
        exact q
    · rintro σ H' Q1 Q2 hq ⟨v, e, i, j, e1, e2, c, e3, r⟩
      exact ⟨v, e, i, j, e1, e2, c, e3, hq _ _ r⟩

theorem ok_lowest {k : Nat} (D : Df K mg "lowest" s_lowest ["top", "bottom"]) (D_common : Df K mg "common" s_common ["a", "b"]) : FnOk P w K mg base CX0 (k + 2) D.f D.fd ["top", "bottom"] (sp_lowest K) := by
  have G_common : FnOk P w K mg base CX0 1 D_common.f D_common.fd ["a", "b"] sp_common := ok_common D_common
  refine D.F.ok sc_lowest (fun vs H Q E h => ?_) (fun cdv A outer s H vs Q E hr h => ?_)
  · obtain ⟨a, b, rfl, _⟩ := h
    rfl
  · obtain ⟨t, b, rfl, hb, hB, q⟩ := h
    refine ⟨_, (pss_cons (ps_set (i := 2) sc_lowest.nd rfl (.inl rfl) (pe_call G_common (hr.mono (by omega)) (by rfl) D_common.g D_common.F.kp D_common.b .nil pass0 (pa_cons (pv 0) (pa_cons (pv 1) pa_nil))))
      (pss_one (ps_ret (pe_tup (pa_cons (pe_op op_fdivW (pv 0) (pv 2)) (pa_cons (pe_op op_fdivW (pv 1) (pv 2)) pa_nil)))))), ?_⟩
    have hg := gc_pos (a := t) hb
    have hk := hB.gc (x := t) hb
    refine ⟨_, rfl, _, rfl, t, b, rfl, hb, ?_⟩
    refine ⟨_, rfl, _, rfl, _, _, rfl, rfl, bd_divok hg hk (by decide), _, rfl, _, rfl, _, _, rfl, rfl, bd_divok hg hk (by decide), (by show 2 ≤ sizeLine; decide), fun p hp => ?_⟩
    exact q _ _ (same_upd hp) Pr.new

theorem ok_plus {k : Nat} (D : Df K mg "plus" s_plus ["a", "b"]) (D_common : Df K mg "common" s_common ["a", "b"]) : FnOk P w K mg base CX0 (k + 2) D.f D.fd ["a", "b"] (sp_two K lowC addP) := by
  have G_common : FnOk P w K mg base CX0 1 D_common.f D_common.fd ["a", "b"] sp_common := ok_common D_common
  refine D.F.ok sc_plus (fun vs H Q E h => len_two h) (fun cdv A outer s H vs Q E hr h => ?_)
  obtain ⟨v, u, x, y, n, m, rfl, ⟨p, rfl, hp⟩, ⟨r, rfl, hq⟩, ox, oy, hn, ⟨lx, ly⟩, q⟩ := h
  refine ⟨_, (pss_cons (ps_set (i := 2) sc_plus.nd rfl (.inl rfl) (pe_call G_common (hr.mono (by omega)) (by rfl) D_common.g D_common.F.kp D_common.b .nil pass0 (pa_cons (pe_ix ix_tup (pv 0) pe_int (fun _ _ => rfl)) (pa_cons (pe_ix ix_tup (pv 1) pe_int (fun _ _ => rfl)) pa_nil))))
      (pss_cons (ps_set (i := 3) sc_plus.nd rfl (.inl rfl) (pe_op op_fdivW (pe_ix ix_tup (pv 0) pe_int (fun _ _ => rfl)) (pv 2)))
      (pss_cons (ps_set (i := 4) sc_plus.nd rfl (.inl rfl) (pe_op op_add (pe_op op_mulW (pe_ix ix_tup (pv 0) pe_int (fun _ _ => rfl)) (pe_op op_fdivW (pe_ix ix_tup (pv 1) pe_int (fun _ _ => rfl)) (pv 2))) (pe_op op_mulW (pe_ix ix_tup (pv 1) pe_int (fun _ _ => rfl)) (pv 3))))
      (pss_cons (ps_set (i := 5) sc_plus.nd rfl (.inl rfl) (pe_call G_common (hr.mono (by omega)) (by rfl) D_common.g D_common.F.kp D_common.b .nil pass0 (pa_cons (pv 4) (pa_cons (pv 2) pa_nil))))
      (pss_one (ps_ret (pe_tup (pa_cons (pe_op op_fdivW (pv 4) (pv 5)) (pa_cons (pe_op op_mulW (pv 3) (pe_op op_fdivW (pe_ix ix_tup (pv 1) pe_int (fun _ _ => rfl)) (pv 5))) pa_nil))))))))), ?_⟩
  have hs := gc_pos (a := x.2) oy.pos
  have bs := oy.bot.gc (x := x.2) oy.pos
  have br := ox.bot.div (gc_dl x.2 y.2)
  have bt := (ox.top.mul (oy.bot.div (gc_dr x.2 y.2))).add ((oy.top.mul br).mono (show m + n ≤ n + m by omega))
  have hg := gc_pos (a := x.1 * (y.2 / gc x.2 y.2) + y.1 * (x.2 / gc x.2 y.2)) hs
  have bg := bs.gc (x := x.1 * (y.2 / gc x.2 y.2) + y.1 * (x.2 / gc x.2 y.2)) hs
  have gd : gc (x.1 * (y.2 / gc x.2 y.2) + y.1 * (x.2 / gc x.2 y.2)) (gc x.2 y.2) ∣ y.2 := Int.dvd_trans (gc_dr _ _) (gc_dr _ _)
  refine ⟨_, rfl, p, _, 1, _, rfl, rfl, hp, rfl, _, rfl, r, _, 1, _, rfl, rfl, hq, rfl, _, _, rfl, oy.pos, ?_⟩
  refine ⟨_, rfl, p, _, 1, _, rfl, rfl, hp, rfl, _, rfl, _, _, rfl, rfl, bd_divok hs bs (by omega), ?_⟩
  refine ⟨_, rfl, p, _, 0, _, rfl, rfl, hp, rfl, _, rfl, r, _, 1, _, rfl, rfl, hq, rfl, _, rfl, _, _, rfl, rfl, bd_divok hs bs (by omega), _, _, rfl, rfl, bd_mulok ox.top (oy.bot.div (gc_dr x.2 y.2)) (by omega), _, rfl, r, _, 0, _, rfl, rfl, hq, rfl, _, rfl, _, _, rfl, rfl, bd_mulok oy.top br (by omega), _, _, rfl, rfl, ?_⟩
  refine ⟨_, rfl, _, rfl, _, _, rfl, hs, ?_⟩
  refine ⟨_, rfl, _, rfl, _, _, rfl, rfl, bd_divok hg bg (by omega), _, rfl, _, rfl, r, _, 1, _, rfl, rfl, hq, rfl, _, rfl, _, _, rfl, rfl, bd_divok hg bg (by omega), _, _, rfl, rfl, bd_mulok br (oy.bot.div gd) (by omega), (by show 2 ≤ sizeLine; decide), fun t ht => ?_⟩
  refine q _ _ (same_upd ht) ?_
  obtain ⟨e1, e2⟩ := plus_is lx ly
  show Pr K _ _ (addP x y).1 (addP x y).2
  unfold addP lowP
  dsimp only
  rw [← e1, ← e2]
  exact Pr.new

theorem ok_times {k : Nat} (D : Df K mg "times" s_times ["a", "b"]) (D_common : Df K mg "common" s_common ["a", "b"]) (D_lowest : Df K mg "lowest" s_lowest ["top", "bottom"]) : FnOk P w K mg base CX0 (k + 3) D.f D.fd ["a", "b"] (sp_two K anyC mulP) := by
  have G_lowest : FnOk P w K mg base CX0 2 D_lowest.f D_lowest.fd ["top", "bottom"] (sp_lowest K) := ok_lowest D_lowest D_common
  refine D.F.ok sc_times (fun vs H Q E h => len_two h) (fun cdv A outer s H vs Q E hr h => ?_)
  obtain ⟨v, u, x, y, n, m, rfl, ⟨p, rfl, hp⟩, ⟨r, rfl, hq⟩, ox, oy, hn, _, q⟩ := h
  refine ⟨_, (pss_one (ps_ret (pe_call G_lowest (hr.mono (by omega)) (by rfl) D_lowest.g D_lowest.F.kp D_lowest.b .nil pass0 (pa_cons (pe_op op_mulW (pe_ix ix_tup (pv 0) pe_int (fun _ _ => rfl)) (pe_ix ix_tup (pv 1) pe_int (fun _ _ => rfl))) (pa_cons (pe_op op_mulW (pe_ix ix_tup (pv 0) pe_int (fun _ _ => rfl)) (pe_ix ix_tup (pv 1) pe_int (fun _ _ => rfl))) pa_nil))))), ?_⟩
  refine ⟨_, rfl, p, _, 0, _, rfl, rfl, hp, rfl, _, rfl, r, _, 0, _, rfl, rfl, hq, rfl, _, _, rfl, rfl, bd_mulok ox.top oy.top (by omega), ?_⟩
  refine ⟨_, rfl, p, _, 1, _, rfl, rfl, hp, rfl, _, rfl, r, _, 1, _, rfl, rfl, hq, rfl, _, _, rfl, rfl, bd_mulok ox.bot oy.bot (by omega), ?_⟩
  exact ⟨_, _, rfl, Int.mul_pos ox.pos oy.pos, (ox.bot.mul oy.bot).mono (by omega), fun H' r' sm pr => q _ _ sm pr⟩

theorem ok_total {k : Nat} (D : Df K mg "total" s_total ["row"]) (D_common : Df K mg "common" s_common ["a", "b"]) (D_plus : Df K mg "plus" s_plus ["a", "b"]) : FnOk P w K mg base CX0 (k + 3) D.f D.fd ["row"] (sp_sum K lowS) := by
  have G_plus : FnOk P w K mg base CX0 2 D_plus.f D_plus.fd ["a", "b"] (sp_two K lowC addP) := ok_plus D_plus D_common
  refine D.F.ok sc_total (fun vs H Q E h => ?_) (fun cdv A outer s H vs Q E hr h => ?_)
  · obtain ⟨l, us, xs, rfl, _⟩ := h
    rfl
  obtain ⟨l, us, xs, rfl, hl, hP, ho, hn, hC, q⟩ := h
  refine ⟨_, (pss_cons (ps_set (i := 1) sc_total.nd rfl (.inl rfl) (pe_tup (pa_cons pe_int (pa_cons pe_int pa_nil))))
      (pss_cons (ps_for PassesOwn.never rfl (pi_list (pv 0)) (pg_name (i := 2) sc_total.nd rfl (.inl rfl)) (pss_one (ps_set (i := 1) sc_total.nd rfl (.inl rfl) (pe_call G_plus (hr.mono (by omega)) (by rfl) D_plus.g D_plus.F.kp D_plus.b .nil pass0 (pa_cons (pv 1) (pa_cons (pv 2) pa_nil))))))
      (pss_one (ps_ret (pv 1))))), ?_⟩
  refine ⟨(by show 2 ≤ sizeLine; decide), fun t ht => ?_⟩
  refine ⟨_, rfl, l, rfl, ⟨_, (same_upd ht).seq hl⟩, ?_⟩
  refine for_list (xs := us) (fun i σ H3 => ∃ v y2, σ = [some (.ref l), some v, y2] ∧ Same H H3 ∧ Pp K H3 v (sumP (xs.take i)) ∧ Ok (201 * (i + 1)) (sumP (xs.take i)) ∧ Low (sumP (xs.take i)).1 (sumP (xs.take i)).2)
    ⟨_, _, rfl, same_upd ht, Pr.new, sumP_ok0, sumP_low0⟩ (fun i σ H3 _ hW => ?_) (fun i z σ H3 hz hW => ?_) (fun σ H3 hW => ?_)
  · obtain ⟨v, y2, rfl, sm, _⟩ := hW
    exact sm.seq hl
  · obtain ⟨v, y2, rfl, sm, pv', ov, lv⟩ := hW
    obtain ⟨x, hx, px⟩ := pps_get hP hz
    have hi := List.getElem?_eq_some_iff.1 hx
    obtain ⟨hi, ex⟩ := hi
    have hmem : x ∈ xs := ex ▸ List.getElem_mem hi
    refine ⟨_, rfl, _, rfl, v, z, _, x, _, 200, rfl, pv', px.same sm, ov, ho x hmem, by omega, ⟨lv, hC x hmem⟩, fun H4 r sm4 pr => ?_⟩
    have es := sumP_take hx
    refine ⟨r, _, rfl, sm.trans sm4, ?_, ?_, ?_⟩
    · rw [es]
      exact pr
    · rw [es]
      exact (addP_ok ov (ho x hmem)).mono (by omega)
    · rw [es]
      exact addP_low ov.pos (ho x hmem).pos
  · obtain ⟨v, y2, rfl, sm, pv', ov, lv⟩ := hW
    rw [hP.len, List.take_length] at pv' ov lv
    exact ⟨_, rfl, q _ _ sm pv' (ov.mono (by omega)) lv⟩

def sp_ceil_of (K : PySem.W.Frag) : Sp := fun vs H Q _ => ∃ (v : V) (a b : Int), vs = [v] ∧ Pr K H v a b ∧ 0 < b ∧ Bd 8000 b ∧ Q (.int (-(-a / b))) H
theorem ok_ceil_of {k : Nat} (D : Df K mg "ceil_of" s_ceil_of ["a"]) : FnOk P w K mg base CX0 (k + 1) D.f D.fd ["a"] (sp_ceil_of K) := by
  refine D.F.ok sc_ceil_of (fun vs H Q E h => ?_) (fun cdv A outer s H vs Q E hr h => ?_)
  · obtain ⟨v, a, b, rfl, _⟩ := h
    rfl
  · obtain ⟨v, a, b, rfl, ⟨p, rfl, hp⟩, hb, hB, q⟩ := h
    refine ⟨_, (pss_one (ps_ret (pe_un un_neg (pe_op op_fdivW (pe_un un_neg (pe_ix ix_tup (pv 0) pe_int (fun _ _ => rfl))) (pe_ix ix_tup (pv 0) pe_int (fun _ _ => rfl)))))), ?_⟩
    exact ⟨_, rfl, p, _, 0, _, rfl, rfl, hp, rfl, _, rfl, _, rfl, p, _, 1, _, rfl, rfl, hp, rfl, _, _, rfl, rfl, bd_divok hb hB (by decide), _, rfl, q⟩

theorem ok_unit_sum {k : Nat} (D : Df K mg "unit_sum" s_unit_sum ["first", "last"]) (D_common : Df K mg "common" s_common ["a", "b"]) (D_plus : Df K mg "plus" s_plus ["a", "b"]) (D_total : Df K mg "total" s_total ["row"]) (m_range : mg "range" = none) : FnOk P w K mg base CX0 (k + 4) D.f D.fd ["first", "last"] (sp_unit K) := by
  have G_total : FnOk P w K mg base CX0 3 D_total.f D_total.fd ["row"] (sp_sum K lowS) := ok_total D_total D_common D_plus
  refine D.F.ok sc_unit_sum (fun vs H Q E h => ?_) (fun cdv A outer s H vs Q E hr h => ?_)
  · obtain ⟨f, l, rfl, _⟩ := h
    rfl
  obtain ⟨f, l, rfl, hf, hl, q⟩ := h
  refine ⟨_, (pss_one (ps_ret (pe_call G_total (hr.mono (by omega)) (by rfl) D_total.g D_total.F.kp D_total.b .nil pass0 (pa_cons (pe_lc (own := [("number", 2)]) (g := gName 2) (tt := tYes) rfl sc_unit_sum.nd (pi_range2 (by rfl) m_range (pa_cons (pv 0) (pa_cons (pe_op op_add (pv 1) pe_int) pa_nil))) (blkOk_by (N := N_unit_sum) (sc := defScope s_unit_sum) (by decide +kernel)) (fun _ _ _ _ _ => pg_name (i := 2) sc_unit_sum.nd rfl (Or.inl rfl)) (fun _ _ _ _ _ => pts_nil) (fun _ _ _ _ _ => (pe_tup (pa_cons pe_int (pa_cons (pv 2) pa_nil))))) pa_nil)))), ?_⟩
  refine ⟨_, rfl, _, rfl, _, _, rfl, rfl, _, _, rfl, ⟨by omega, by omega, by omega, by omega⟩, fun Dd hD => ?_⟩
  refine lc_range (fun i H' => ∃ us, H' Dd = some (.lst us) ∧ Pps K H' us (units f i) ∧ Same H H') ⟨[], upd_same, .nil, same_upd hD⟩ (fun i H' hi hW => ?_) (fun H' hW => ?_)
  · obtain ⟨us, eD, hP, sm⟩ := hW
    refine ⟨rfl, ?_⟩
    dsimp only [tYes]
    rw [if_pos rfl]
    refine ⟨_, rfl, (by show 2 ≤ sizeLine; decide), fun t ht => ?_⟩
    have st : Same H' (upd H' t (.tup [.int 1, .int (f + (i : Int))])) := same_upd ht
    have eD2 := st _ _ eD
    refine ⟨us, eD2, small1000 (by rw [hP.len, units_len]; omega), us ++ [.ref t], upd_same, ?_, ?_⟩
    · rw [units_succ]
      have sd : ∀ b o, (upd H' t (.tup [.int 1, .int (f + (i : Int))])) b = some o → b ≠ Dd → upd (upd H' t (.tup [.int 1, .int (f + (i : Int))])) Dd (.lst (us ++ [.ref t])) b = some o := fun b o e n => by
        rw [upd_ne n]
        exact e
      exact ((hP.same st).off sd eD2).snoc (Pp.off (x := (1, f + (i : Int))) (Pr.new) sd eD2)
    · intro b o e
      show upd (upd H' t _) Dd _ b = some o
      rw [upd_ne (ne_of_none e hD)]
      exact st _ _ (sm _ _ e)
  · obtain ⟨us, eD, hP, sm⟩ := hW
    have hn : (l + 1 - f).toNat ≤ 30 := by omega
    exact ⟨Dd, us, _, rfl, SqL.of eD, hP, fun x hx => (units_in hf.1 hf.2 hn hx).1, by rw [units_len]; exact hn, fun x hx => (units_in hf.1 hf.2 hn hx).2, fun Ha r sa pr o l' => q _ _ (sm.trans sa) pr o l'⟩

theorem ok_behind {k : Nat} (D : Df K mg "behind" s_behind ["many"]) (D_common : Df K mg "common" s_common ["a", "b"]) (D_plus : Df K mg "plus" s_plus ["a", "b"]) (D_total : Df K mg "total" s_total ["row"]) (D_unit_sum : Df K mg "unit_sum" s_unit_sum ["first", "last"]) (m_range : mg "range" = none) : FnOk P w K mg base CX0 (k + 5) D.f D.fd ["many"] (sp_of K behindM) := by
  have G_unit_sum : FnOk P w K mg base CX0 4 D_unit_sum.f D_unit_sum.fd ["first", "last"] (sp_unit K) := ok_unit_sum D_unit_sum D_common D_plus D_total m_range
  refine D.F.ok sc_behind (fun vs H Q E h => ?_) (fun cdv A outer s H vs Q E hr h => ?_)
  · obtain ⟨n, rfl, _⟩ := h
    rfl
  obtain ⟨n, rfl, hn, q⟩ := h
  refine ⟨_, (pss_one (ps_ret (pe_call G_unit_sum (hr.mono (by omega)) (by rfl) D_unit_sum.g D_unit_sum.F.kp D_unit_sum.b .nil pass0 (pa_cons pe_int (pa_cons (pv 0) pa_nil))))), ?_⟩
  exact ⟨_, rfl, 2, n, rfl, ⟨by decide, by decide⟩, ⟨by omega, by omega⟩, fun H' r sm pr o l => q _ _ sm pr o l⟩

def hoursM (n : Int) : Int := -(-(mulP (n, 1) (behindM n)).1 / (mulP (n, 1) (behindM n)).2)
def sp_foe_hours : Sp := fun vs H Q _ => ∃ n : Int, vs = [.int n] ∧ (1 ≤ n ∧ n ≤ 24) ∧ ∀ H', Same H H' → Q (.int (hoursM n)) H'
theorem ok_foe_hours {k : Nat} (D : Df K mg "foe_hours" s_foe_hours ["many"]) (D_common : Df K mg "common" s_common ["a", "b"]) (D_lowest : Df K mg "lowest" s_lowest ["top", "bottom"]) (D_plus : Df K mg "plus" s_plus ["a", "b"]) (D_times : Df K mg "times" s_times ["a", "b"]) (D_total : Df K mg "total" s_total ["row"]) (D_ceil_of : Df K mg "ceil_of" s_ceil_of ["a"]) (D_unit_sum : Df K mg "unit_sum" s_unit_sum ["first", "last"]) (D_behind : Df K mg "behind" s_behind ["many"]) (m_range : mg "range" = none) :
    FnOk P w K mg base CX0 (k + 6) D.f D.fd ["many"] sp_foe_hours := by
  have G_behind : FnOk P w K mg base CX0 5 D_behind.f D_behind.fd ["many"] (sp_of K behindM) := ok_behind D_behind D_common D_plus D_total D_unit_sum m_range
  have G_times : FnOk P w K mg base CX0 5 D_times.f D_times.fd ["a", "b"] (sp_two K anyC mulP) := ok_times D_times D_common D_lowest
  have G_ceil_of : FnOk P w K mg base CX0 5 D_ceil_of.f D_ceil_of.fd ["a"] (sp_ceil_of K) := ok_ceil_of D_ceil_of
  refine D.F.ok sc_foe_hours (fun vs H Q E h => ?_) (fun cdv A outer s H vs Q E hr h => ?_)
  · obtain ⟨n, rfl, _⟩ := h
    rfl
  obtain ⟨n, rfl, hn, q⟩ := h
  refine ⟨_, (pss_one (ps_ret (pe_call G_ceil_of (hr.mono (by omega)) (by rfl) D_ceil_of.g D_ceil_of.F.kp D_ceil_of.b .nil pass0 (pa_cons (pe_call G_times (hr.mono (by omega)) (by rfl) D_times.g D_times.F.kp D_times.b .nil pass0 (pa_cons (pe_tup (pa_cons (pv 0) (pa_cons pe_int pa_nil))) (pa_cons (pe_call G_behind (hr.mono (by omega)) (by rfl) D_behind.g D_behind.F.kp D_behind.b .nil pass0 (pa_cons (pv 0) pa_nil)) pa_nil))) pa_nil)))), ?_⟩
  have ok : Ok 6 ((n, 1) : Q2) := ok_n1 (by omega) (by omega)
  refine ⟨_, rfl, (by show 2 ≤ sizeLine; decide), fun t ht => ?_⟩
  refine ⟨_, rfl, n, rfl, hn, fun H' r sm pr o _ => ?_⟩
  refine ⟨_, _, (n, 1), _, 6, 6300, rfl, Pp.same (Pr.new : Pp K _ _ (n, 1)) sm, pr, ok, o, by decide, True.intro, fun H'' r' sm' pr' => ?_⟩
  have om := mulP_ok ok o
  exact ⟨_, _, _, rfl, pr', om.pos, om.bot.mono (by decide), q _ ((same_upd ht).trans (sm.trans sm'))⟩

theorem ok_foe_shares {k : Nat} (D : Df K mg "foe_shares" s_foe_shares ["many", "turns"]) (m_range : mg "range" = none) (m_len : mg "len" = none) : FnOk P w K mg base CX0 (k + 1) D.f D.fd ["many", "turns"] (sp_foe K) := by
  refine D.F.ok sc_foe_shares (fun vs H Q E h => ?_) (fun cdv A outer s H vs Q E hr h => ?_)
  · obtain ⟨n, p, ts, rfl, _⟩ := h
    rfl
  obtain ⟨n, p, ts, rfl, ep, h1, h2, q⟩ := h
  refine ⟨_, (pss_cons (ps_set (i := 2) sc_foe_shares.nd rfl (.inr rfl) (pe_lc (own := [("place", 3)]) (g := gName 3) (tt := _) rfl sc_foe_shares.nd (pi_range1 (by rfl) m_range (pa_cons (pv 0) pa_nil)) (blkOk_by (N := N_foe_shares) (sc := defScope s_foe_shares) (by decide +kernel)) (fun _ _ _ _ _ => pg_name (i := 3) sc_foe_shares.nd rfl (Or.inl rfl)) (fun _ _ _ _ _ => (pts_one (pt_cmpR (r := rIn K true) op_notIn_seq (pv 3) (pv 1) (by rfl)))) (fun _ _ _ _ _ => (pv 3))))
      (pss_cons (ps_if (pt_not (pt_truth (pv 2) (by intro _; rfl))) (pss_one (ps_ret (pe_lc (own := [("place", 3)]) (g := gName 3) (tt := tYes) rfl sc_foe_shares.nd (pi_range1 (by rfl) m_range (pa_cons (pv 0) pa_nil)) (blkOk_by (N := N_foe_shares) (sc := defScope s_foe_shares) (by decide +kernel)) (fun _ _ _ _ _ => pg_name (i := 3) sc_foe_shares.nd rfl (Or.inl rfl)) (fun _ _ _ _ _ => pts_nil) (fun _ _ _ _ _ => (pe_tup (pa_cons pe_int (pa_cons (pv 0) pa_nil))))))) pss_nil)
      (pss_one (ps_ret (pe_lc (own := [("place", 3)]) (g := gName 3) (tt := tYes) rfl sc_foe_shares.nd (pi_range1 (by rfl) m_range (pa_cons (pv 0) pa_nil)) (blkOk_by (N := N_foe_shares) (sc := defScope s_foe_shares) (by decide +kernel)) (fun _ _ _ _ _ => pg_name (i := 3) sc_foe_shares.nd rfl (Or.inl rfl)) (fun _ _ _ _ _ => pts_nil) (fun _ _ _ _ _ => (pe_ifExp (pt_cmpR (r := rIn K false) op_in_seq (pv 3) (pv 2) (by rfl)) (pe_tup (pa_cons pe_int (pa_cons (pe_callB (r := fun xs H Q => ∃ p ys, xs = [V.ref p] ∧ (SqL K H p ys ∨ SqT K H p ys) ∧ Q (V.int ys.length) H) call_len_seq (by rfl) m_len PySem.boot_len (pa_cons (pv 2) pa_nil)) pa_nil))) (pe_tup (pa_cons pe_int (pa_cons pe_int pa_nil)))))))))), ?_⟩
  -- who waits
  refine ⟨_, rfl, (n : Int), rfl, by omega, by omega, fun Dd hD => ?_⟩
  refine lc_range (n := n) (fun i H' => H' Dd = some (.lst (natsV ((List.range i).filter fun j => !decide (j ∈ ts)))) ∧ Same H H') ⟨upd_same, same_upd hD⟩ (fun i H' hi hW => ?_) (fun H1 hW => ?_)
  · obtain ⟨eD, sm⟩ := hW
    refine ⟨rfl, ?_⟩
    refine ⟨_, rfl, _, rfl, p, _, rfl, .inl (SqL.of (sm _ _ ep)), rfl, natsV_flat _, _, rfl, ?_⟩
    rw [show inV (V.int (0 + (i : Int))) (natsV ts) = decide (i ∈ ts) from by rw [Int.zero_add]; exact natsV_in ts i]
    have fs' := filt_succ (fun j => !decide (j ∈ ts)) i
    refine ite2 (fun e2 => ?_) (fun e2 => ?_)
    · have e3 : (!decide (i ∈ ts)) = true := e2
      have hle := filt_lt (fun j => !decide (j ∈ ts)) i
      refine ⟨_, rfl, _, eD, small1000 (by rw [natsV_len]; omega), ?_, same_at hD sm⟩
      rw [upd_same, fs', if_pos e3, Int.zero_add, natsV_snoc]
    · have e3 : ¬ (!decide (i ∈ ts)) = true := e2
      refine ⟨?_, sm⟩
      rw [fs', if_neg e3, List.append_nil]
      exact eD
  obtain ⟨eD, s1⟩ := hW
  replace eD : H1 Dd = some (.lst (natsV (waitL n ts))) := eD
  have wl := wait_len n ts
  have em : (natsV (waitL n ts)).isEmpty = (waitL n ts).isEmpty := by
    unfold natsV
    rw [List.isEmpty_map]
  refine ⟨_, rfl, _, .inl ⟨_, SqL.of eD, rfl⟩, ?_⟩
  rw [em]
  refine ite2 (fun e => ?_) (fun e => ?_)
  · have e' : (waitL n ts).isEmpty = true := by simpa using e
    refine ⟨_, rfl, (n : Int), rfl, by omega, by omega, fun Ds hDs => ?_⟩
    refine lc_range (n := n) (fun i H' => ∃ ws, H' Ds = some (.lst ws) ∧ Pps K H' ws ((List.range i).map (foeOne n ts)) ∧ Same H1 H') ⟨[], upd_same, .nil, same_upd hDs⟩ (fun i H' hi hW => ?_) (fun H2 hW => ?_)
    · obtain ⟨ws, eDs, hV, sm⟩ := hW
      have hvl := hV.len
      rw [List.length_map, List.length_range] at hvl
      refine ⟨rfl, ?_⟩
      dsimp only [tYes]
      rw [if_pos rfl]
      refine ⟨_, rfl, (by show 2 ≤ sizeLine; decide), fun t ht => ?_⟩
      have st := same_upd (o := .tup [.int 1, .int (n : Int)]) ht
      have eD2 := st _ _ eDs
      refine ⟨ws, eD2, small1000 (by omega), ws ++ [.ref t], upd_same, ?_, same_at hDs (sm.trans st)⟩
      rw [map_succ, show foeOne n ts i = (1, (n : Int)) from if_pos e']
      exact pps_grow eD2 (hV.same st) (x := (1, (n : Int))) Pr.new
    · obtain ⟨ws, eDs, hV, sm⟩ := hW
      exact q _ _ (s1.trans sm) (s1.free hDs) ⟨ws, eDs, hV⟩
  · have e' : ¬ (waitL n ts).isEmpty = true := by simpa using e
    refine ⟨_, rfl, (n : Int), rfl, by omega, by omega, fun Ds hDs => ?_⟩
    refine lc_range (n := n) (fun i H' => ∃ ws, H' Ds = some (.lst ws) ∧ Pps K H' ws ((List.range i).map (foeOne n ts)) ∧ Same H1 H') ⟨[], upd_same, .nil, same_upd hDs⟩ (fun i H' hi hW => ?_) (fun H2 hW => ?_)
    · obtain ⟨ws, eDs, hV, sm⟩ := hW
      have hvl := hV.len
      rw [List.length_map, List.length_range] at hvl
      refine ⟨rfl, ?_⟩
      dsimp only [tYes]
      rw [if_pos rfl]
      refine ⟨_, rfl, _, rfl, Dd, _, rfl, .inl (SqL.of (sm _ _ eD)), rfl, natsV_flat _, _, rfl, ?_⟩
      rw [show inV (V.int (0 + (i : Int))) (natsV (waitL n ts)) = decide (i ∈ waitL n ts) from by rw [Int.zero_add]; exact natsV_in _ i]
      refine ite2 (fun e2 => ?_) (fun e2 => ?_)
      · have e3 : i ∈ waitL n ts := of_decide_eq_true e2
        refine ⟨_, rfl, Dd, _, rfl, .inl (SqL.of (sm _ _ eD)), (by show 2 ≤ sizeLine; decide), fun t ht => ?_⟩
        have st := same_upd (o := .tup [.int 1, .int ((natsV (waitL n ts)).length : Int)]) ht
        have eD2 := st _ _ eDs
        refine ⟨ws, eD2, small1000 (by omega), ws ++ [.ref t], upd_same, ?_, same_at hDs (sm.trans st)⟩
        rw [map_succ, show foeOne n ts i = (1, ((waitL n ts).length : Int)) from by unfold foeOne; rw [if_neg e', if_pos e3]]
        have nw : Pp K (upd H' t (.tup [.int 1, .int ((natsV (waitL n ts)).length : Int)])) (.ref t) (1, ((natsV (waitL n ts)).length : Int)) := Pr.new
        have gr := pps_grow eD2 (hV.same st) nw
        rw [natsV_len] at gr ⊢
        exact gr
      · have e3 : ¬ i ∈ waitL n ts := fun z => e2 (decide_eq_true z)
        refine ⟨(by show 2 ≤ sizeLine; decide), fun t ht => ?_⟩
        have st := same_upd (o := .tup [.int 0, .int 1]) ht
        have eD2 := st _ _ eDs
        refine ⟨ws, eD2, small1000 (by omega), ws ++ [.ref t], upd_same, ?_, same_at hDs (sm.trans st)⟩
        rw [map_succ, show foeOne n ts i = (0, 1) from by unfold foeOne; rw [if_neg e', if_neg e3]]
        exact pps_grow eD2 (hV.same st) (x := (0, 1)) Pr.new
    · obtain ⟨ws, eDs, hV, sm⟩ := hW
      exact q _ _ (s1.trans sm) (s1.free hDs) ⟨ws, eDs, hV⟩

def sp__law_whole : Sp := fun vs H Q _ => ∃ i : Int, vs = [.int i] ∧ Q (.bl true) H
theorem ok__law_whole {k : Nat} (D : Df K mg "_law_whole" s__law_whole ["_law_found"]) (m_isinstance : mg "isinstance" = none) (m_int : mg "int" = none) (m_bool : mg "bool" = none) : FnOk P w K mg base CX0 (k + 1) D.f D.fd ["_law_found"] sp__law_whole := by
  refine D.F.ok sc__law_whole (fun vs H Q E h => ?_) (fun cdv A outer s H vs Q E hr h => ?_)
  · obtain ⟨a, rfl, _⟩ := h
    rfl
  · obtain ⟨i, rfl, q⟩ := h
    refine ⟨_, (pss_one (ps_ret (pe_and (pe_callB call_isi (by rfl) m_isinstance PyProof.Rows.boot_isinstance (pa_cons (pv 0) (pa_cons (pe_bltn (v := .ty "int") (by rfl) m_int PyProof.Rows.boot_int rfl) pa_nil))) (pe_one (pe_not (pe_callB call_isi (by rfl) m_isinstance PyProof.Rows.boot_isinstance (pa_cons (pv 0) (pa_cons (pe_bltn (v := .ty "bool") (by rfl) m_bool PyProof.Rows.boot_bool rfl) pa_nil)))))))), ?_⟩
    refine ⟨_, rfl, _, _, _, _, true, rfl, .ty "int", .base (.int i), kit_ty (by decide +kernel), true, rfl, iteT ?_⟩
    exact ⟨_, rfl, _, _, _, _, false, rfl, .ty "bool", .base (.int i), kit_ty (by decide +kernel), false, rfl, q⟩

theorem ok__law_low {k : Nat} (D : Df K mg "_law_low" s__law_low ["_law_top", "_law_bottom"]) (m_abs : mg "abs" = none) : FnOk P w K mg base CX0 (k + 1) D.f D.fd ["_law_top", "_law_bottom"] (sp_lowest K) := by
  refine D.F.ok sc__law_low (fun vs H Q E h => ?_) (fun cdv A outer s H vs Q E hr h => ?_)
  · obtain ⟨a, b, rfl, _⟩ := h
    rfl
  · obtain ⟨a, b, rfl, hb, hB, q⟩ := h
    refine ⟨_, (pss_cons (ps_set (i := 2) sc__law_low.nd rfl (.inl rfl) (pe_callB call_abs (by rfl) m_abs boot_abs (pa_cons (pv 0) pa_nil)))
      (pss_cons (ps_set (i := 3) sc__law_low.nd rfl (.inl rfl) (pv 1))
      (pss_cons (ps_while PassesOwn.never (pt_cmpR op_gt (pv 3) pe_int (nomark _)) (pss_one (ps_par (i := 2) (j := 3) (by rfl) sc__law_low.nd rfl rfl (by decide) rfl rfl (pa_cons (pv 3) (pa_cons (pe_op op_mod (pv 2) (pv 3)) pa_nil)) (by rfl))))
      (pss_one (ps_ret (pe_tup (pa_cons (pe_op op_fdivW (pv 0) (pv 2)) (pa_cons (pe_op op_fdivW (pv 1) (pv 2)) pa_nil)))))))), ?_⟩
    refine ⟨_, rfl, _, rfl, ?_⟩
    refine ⟨_, rfl, ?_⟩
    refine while_by (fun σ H' => ∃ x y : Int, σ = [some (.int a), some (.int b), some (.int x), some (.int y)] ∧ H' = H ∧ 0 ≤ y ∧ Int.gcd x y = Int.gcd a b ∧ (y = 0 → 0 ≤ x))
      (fun σ _ => match σ with | [_, _, _, some (.int y)] => y.toNat | _ => 0) ⟨_, b, rfl, rfl, by omega, gc_abs a b, by omega⟩ ?_ ?_
    · rintro σ H' ⟨x, y, rfl, rfl, h0, hg, hz⟩
      refine ⟨_, rfl, _, _, rfl, rfl, _, rfl, ite2 (fun e => ?_) (fun e => ?_)⟩
      · have e1 : 0 < y := of_decide_eq_true e
        refine ⟨_, rfl, _, rfl, _, rfl, _, _, rfl, rfl, e1, _, _, rfl, ⟨y, x % y, rfl, rfl, Int.emod_nonneg x (by omega), gc_step.trans hg, fun _ => by omega⟩, ?_⟩
        show (x % y).toNat < y.toNat
        have := Int.emod_lt_of_pos x e1
        have := Int.emod_nonneg x (show y ≠ 0 by omega)
        omega
      · have e1 : ¬ 0 < y := fun z => e (decide_eq_true z)
        have e2 : y = 0 := by omega
        subst e2
        have e3 : x = gc a b := by
          unfold gc
          rw [← hg, Int.gcd_zero]
          have := hz rfl
          omega
        subst e3
        have hg := gc_pos (a := a) hb
        have hk := hB.gc (x := a) hb
        refine ⟨_, rfl, _, rfl, _, _, rfl, rfl, bd_divok hg hk (by decide), _, rfl, _, rfl, _, _, rfl, rfl, bd_divok hg hk (by decide), (by show 2 ≤ sizeLine; decide), fun p hp => ?_⟩
        exact q _ _ (same_upd hp) Pr.new
    · rintro σ H' Q1 Q2 hq ⟨v, e, i, j, e1, e2, c, e3, r⟩
      exact ⟨v, e, i, j, e1, e2, c, e3, hq _ _ r⟩

theorem ok__law_add {k : Nat} (D : Df K mg "_law_add" s__law_add ["_law_a", "_law_b"]) (D__law_low : Df K mg "_law_low" s__law_low ["_law_top", "_law_bottom"]) (m_abs : mg "abs" = none) : FnOk P w K mg base CX0 (k + 2) D.f D.fd ["_law_a", "_law_b"] (sp_two K anyC addP) := by
  have G__law_low : FnOk P w K mg base CX0 1 D__law_low.f D__law_low.fd ["_law_top", "_law_bottom"] (sp_lowest K) := ok__law_low D__law_low m_abs
  refine D.F.ok sc__law_add (fun vs H Q E h => len_two h) (fun cdv A outer s H vs Q E hr h => ?_)
  obtain ⟨v, u, x, y, n, m, rfl, ⟨p, rfl, hp⟩, ⟨r, rfl, hq⟩, ox, oy, hn, _, q⟩ := h
  refine ⟨_, (pss_one (ps_ret (pe_call G__law_low (hr.mono (by omega)) (by rfl) D__law_low.g D__law_low.F.kp D__law_low.b .nil pass0 (pa_cons (pe_op op_add (pe_op op_mulW (pe_ix ix_tup (pv 0) pe_int (fun _ _ => rfl)) (pe_ix ix_tup (pv 1) pe_int (fun _ _ => rfl))) (pe_op op_mulW (pe_ix ix_tup (pv 1) pe_int (fun _ _ => rfl)) (pe_ix ix_tup (pv 0) pe_int (fun _ _ => rfl)))) (pa_cons (pe_op op_mulW (pe_ix ix_tup (pv 0) pe_int (fun _ _ => rfl)) (pe_ix ix_tup (pv 1) pe_int (fun _ _ => rfl))) pa_nil))))), ?_⟩
  refine ⟨_, rfl, p, _, 0, _, rfl, rfl, hp, rfl, _, rfl, r, _, 1, _, rfl, rfl, hq, rfl, _, _, rfl, rfl, bd_mulok ox.top oy.bot (by omega), ?_⟩
  refine ⟨_, rfl, r, _, 0, _, rfl, rfl, hq, rfl, _, rfl, p, _, 1, _, rfl, rfl, hp, rfl, _, _, rfl, rfl, bd_mulok oy.top ox.bot (by omega), _, _, rfl, rfl, ?_⟩
  refine ⟨_, rfl, p, _, 1, _, rfl, rfl, hp, rfl, _, rfl, r, _, 1, _, rfl, rfl, hq, rfl, _, _, rfl, rfl, bd_mulok ox.bot oy.bot (by omega), ?_⟩
  exact ⟨_, _, rfl, Int.mul_pos ox.pos oy.pos, (ox.bot.mul oy.bot).mono (by omega), fun H' r' sm pr => q _ _ sm pr⟩

theorem ok__law_sub {k : Nat} (D : Df K mg "_law_sub" s__law_sub ["_law_a", "_law_b"]) (D__law_low : Df K mg "_law_low" s__law_low ["_law_top", "_law_bottom"]) (m_abs : mg "abs" = none) : FnOk P w K mg base CX0 (k + 2) D.f D.fd ["_law_a", "_law_b"] (sp_two K anyC subP) := by
  have G__law_low : FnOk P w K mg base CX0 1 D__law_low.f D__law_low.fd ["_law_top", "_law_bottom"] (sp_lowest K) := ok__law_low D__law_low m_abs
  refine D.F.ok sc__law_sub (fun vs H Q E h => len_two h) (fun cdv A outer s H vs Q E hr h => ?_)
  obtain ⟨v, u, x, y, n, m, rfl, ⟨p, rfl, hp⟩, ⟨r, rfl, hq⟩, ox, oy, hn, _, q⟩ := h
  refine ⟨_, (pss_one (ps_ret (pe_call G__law_low (hr.mono (by omega)) (by rfl) D__law_low.g D__law_low.F.kp D__law_low.b .nil pass0 (pa_cons (pe_op op_sub (pe_op op_mulW (pe_ix ix_tup (pv 0) pe_int (fun _ _ => rfl)) (pe_ix ix_tup (pv 1) pe_int (fun _ _ => rfl))) (pe_op op_mulW (pe_ix ix_tup (pv 1) pe_int (fun _ _ => rfl)) (pe_ix ix_tup (pv 0) pe_int (fun _ _ => rfl)))) (pa_cons (pe_op op_mulW (pe_ix ix_tup (pv 0) pe_int (fun _ _ => rfl)) (pe_ix ix_tup (pv 1) pe_int (fun _ _ => rfl))) pa_nil))))), ?_⟩
  refine ⟨_, rfl, p, _, 0, _, rfl, rfl, hp, rfl, _, rfl, r, _, 1, _, rfl, rfl, hq, rfl, _, _, rfl, rfl, bd_mulok ox.top oy.bot (by omega), ?_⟩
  refine ⟨_, rfl, r, _, 0, _, rfl, rfl, hq, rfl, _, rfl, p, _, 1, _, rfl, rfl, hp, rfl, _, _, rfl, rfl, bd_mulok oy.top ox.bot (by omega), _, _, rfl, rfl, ?_⟩
  refine ⟨_, rfl, p, _, 1, _, rfl, rfl, hp, rfl, _, rfl, r, _, 1, _, rfl, rfl, hq, rfl, _, _, rfl, rfl, bd_mulok ox.bot oy.bot (by omega), ?_⟩
  exact ⟨_, _, rfl, Int.mul_pos ox.pos oy.pos, (ox.bot.mul oy.bot).mono (by omega), fun H' r' sm pr => q _ _ sm pr⟩

def sp_less (K : PySem.W.Frag) : Sp := fun vs H Q _ => ∃ (v u : V) (a b c d : Int) (n : Nat), vs = [v, u] ∧ Pr K H v a b ∧ Pr K H u c d ∧ (Bd n a ∧ Bd n b ∧ Bd n c ∧ Bd n d) ∧ n ≤ 9000 ∧ Q (.bl (decide (a * d < c * b))) H
theorem ok__law_less {k : Nat} (D : Df K mg "_law_less" s__law_less ["_law_a", "_law_b"]) : FnOk P w K mg base CX0 (k + 1) D.f D.fd ["_law_a", "_law_b"] (sp_less K) := by
  refine D.F.ok sc__law_less (fun vs H Q E h => ?_) (fun cdv A outer s H vs Q E hr h => ?_)
  · obtain ⟨v, u, a, b, c, d, n, rfl, _⟩ := h
    rfl
  · obtain ⟨v, u, a, b, c, d, n, rfl, ⟨p, rfl, hp⟩, ⟨r, rfl, hq⟩, ⟨b1, b2, b3, b4⟩, hn, q⟩ := h
    refine ⟨_, (pss_one (ps_ret (pe_cmpR op_lt (pe_op op_mulW (pe_ix ix_tup (pv 0) pe_int (fun _ _ => rfl)) (pe_ix ix_tup (pv 1) pe_int (fun _ _ => rfl))) (pe_op op_mulW (pe_ix ix_tup (pv 1) pe_int (fun _ _ => rfl)) (pe_ix ix_tup (pv 0) pe_int (fun _ _ => rfl))) (nomark _)))), ?_⟩
    refine ⟨_, rfl, p, _, 0, _, rfl, rfl, hp, rfl, _, rfl, r, _, 1, _, rfl, rfl, hq, rfl, _, _, rfl, rfl, bd_mulok b1 b4 (by omega), ?_⟩
    exact ⟨_, rfl, r, _, 0, _, rfl, rfl, hq, rfl, _, rfl, p, _, 1, _, rfl, rfl, hp, rfl, _, _, rfl, rfl, bd_mulok b3 b2 (by omega), _, _, rfl, rfl, q⟩

theorem ok__law_sum {k : Nat} (D : Df K mg "_law_sum" s__law_sum ["_law_row"]) (D__law_low : Df K mg "_law_low" s__law_low ["_law_top", "_law_bottom"]) (D__law_add : Df K mg "_law_add" s__law_add ["_law_a", "_law_b"]) (m_abs : mg "abs" = none) : FnOk P w K mg base CX0 (k + 3) D.f D.fd ["_law_row"] (sp_sumN K anyS) := by
  have G__law_add : FnOk P w K mg base CX0 2 D__law_add.f D__law_add.fd ["_law_a", "_law_b"] (sp_two K anyC addP) := ok__law_add D__law_add D__law_low m_abs
  refine D.F.ok sc__law_sum (fun vs H Q E h => ?_) (fun cdv A outer s H vs Q E hr h => ?_)
  · obtain ⟨l, us, xs, N, rfl, _⟩ := h
    rfl
  obtain ⟨l, us, xs, N, rfl, hl, hP, ho, hn, hC, q⟩ := h
  refine ⟨_, (pss_cons (ps_set (i := 1) sc__law_sum.nd rfl (.inl rfl) (pe_tup (pa_cons pe_int (pa_cons pe_int pa_nil))))
      (pss_cons (ps_for PassesOwn.never rfl (pi_list (pv 0)) (pg_name (i := 2) sc__law_sum.nd rfl (.inl rfl)) (pss_one (ps_set (i := 1) sc__law_sum.nd rfl (.inl rfl) (pe_call G__law_add (hr.mono (by omega)) (by rfl) D__law_add.g D__law_add.F.kp D__law_add.b .nil pass0 (pa_cons (pv 1) (pa_cons (pv 2) pa_nil))))))
      (pss_one (ps_ret (pv 1))))), ?_⟩
  have hsz : ∀ i, i < xs.length → (N + 1) * (i + 1) + N ≤ 8890 := fun i hi => by
    have h1 : (N + 1) * (i + 2) ≤ (N + 1) * (xs.length + 1) := Nat.mul_le_mul_left _ (by omega)
    have h2 : (N + 1) * (i + 2) = (N + 1) * (i + 1) + (N + 1) := by rw [show i + 2 = (i + 1) + 1 from rfl, Nat.mul_succ]
    omega
  have hsz2 : ∀ i, (N + 1) * (i + 1) + N + 1 ≤ (N + 1) * (i + 1 + 1) := fun i => by
    rw [Nat.mul_succ (N + 1) (i + 1)]
    omega
  refine ⟨(by show 2 ≤ sizeLine; decide), fun t ht => ?_⟩
  refine ⟨_, rfl, l, rfl, ⟨_, (same_upd ht).seq hl⟩, ?_⟩
  refine for_list (xs := us) (fun i σ H3 => ∃ v y2, σ = [some (.ref l), some v, y2] ∧ Same H H3 ∧ Pp K H3 v (sumP (xs.take i)) ∧ Ok ((N + 1) * (i + 1)) (sumP (xs.take i)) ∧ Low (sumP (xs.take i)).1 (sumP (xs.take i)).2)
    ⟨_, _, rfl, same_upd ht, Pr.new, sumN0 N, sumP_low0⟩ (fun i σ H3 _ hW => ?_) (fun i z σ H3 hz hW => ?_) (fun σ H3 hW => ?_)
  · obtain ⟨v, y2, rfl, sm, _⟩ := hW
    exact sm.seq hl
  · obtain ⟨v, y2, rfl, sm, pv', ov, lv⟩ := hW
    obtain ⟨x, hx, px⟩ := pps_get hP hz
    have hi := List.getElem?_eq_some_iff.1 hx
    obtain ⟨hi, ex⟩ := hi
    have hmem : x ∈ xs := ex ▸ List.getElem_mem hi
    refine ⟨_, rfl, _, rfl, v, z, _, x, _, N, rfl, pv', px.same sm, ov, ho x hmem, hsz i hi, True.intro, fun H4 r sm4 pr => ?_⟩
    have es := sumP_take hx
    refine ⟨r, _, rfl, sm.trans sm4, ?_, ?_, ?_⟩
    · rw [es]
      exact pr
    · rw [es]
      exact (addP_ok ov (ho x hmem)).mono (hsz2 i)
    · rw [es]
      exact addP_low ov.pos (ho x hmem).pos
  · obtain ⟨v, y2, rfl, sm, pv', ov, lv⟩ := hW
    rw [hP.len, List.take_length] at pv' ov lv
    exact ⟨_, rfl, q _ _ sm pv' ov lv⟩

def sp__law_part (K : PySem.W.Frag) : Sp := fun vs H Q _ => ∃ (v : V) (a b : Int), vs = [v] ∧ Pr K H v a b ∧ Q (.bl true) H
theorem ok__law_part {k : Nat} (D : Df K mg "_law_part" s__law_part ["_law_found"]) (D__law_whole : Df K mg "_law_whole" s__law_whole ["_law_found"]) (m_isinstance : mg "isinstance" = none) (m_int : mg "int" = none) (m_bool : mg "bool" = none) (m_tuple : mg "tuple" = none) (m_len : mg "len" = none) :
    FnOk P w K mg base CX0 (k + 2) D.f D.fd ["_law_found"] (sp__law_part K) := by
  have G__law_whole : FnOk P w K mg base CX0 1 D__law_whole.f D__law_whole.fd ["_law_found"] sp__law_whole := ok__law_whole D__law_whole m_isinstance m_int m_bool
  refine D.F.ok sc__law_part (fun vs H Q E h => ?_) (fun cdv A outer s H vs Q E hr h => ?_)
  · obtain ⟨v, a, b, rfl, _⟩ := h
    rfl
  · obtain ⟨v, a, b, rfl, ⟨p, rfl, hp⟩, q⟩ := h
    refine ⟨_, (pss_cons (ps_if (PW.pt (pw_or (pt_not (pt_val (pe_callB call_isi (by rfl) m_isinstance PyProof.Rows.boot_isinstance (pa_cons (pv 0) (pa_cons (pe_bltn (v := .ty "tuple") (by rfl) m_tuple PyProof.Rows.boot_tuple rfl) pa_nil))))) (pw_or1 (pt_cmpR op_ne (pe_callB call_len_seq (by rfl) m_len PySem.boot_len (pa_cons (pv 0) pa_nil)) pe_int (nomark _))))) (pss_one (ps_ret pe_bl)) pss_nil)
      (pss_one (ps_ret (pe_and (pe_call G__law_whole (hr.mono (by omega)) (by rfl) D__law_whole.g D__law_whole.F.kp D__law_whole.b .nil pass0 (pa_cons (pe_ix ix_tup (pv 0) pe_int (fun _ _ => rfl)) pa_nil)) (pe_one (pe_call G__law_whole (hr.mono (by omega)) (by rfl) D__law_whole.g D__law_whole.F.kp D__law_whole.b .nil pass0 (pa_cons (pe_ix ix_tup (pv 0) pe_int (fun _ _ => rfl)) pa_nil))))))), ?_⟩
    refine ⟨_, rfl, _, _, _, _, true, rfl, .ty "tuple", sqT_ty hp, kit_ty (by decide +kernel), true, rfl, iteF ?_⟩
    refine ⟨_, rfl, p, _, rfl, .inr hp, rfl, false, rfl, iteF ?_⟩
    refine ⟨_, rfl, p, _, 0, .int a, rfl, rfl, hp, rfl, a, rfl, true, rfl, iteT ?_⟩
    exact ⟨_, rfl, p, _, 1, .int b, rfl, rfl, hp, rfl, b, rfl, q⟩

def sp__law_parts (K : PySem.W.Frag) : Sp := fun vs H Q _ => ∃ (p : Addr) (xs : List Q2), vs = [.ref p] ∧ LP K H p xs ∧ xs.length ≤ 1000 ∧ ∀ H', Same H H' → Q (.bl true) H'
theorem all_true (n : Nat) : (List.replicate n true).all id = true := by
  rw [List.all_eq_true]
  intro b hb
  rw [(List.mem_replicate.1 hb).2]
  rfl
theorem ok__law_parts {k : Nat} (D : Df K mg "_law_parts" s__law_parts ["_law_found"]) (D__law_part : Df K mg "_law_part" s__law_part ["_law_found"]) (D__law_whole : Df K mg "_law_whole" s__law_whole ["_law_found"]) (m_isinstance : mg "isinstance" = none) (m_int : mg "int" = none) (m_bool : mg "bool" = none) (m_tuple : mg "tuple" = none) (m_len : mg "len" = none) (m_list : mg "list" = none) (m_all : mg "all" = none) :
    FnOk P w K mg base CX0 (k + 3) D.f D.fd ["_law_found"] (sp__law_parts K) := by
  have G__law_part : FnOk P w K mg base CX0 2 D__law_part.f D__law_part.fd ["_law_found"] (sp__law_part K) := ok__law_part D__law_part D__law_whole m_isinstance m_int m_bool m_tuple m_len
  refine D.F.ok sc__law_parts (fun vs H Q E h => ?_) (fun cdv A outer s H vs Q E hr h => ?_)
  · obtain ⟨p, xs, rfl, _⟩ := h
    rfl
  obtain ⟨p, xs, rfl, ⟨us, ep, hP⟩, hn, q⟩ := h
  refine ⟨_, (pss_one (ps_ret (pe_and (pe_callB call_isi (by rfl) m_isinstance PyProof.Rows.boot_isinstance (pa_cons (pv 0) (pa_cons (pe_bltn (v := .ty "list") (by rfl) m_list PyProof.Rows.boot_list rfl) pa_nil))) (pe_one (pe_callB (cr_all rfl) (by rfl) m_all PyProof.Rows.boot_all (pa_cons (pe_lc (own := [("_law_a", 1)]) (g := gName 1) (tt := tYes) rfl sc__law_parts.nd (pi_list (pv 0)) (blkOk_by (N := N__law_parts) (sc := defScope s__law_parts) (by decide +kernel)) (fun _ _ _ _ _ => pg_name (i := 1) sc__law_parts.nd rfl (Or.inl rfl)) (fun _ _ _ _ _ => pts_nil) (fun _ _ _ _ _ => (pe_call G__law_part (hr.mono (by omega)) (by rfl) D__law_part.g D__law_part.F.kp D__law_part.b .nil pass0 (pa_cons (pv 1) pa_nil)))) pa_nil)))))), ?_⟩
  refine ⟨_, rfl, _, _, _, _, true, rfl, .ty "list", .base (.lst ep), kit_ty (by decide +kernel), true, rfl, iteT ?_⟩
  refine ⟨_, rfl, p, rfl, ⟨_, SqL.of ep⟩, fun Dd hD => ?_⟩
  refine lc_list (xs := us) (fun i H' => H' Dd = some (.lst ((List.replicate i true).map V.bl)) ∧ Same H H') ⟨upd_same, same_upd hD⟩ (fun i H' _ hW => SqL.of (hW.2 _ _ ep)) (fun i x H' hx hW => ?_) (fun H' hW => ?_)
  · obtain ⟨eD, sm⟩ := hW
    obtain ⟨a, ha, pa⟩ := pps_get hP hx
    have hi := (List.getElem?_eq_some_iff.1 hx).1
    have := hP.len
    refine ⟨rfl, ?_⟩
    dsimp only [tYes]
    rw [if_pos rfl]
    refine ⟨_, rfl, x, a.1, a.2, rfl, Pr.same pa sm, _, eD, small1000 (by rw [List.length_map, List.length_replicate]; omega), ?_, same_at hD sm⟩
    rw [upd_same, List.replicate_succ', List.map_append]
    rfl
  · obtain ⟨eD, sm⟩ := hW
    refine ⟨Dd, _, rfl, SqL.of eD, ?_⟩
    rw [all_true]
    exact q _ sm

def sp_lmost (K : PySem.W.Frag) : Sp := fun vs H Q _ => ∃ n k : Int, vs = [.int n, .int k] ∧ (1 ≤ n ∧ n ≤ 24) ∧ (1 ≤ k ∧ k ≤ n) ∧ ∀ H' r, Same H H' → Pp K H' r (lmost n k) → Ok 250 (lmost n k) → Q r H'
theorem ok__law_most {k : Nat} (D : Df K mg "_law_most" s__law_most ["_law_n", "_law_k"]) (D__law_low : Df K mg "_law_low" s__law_low ["_law_top", "_law_bottom"]) (D__law_add : Df K mg "_law_add" s__law_add ["_law_a", "_law_b"]) (m_abs : mg "abs" = none) (m_range : mg "range" = none) : FnOk P w K mg base CX0 (k + 3) D.f D.fd ["_law_n", "_law_k"] (sp_lmost K) := by
  have G__law_add : FnOk P w K mg base CX0 2 D__law_add.f D__law_add.fd ["_law_a", "_law_b"] (sp_two K anyC addP) := ok__law_add D__law_add D__law_low m_abs
  refine D.F.ok sc__law_most (fun vs H Q E h => ?_) (fun cdv A outer s H vs Q E hr h => ?_)
  · obtain ⟨n, k, rfl, _⟩ := h
    rfl
  obtain ⟨n, k, rfl, hn, hk, q⟩ := h
  refine ⟨_, (pss_cons (ps_set (i := 2) sc__law_most.nd rfl (.inl rfl) (pe_tup (pa_cons pe_int (pa_cons pe_int pa_nil))))
      (pss_cons (ps_for PassesOwn.never rfl (pi_range2 (by rfl) m_range (pa_cons (pe_op op_add (pv 1) pe_int) (pa_cons (pe_op op_add (pv 0) pe_int) pa_nil))) (pg_name (i := 3) sc__law_most.nd rfl (.inl rfl)) (pss_one (ps_set (i := 2) sc__law_most.nd rfl (.inl rfl) (pe_call G__law_add (hr.mono (by omega)) (by rfl) D__law_add.g D__law_add.F.kp D__law_add.b .nil pass0 (pa_cons (pv 2) (pa_cons (pe_tup (pa_cons (pv 1) (pa_cons (pv 3) pa_nil))) pa_nil))))))
      (pss_one (ps_ret (pv 2))))), ?_⟩
  refine ⟨(by show 2 ≤ sizeLine; decide), fun t ht => ?_⟩
  refine ⟨_, rfl, _, _, rfl, rfl, _, rfl, _, _, rfl, rfl, _, _, rfl, ⟨by omega, by omega, by omega, by omega⟩, ?_⟩
  refine for_range (n := (n + 1 - (k + 1)).toNat) (fun i σ H3 => ∃ v y3, σ = [some (.int n), some (.int k), some v, y3] ∧ Same H H3 ∧ Pp K H3 v (lmostF k i)) ⟨_, _, rfl, same_upd ht, Pr.new⟩ (fun i σ H3 hi hW => ?_) (fun σ H3 hW => ?_)
  · obtain ⟨v, y3, rfl, sm, pv'⟩ := hW
    have o := lmost_ok (k := k) (by omega) (by omega) i (by omega)
    have o2 : Ok 6 ((k, k + 1 + (i : Int)) : Q2) := ⟨by show (0 : Int) < k + 1 + i; omega, Bd.of (m := 60) (by show (-60 : Int) < k; omega) (by show k < 60; omega) (by decide), Bd.of (m := 60) (by show (-60 : Int) < k + 1 + i; omega) (by show k + 1 + (i : Int) < 60; omega) (by decide)⟩
    refine ⟨_, rfl, _, rfl, _, rfl, (by show 2 ≤ sizeLine; decide), fun t2 ht2 => ?_⟩
    refine ⟨_, _, _, (k, k + 1 + (i : Int)), 7 * (i + 1), 6, rfl, pv'.same (same_upd ht2), Pr.new, o, o2, by omega, True.intro, fun H4 r sm4 pr => ?_⟩
    exact ⟨r, _, rfl, sm.trans ((same_upd ht2).trans sm4), pr⟩
  · obtain ⟨v, y3, rfl, sm, pv'⟩ := hW
    exact ⟨_, rfl, q _ _ sm pv' ((lmost_ok (k := k) (by omega) (by omega) _ (by omega)).mono (by omega))⟩

theorem ok__law_first {k : Nat} (D : Df K mg "_law_first" s__law_first ["_law_row"]) (D__law_less : Df K mg "_law_less" s__law_less ["_law_a", "_law_b"]) (m_range : mg "range" = none) (m_len : mg "len" = none) : FnOk P w K mg base CX0 (k + 2) D.f D.fd ["_law_row"] (sp_first K) := by
  have G__law_less : FnOk P w K mg base CX0 1 D__law_less.f D__law_less.fd ["_law_a", "_law_b"] (sp_less K) := ok__law_less D__law_less
  refine D.F.ok sc__law_first (fun vs H Q E h => ?_) (fun cdv A outer s H vs Q E hr h => ?_)
  · obtain ⟨p, xs, rfl, _⟩ := h
    rfl
  obtain ⟨p, xs, rfl, ⟨us, ep, hP⟩, h0, hn, hx, q⟩ := h
  refine ⟨_, (pss_cons (ps_set (i := 1) sc__law_first.nd rfl (.inl rfl) pe_int)
      (pss_cons (ps_for PassesOwn.never rfl (pi_range1 (by rfl) m_range (pa_cons (pe_callB call_len_seq (by rfl) m_len PySem.boot_len (pa_cons (pv 0) pa_nil)) pa_nil)) (pg_name (i := 2) sc__law_first.nd rfl (.inl rfl)) (pss_one (ps_if (pt_val (pe_call G__law_less (hr.mono (by omega)) (by rfl) D__law_less.g D__law_less.F.kp D__law_less.b .nil pass0 (pa_cons (pe_ix ix_list (pv 0) (pv 1) (fun _ _ => rfl)) (pa_cons (pe_ix ix_list (pv 0) (pv 2) (fun _ _ => rfl)) pa_nil)))) (pss_one (ps_set (i := 1) sc__law_first.nd rfl (.inl rfl) (pv 2))) pss_nil)))
      (pss_one (ps_ret (pv 1))))), ?_⟩
  have hul := hP.len
  refine ⟨_, rfl, p, us, rfl, .inl (SqL.of ep), _, rfl, by omega, by omega, ?_⟩
  refine for_range (n := us.length) (fun i σ H3 => ∃ y2, σ = [some (.ref p), some (.int (firstF xs i : Int)), y2] ∧ H3 = H) ⟨_, rfl, rfl⟩ (fun i σ H3 hi hW => ?_) (fun σ H3 hW => ?_)
  · obtain ⟨y2, rfl, rfl⟩ := hW
    have hf := firstF_lt xs i
    have hfl : firstF xs i < xs.length := by omega
    have hil : i < xs.length := by omega
    obtain ⟨v1, g1, p1⟩ := pps_at hP (item_some hfl)
    obtain ⟨v2, g2, p2⟩ := pps_at hP (item_some hil)
    have o1 := (item_ok hx hfl).1
    have o2 := (item_ok hx hil).1
    refine ⟨_, rfl, _, rfl, p, us, _, v1, rfl, rfl, SqL.of ep, atI_nat g1, _, rfl, _, rfl, p, us, _, v2, rfl, rfl, SqL.of ep, at_of (by omega) g2, v1, v2, _, _, _, _, 4000, rfl, p1, p2, ⟨o1.top, o1.bot, o2.top, o2.bot⟩, by decide, _, rfl, ite2 (fun e => ?_) (fun e => ?_)⟩
    · refine ⟨_, rfl, ?_⟩
      refine ⟨some (.int (0 + (i : Int))), ?_, rfl⟩
      have : firstF xs (i + 1) = i := by
        unfold firstF
        exact if_pos e
      rw [this, Int.zero_add]
      rfl
    · refine ⟨some (.int (0 + (i : Int))), ?_, rfl⟩
      have : firstF xs (i + 1) = firstF xs i := by
        show (if lessP (itemP xs (firstF xs i)) (itemP xs i) = true then i else firstF xs i) = _
        exact if_neg e
      rw [this]
      rfl
  · obtain ⟨y2, rfl, rfl⟩ := hW
    rw [hul]
    exact ⟨_, rfl, q⟩

def rs0 (rs : List Int) (z : Int) : List Int := rs ++ [z]
def sp__law_flow (K : PySem.W.Frag) : Sp := fun vs H Q _ => ∃ (a : Addr) (ns : List Int) (m : Nat), vs = [.ref a, .int m] ∧ SqL K H a (ns.map V.int) ∧ ns.length ≤ 63 ∧ m ≤ 500 ∧
  ∀ H' v rs, Same H H' → Ls H' v rs → rs.length = m → (∀ r ∈ rs, 0 ≤ r ∧ r < 1000000) → Q v H'
theorem ok__law_flow {k : Nat} (D : Df K mg "_law_flow" s__law_flow ["_law_script", "_law_many"]) (m_abs : mg "abs" = none) (m_len : mg "len" = none) (m_range : mg "range" = none) :
    FnOk P w K mg base CX0 (k + 1) D.f D.fd ["_law_script", "_law_many"] (sp__law_flow K) := by
  refine D.F.ok sc__law_flow (fun vs H Q E h => ?_) (fun cdv A outer s H vs Q E hr h => ?_)
  · obtain ⟨a, ns, m, rfl, _⟩ := h
    rfl
  · obtain ⟨a, ns, m, rfl, hS, hlen, hm, q⟩ := h
    refine ⟨_, (pss_cons (ps_set (i := 2) sc__law_flow.nd rfl (.inl rfl) pe_int)
      (pss_cons (ps_if (PW.pt (pw_and (pt_cmpR op_gt (pe_callB call_len_seq (by rfl) m_len PySem.boot_len (pa_cons (pv 0) pa_nil)) pe_int (nomark _)) (pw_and1 (pt_cmpR op_ge (pe_callB call_abs (by rfl) m_abs boot_abs (pa_cons (pe_ix ix_list (pv 0) pe_int (fun _ _ => rfl)) pa_nil)) (pe_op op_pow pe_int pe_int) (nomark _))))) (pss_one (ps_set (i := 2) sc__law_flow.nd rfl (.inl rfl) (pe_op op_sub (pe_callB call_abs (by rfl) m_abs boot_abs (pa_cons (pe_ix ix_list (pv 0) pe_int (fun _ _ => rfl)) pa_nil)) (pe_op op_pow pe_int pe_int)))) pss_nil)
      (pss_cons (ps_set (i := 3) sc__law_flow.nd rfl (.inl rfl) (pe_lst pa_nil))
      (pss_cons (ps_for PassesOwn.never rfl (pi_range1 (by rfl) m_range (pa_cons (pv 1) pa_nil)) (pg_name (i := 4) sc__law_flow.nd rfl (.inl rfl)) (pss_one (ps_if (pt_cmpR op_gt (pv 2) pe_int (nomark _)) (pss_cons (ps_expr (pe_bm PySem.F.plainAttrs_list PySem.F.slot_list_append PySem.F.type_list_append mt_append (pv 3) (pa_cons (pe_op op_mod (pv 2) pe_int) pa_nil)))
      (pss_one (ps_set (i := 2) sc__law_flow.nd rfl (.inl rfl) (pe_op op_fdivW (pv 2) pe_int)))) (pss_cons (ps_set (i := 5) sc__law_flow.nd rfl (.inl rfl) (pe_op op_add (pv 4) pe_int))
      (pss_cons (ps_if (pt_cmpR op_gt (pe_callB call_len_seq (by rfl) m_len PySem.boot_len (pa_cons (pv 0) pa_nil)) pe_int (nomark _)) (pss_one (ps_set (i := 5) sc__law_flow.nd rfl (.inl rfl) (pe_ix ix_list (pv 0) (pe_op op_mod (pv 4) (pe_callB call_len_seq (by rfl) m_len PySem.boot_len (pa_cons (pv 0) pa_nil))) (fun _ _ => rfl)))) pss_nil)
      (pss_cons (ps_set (i := 6) sc__law_flow.nd rfl (.inl rfl) (pe_op op_mod (pe_op op_add (pe_op op_add (pe_op op_mul (pv 5) pe_int) (pe_op op_mul (pv 4) pe_int)) pe_int) pe_int))
      (pss_cons (ps_set (i := 6) sc__law_flow.nd rfl (.inl rfl) (pe_op op_mod (pe_op op_add (pe_op op_add (pe_op op_mul (pv 6) pe_int) (pe_op op_mul (pv 4) pe_int)) (pe_callB call_len_seq (by rfl) m_len PySem.boot_len (pa_cons (pv 0) pa_nil))) pe_int))
      (pss_one (ps_expr (pe_bm PySem.F.plainAttrs_list PySem.F.slot_list_append PySem.F.type_list_append mt_append (pv 3) (pa_cons (pe_op op_mod (pe_op op_fdivW (pv 6) pe_int) pe_int) pa_nil)))))))))))
      (pss_one (ps_ret (pv 3))))))), ?_⟩
    -- the loop and what follows, for any great
    have c1 : ∀ x : Int, CDivW x 1000000 := fun x => bd_divok (n := 20) (by decide) (by unfold Bd; decide) (by decide)
    have c19 : ∀ x : Int, CDivW x 19 := fun x => bd_divok (n := 20) (by decide) (by unfold Bd; decide) (by decide)
    have mk : ∀ x c : Int, -(2 ^ 64) < c → c < 2 ^ 64 → CMul x c := fun x c h1 h2 => .inr ⟨h1, h2⟩
    refine ⟨_, rfl, a, _, rfl, .inl hS, _, _, rfl, rfl, _, rfl, ite2 (fun e => ?_) (fun e => ?_)⟩
    · have hpos : 0 < ns.length := by
        have := of_decide_eq_true e
        rw [List.length_map] at this
        omega
      have g0 : atI (ns.map V.int) 0 = some (.int (ns.getD 0 0)) := ls_at (j := 0) hpos
      refine ⟨_, rfl, a, _, 0, _, rfl, rfl, hS, g0, _, rfl, _, _, rfl, rfl, ⟨by decide, by decide, by decide⟩, _, _, rfl, rfl, _, rfl, ite2 (fun e2 => ?_) (fun e2 => ?_)⟩
      · refine ⟨_, rfl, a, _, 0, _, rfl, rfl, hS, g0, _, rfl, _, _, rfl, rfl, ⟨by decide, by decide, by decide⟩, _, _, rfl, rfl, ?_⟩
        refine ⟨Nat.zero_le _, fun p hp => ?_⟩
        refine ⟨_, rfl, (m : Int), rfl, (by omega), (by omega), ?_⟩
        refine for_range (n := m) (fun i σ H3 => ∃ (g : Int) (rs : List Int) (y4 y5 y6 : Option V), σ = [some (.ref a), some (.int m), some (.int g), some (.ref p), y4, y5, y6] ∧ Same H H3 ∧ H3 p = some (.lst (rs.map V.int)) ∧ rs.length = i ∧ ∀ r ∈ rs, 0 ≤ r ∧ r < 1000000)
          ⟨_, [], _, _, _, rfl, same_upd hp, upd_same, rfl, fun r hr => nomatch hr⟩ (fun i σ H3 hi hW => ?_) (fun σ H3 hW => ?_)
        · obtain ⟨g, rs, y4, y5, y6, rfl, sm, hL, hl, hb⟩ := hW
          have hS3 := sm.seq hS
          have step : ∀ (z : Int), (0 ≤ z ∧ z < 1000000) →
              Same H (upd H3 p (.lst ((rs0 rs z).map V.int))) ∧ (upd H3 p (.lst ((rs0 rs z).map V.int))) p = some (.lst ((rs0 rs z).map V.int)) ∧ (rs0 rs z).length = i + 1 ∧ ∀ r ∈ rs0 rs z, 0 ≤ r ∧ r < 1000000 := by
            intro z hz
            refine ⟨fun b o eb => ?_, upd_same, ?_, ?_⟩
            · rw [upd_ne (ne_of_none eb hp)]
              exact sm _ _ eb
            · unfold rs0
              rw [List.length_append, hl]
              rfl
            · intro r hr
              unfold rs0 at hr
              rcases List.mem_append.1 hr with h | h
              · exact hb r h
              · rw [List.mem_singleton.1 h]
                exact hz
          have em : ∀ z : Int, (rs.map V.int) ++ [V.int z] = (rs0 rs z).map V.int := fun z => by
            unfold rs0
            rw [List.map_append]
            rfl
          have hsz : (rs.map V.int).length < sizeLine := small1000 (by rw [List.length_map]; omega)
          refine ⟨_, rfl, _, _, rfl, rfl, _, rfl, ite2 (fun e => ?_) (fun e => ?_)⟩
          · refine ⟨_, rfl, .inl ⟨rfl, _, SqL.of hL⟩, _, rfl, _, _, rfl, rfl, (by show (0 : Int) < _; decide), p, _, _, rfl, rfl, hL, hsz, ?_⟩
            rw [em]
            refine ⟨_, rfl, _, _, rfl, rfl, c1 _, ?_⟩
            exact ⟨_, _, _, _, _, rfl, step _ ⟨Int.emod_nonneg _ (by decide), Int.emod_lt_of_pos _ (by decide)⟩⟩
          · refine ⟨_, rfl, _, _, rfl, rfl, ?_⟩
            refine ⟨_, rfl, a, _, rfl, .inl hS3, _, _, rfl, rfl, _, rfl, ite2 (fun e1 => ?_) (fun e1 => ?_)⟩
            · have hpos : 0 < ns.length := by
                have := of_decide_eq_true e1
                rw [List.length_map] at this
                omega
              have hlt : i % ns.length < ns.length := Nat.mod_lt _ hpos
              have gk : atI (ns.map V.int) ((0 + (i : Int)) % ((ns.map V.int).length : Int)) = some (.int (ns.getD (i % ns.length) 0)) := by
                rw [Int.zero_add, List.length_map, ← Int.natCast_emod]
                exact ls_at hlt
              refine ⟨_, rfl, _, rfl, _, rfl, a, _, rfl, .inl hS3, _, _, rfl, rfl, (by rw [List.length_map]; omega), a, _, _, _, rfl, rfl, hS3, gk, ?_⟩
              refine ⟨_, rfl, _, _, rfl, rfl, mk _ _ (by decide) (by decide), _, rfl, _, _, rfl, rfl, mk _ _ (by decide) (by decide), _, _, rfl, rfl, _, _, rfl, rfl, _, _, rfl, rfl, (by show (0 : Int) < _; decide), ?_⟩
              refine ⟨_, rfl, _, _, rfl, rfl, mk _ _ (by decide) (by decide), _, rfl, _, _, rfl, rfl, mk _ _ (by decide) (by decide), _, _, rfl, rfl, _, rfl, a, _, rfl, .inl hS3, _, _, rfl, rfl, _, _, rfl, rfl, (by show (0 : Int) < _; decide), ?_⟩
              refine ⟨_, rfl, .inl ⟨rfl, _, SqL.of hL⟩, _, rfl, _, _, rfl, rfl, c19 _, _, _, rfl, rfl, (by show (0 : Int) < _; decide), p, _, _, rfl, rfl, hL, hsz, ?_⟩
              rw [em]
              exact ⟨_, _, _, _, _, rfl, step _ ⟨Int.emod_nonneg _ (by decide), Int.emod_lt_of_pos _ (by decide)⟩⟩
            · refine ⟨_, rfl, _, _, rfl, rfl, mk _ _ (by decide) (by decide), _, rfl, _, _, rfl, rfl, mk _ _ (by decide) (by decide), _, _, rfl, rfl, _, _, rfl, rfl, _, _, rfl, rfl, (by show (0 : Int) < _; decide), ?_⟩
              refine ⟨_, rfl, _, _, rfl, rfl, mk _ _ (by decide) (by decide), _, rfl, _, _, rfl, rfl, mk _ _ (by decide) (by decide), _, _, rfl, rfl, _, rfl, a, _, rfl, .inl hS3, _, _, rfl, rfl, _, _, rfl, rfl, (by show (0 : Int) < _; decide), ?_⟩
              refine ⟨_, rfl, .inl ⟨rfl, _, SqL.of hL⟩, _, rfl, _, _, rfl, rfl, c19 _, _, _, rfl, rfl, (by show (0 : Int) < _; decide), p, _, _, rfl, rfl, hL, hsz, ?_⟩
              rw [em]
              exact ⟨_, _, _, _, _, rfl, step _ ⟨Int.emod_nonneg _ (by decide), Int.emod_lt_of_pos _ (by decide)⟩⟩
        · obtain ⟨g, rs, y4, y5, y6, rfl, sm, hL, hl, hb⟩ := hW
          exact ⟨_, rfl, q H3 _ rs sm ⟨p, rfl, hL⟩ hl hb⟩
      · refine ⟨Nat.zero_le _, fun p hp => ?_⟩
        refine ⟨_, rfl, (m : Int), rfl, (by omega), (by omega), ?_⟩
        refine for_range (n := m) (fun i σ H3 => ∃ (g : Int) (rs : List Int) (y4 y5 y6 : Option V), σ = [some (.ref a), some (.int m), some (.int g), some (.ref p), y4, y5, y6] ∧ Same H H3 ∧ H3 p = some (.lst (rs.map V.int)) ∧ rs.length = i ∧ ∀ r ∈ rs, 0 ≤ r ∧ r < 1000000)
          ⟨_, [], _, _, _, rfl, same_upd hp, upd_same, rfl, fun r hr => nomatch hr⟩ (fun i σ H3 hi hW => ?_) (fun σ H3 hW => ?_)
        · obtain ⟨g, rs, y4, y5, y6, rfl, sm, hL, hl, hb⟩ := hW
          have hS3 := sm.seq hS
          have step : ∀ (z : Int), (0 ≤ z ∧ z < 1000000) →
              Same H (upd H3 p (.lst ((rs0 rs z).map V.int))) ∧ (upd H3 p (.lst ((rs0 rs z).map V.int))) p = some (.lst ((rs0 rs z).map V.int)) ∧ (rs0 rs z).length = i + 1 ∧ ∀ r ∈ rs0 rs z, 0 ≤ r ∧ r < 1000000 := by
            intro z hz
            refine ⟨fun b o eb => ?_, upd_same, ?_, ?_⟩
            · rw [upd_ne (ne_of_none eb hp)]
              exact sm _ _ eb
            · unfold rs0
              rw [List.length_append, hl]
              rfl
            · intro r hr
              unfold rs0 at hr
              rcases List.mem_append.1 hr with h | h
              · exact hb r h
              · rw [List.mem_singleton.1 h]
                exact hz
          have em : ∀ z : Int, (rs.map V.int) ++ [V.int z] = (rs0 rs z).map V.int := fun z => by
            unfold rs0
            rw [List.map_append]
            rfl
          have hsz : (rs.map V.int).length < sizeLine := small1000 (by rw [List.length_map]; omega)
          refine ⟨_, rfl, _, _, rfl, rfl, _, rfl, ite2 (fun e => ?_) (fun e => ?_)⟩
          · refine ⟨_, rfl, .inl ⟨rfl, _, SqL.of hL⟩, _, rfl, _, _, rfl, rfl, (by show (0 : Int) < _; decide), p, _, _, rfl, rfl, hL, hsz, ?_⟩
            rw [em]
            refine ⟨_, rfl, _, _, rfl, rfl, c1 _, ?_⟩
            exact ⟨_, _, _, _, _, rfl, step _ ⟨Int.emod_nonneg _ (by decide), Int.emod_lt_of_pos _ (by decide)⟩⟩
          · refine ⟨_, rfl, _, _, rfl, rfl, ?_⟩
            refine ⟨_, rfl, a, _, rfl, .inl hS3, _, _, rfl, rfl, _, rfl, ite2 (fun e1 => ?_) (fun e1 => ?_)⟩
            · have hpos : 0 < ns.length := by
                have := of_decide_eq_true e1
                rw [List.length_map] at this
                omega
              have hlt : i % ns.length < ns.length := Nat.mod_lt _ hpos
              have gk : atI (ns.map V.int) ((0 + (i : Int)) % ((ns.map V.int).length : Int)) = some (.int (ns.getD (i % ns.length) 0)) := by
                rw [Int.zero_add, List.length_map, ← Int.natCast_emod]
                exact ls_at hlt
              refine ⟨_, rfl, _, rfl, _, rfl, a, _, rfl, .inl hS3, _, _, rfl, rfl, (by rw [List.length_map]; omega), a, _, _, _, rfl, rfl, hS3, gk, ?_⟩
              refine ⟨_, rfl, _, _, rfl, rfl, mk _ _ (by decide) (by decide), _, rfl, _, _, rfl, rfl, mk _ _ (by decide) (by decide), _, _, rfl, rfl, _, _, rfl, rfl, _, _, rfl, rfl, (by show (0 : Int) < _; decide), ?_⟩
              refine ⟨_, rfl, _, _, rfl, rfl, mk _ _ (by decide) (by decide), _, rfl, _, _, rfl, rfl, mk _ _ (by decide) (by decide), _, _, rfl, rfl, _, rfl, a, _, rfl, .inl hS3, _, _, rfl, rfl, _, _, rfl, rfl, (by show (0 : Int) < _; decide), ?_⟩
              refine ⟨_, rfl, .inl ⟨rfl, _, SqL.of hL⟩, _, rfl, _, _, rfl, rfl, c19 _, _, _, rfl, rfl, (by show (0 : Int) < _; decide), p, _, _, rfl, rfl, hL, hsz, ?_⟩
              rw [em]
              exact ⟨_, _, _, _, _, rfl, step _ ⟨Int.emod_nonneg _ (by decide), Int.emod_lt_of_pos _ (by decide)⟩⟩
            · refine ⟨_, rfl, _, _, rfl, rfl, mk _ _ (by decide) (by decide), _, rfl, _, _, rfl, rfl, mk _ _ (by decide) (by decide), _, _, rfl, rfl, _, _, rfl, rfl, _, _, rfl, rfl, (by show (0 : Int) < _; decide), ?_⟩
              refine ⟨_, rfl, _, _, rfl, rfl, mk _ _ (by decide) (by decide), _, rfl, _, _, rfl, rfl, mk _ _ (by decide) (by decide), _, _, rfl, rfl, _, rfl, a, _, rfl, .inl hS3, _, _, rfl, rfl, _, _, rfl, rfl, (by show (0 : Int) < _; decide), ?_⟩
              refine ⟨_, rfl, .inl ⟨rfl, _, SqL.of hL⟩, _, rfl, _, _, rfl, rfl, c19 _, _, _, rfl, rfl, (by show (0 : Int) < _; decide), p, _, _, rfl, rfl, hL, hsz, ?_⟩
              rw [em]
              exact ⟨_, _, _, _, _, rfl, step _ ⟨Int.emod_nonneg _ (by decide), Int.emod_lt_of_pos _ (by decide)⟩⟩
        · obtain ⟨g, rs, y4, y5, y6, rfl, sm, hL, hl, hb⟩ := hW
          exact ⟨_, rfl, q H3 _ rs sm ⟨p, rfl, hL⟩ hl hb⟩
    · refine ⟨Nat.zero_le _, fun p hp => ?_⟩
      refine ⟨_, rfl, (m : Int), rfl, (by omega), (by omega), ?_⟩
      refine for_range (n := m) (fun i σ H3 => ∃ (g : Int) (rs : List Int) (y4 y5 y6 : Option V), σ = [some (.ref a), some (.int m), some (.int g), some (.ref p), y4, y5, y6] ∧ Same H H3 ∧ H3 p = some (.lst (rs.map V.int)) ∧ rs.length = i ∧ ∀ r ∈ rs, 0 ≤ r ∧ r < 1000000)
        ⟨_, [], _, _, _, rfl, same_upd hp, upd_same, rfl, fun r hr => nomatch hr⟩ (fun i σ H3 hi hW => ?_) (fun σ H3 hW => ?_)
      · obtain ⟨g, rs, y4, y5, y6, rfl, sm, hL, hl, hb⟩ := hW
        have hS3 := sm.seq hS
        have step : ∀ (z : Int), (0 ≤ z ∧ z < 1000000) →
            Same H (upd H3 p (.lst ((rs0 rs z).map V.int))) ∧ (upd H3 p (.lst ((rs0 rs z).map V.int))) p = some (.lst ((rs0 rs z).map V.int)) ∧ (rs0 rs z).length = i + 1 ∧ ∀ r ∈ rs0 rs z, 0 ≤ r ∧ r < 1000000 := by
          intro z hz
          refine ⟨fun b o eb => ?_, upd_same, ?_, ?_⟩
          · rw [upd_ne (ne_of_none eb hp)]
            exact sm _ _ eb
          · unfold rs0
            rw [List.length_append, hl]
            rfl
          · intro r hr
            unfold rs0 at hr
            rcases List.mem_append.1 hr with h | h
            · exact hb r h
            · rw [List.mem_singleton.1 h]
              exact hz
        have em : ∀ z : Int, (rs.map V.int) ++ [V.int z] = (rs0 rs z).map V.int := fun z => by
          unfold rs0
          rw [List.map_append]
          rfl
        have hsz : (rs.map V.int).length < sizeLine := small1000 (by rw [List.length_map]; omega)
        refine ⟨_, rfl, _, _, rfl, rfl, _, rfl, ite2 (fun e => ?_) (fun e => ?_)⟩
        · refine ⟨_, rfl, .inl ⟨rfl, _, SqL.of hL⟩, _, rfl, _, _, rfl, rfl, (by show (0 : Int) < _; decide), p, _, _, rfl, rfl, hL, hsz, ?_⟩
          rw [em]
          refine ⟨_, rfl, _, _, rfl, rfl, c1 _, ?_⟩
          exact ⟨_, _, _, _, _, rfl, step _ ⟨Int.emod_nonneg _ (by decide), Int.emod_lt_of_pos _ (by decide)⟩⟩
        · refine ⟨_, rfl, _, _, rfl, rfl, ?_⟩
          refine ⟨_, rfl, a, _, rfl, .inl hS3, _, _, rfl, rfl, _, rfl, ite2 (fun e1 => ?_) (fun e1 => ?_)⟩
          · have hpos : 0 < ns.length := by
              have := of_decide_eq_true e1
              rw [List.length_map] at this
              omega
            have hlt : i % ns.length < ns.length := Nat.mod_lt _ hpos
            have gk : atI (ns.map V.int) ((0 + (i : Int)) % ((ns.map V.int).length : Int)) = some (.int (ns.getD (i % ns.length) 0)) := by
              rw [Int.zero_add, List.length_map, ← Int.natCast_emod]
              exact ls_at hlt
            refine ⟨_, rfl, _, rfl, _, rfl, a, _, rfl, .inl hS3, _, _, rfl, rfl, (by rw [List.length_map]; omega), a, _, _, _, rfl, rfl, hS3, gk, ?_⟩
            refine ⟨_, rfl, _, _, rfl, rfl, mk _ _ (by decide) (by decide), _, rfl, _, _, rfl, rfl, mk _ _ (by decide) (by decide), _, _, rfl, rfl, _, _, rfl, rfl, _, _, rfl, rfl, (by show (0 : Int) < _; decide), ?_⟩
            refine ⟨_, rfl, _, _, rfl, rfl, mk _ _ (by decide) (by decide), _, rfl, _, _, rfl, rfl, mk _ _ (by decide) (by decide), _, _, rfl, rfl, _, rfl, a, _, rfl, .inl hS3, _, _, rfl, rfl, _, _, rfl, rfl, (by show (0 : Int) < _; decide), ?_⟩
            refine ⟨_, rfl, .inl ⟨rfl, _, SqL.of hL⟩, _, rfl, _, _, rfl, rfl, c19 _, _, _, rfl, rfl, (by show (0 : Int) < _; decide), p, _, _, rfl, rfl, hL, hsz, ?_⟩
            rw [em]
            exact ⟨_, _, _, _, _, rfl, step _ ⟨Int.emod_nonneg _ (by decide), Int.emod_lt_of_pos _ (by decide)⟩⟩
          · refine ⟨_, rfl, _, _, rfl, rfl, mk _ _ (by decide) (by decide), _, rfl, _, _, rfl, rfl, mk _ _ (by decide) (by decide), _, _, rfl, rfl, _, _, rfl, rfl, _, _, rfl, rfl, (by show (0 : Int) < _; decide), ?_⟩
            refine ⟨_, rfl, _, _, rfl, rfl, mk _ _ (by decide) (by decide), _, rfl, _, _, rfl, rfl, mk _ _ (by decide) (by decide), _, _, rfl, rfl, _, rfl, a, _, rfl, .inl hS3, _, _, rfl, rfl, _, _, rfl, rfl, (by show (0 : Int) < _; decide), ?_⟩
            refine ⟨_, rfl, .inl ⟨rfl, _, SqL.of hL⟩, _, rfl, _, _, rfl, rfl, c19 _, _, _, rfl, rfl, (by show (0 : Int) < _; decide), p, _, _, rfl, rfl, hL, hsz, ?_⟩
            rw [em]
            exact ⟨_, _, _, _, _, rfl, step _ ⟨Int.emod_nonneg _ (by decide), Int.emod_lt_of_pos _ (by decide)⟩⟩
      · obtain ⟨g, rs, y4, y5, y6, rfl, sm, hL, hl, hb⟩ := hW
        exact ⟨_, rfl, q H3 _ rs sm ⟨p, rfl, hL⟩ hl hb⟩

theorem ok_law (D : Df K mg "law" s_law ["_law_script"]) (D_common : Df K mg "common" s_common ["a", "b"]) (D_lowest : Df K mg "lowest" s_lowest ["top", "bottom"]) (D_plus : Df K mg "plus" s_plus ["a", "b"]) (D_times : Df K mg "times" s_times ["a", "b"]) (D_total : Df K mg "total" s_total ["row"]) (D_ceil_of : Df K mg "ceil_of" s_ceil_of ["a"]) (D_unit_sum : Df K mg "unit_sum" s_unit_sum ["first", "last"]) (D_behind : Df K mg "behind" s_behind ["many"]) (D_foe_hours : Df K mg "foe_hours" s_foe_hours ["many"]) (D_foe_shares : Df K mg "foe_shares" s_foe_shares ["many", "turns"]) (D__law_whole : Df K mg "_law_whole" s__law_whole ["_law_found"]) (D__law_low : Df K mg "_law_low" s__law_low ["_law_top", "_law_bottom"]) (D__law_add : Df K mg "_law_add" s__law_add ["_law_a", "_law_b"]) (D__law_sub : Df K mg "_law_sub" s__law_sub ["_law_a", "_law_b"]) (D__law_less : Df K mg "_law_less" s__law_less ["_law_a", "_law_b"]) (D__law_sum : Df K mg "_law_sum" s__law_sum ["_law_row"]) (D__law_part : Df K mg "_law_part" s__law_part ["_law_found"]) (D__law_parts : Df K mg "_law_parts" s__law_parts ["_law_found"]) (D__law_most : Df K mg "_law_most" s__law_most ["_law_n", "_law_k"]) (D__law_first : Df K mg "_law_first" s__law_first ["_law_row"]) (D__law_flow : Df K mg "_law_flow" s__law_flow ["_law_script", "_law_many"])
    (m_range : mg "range" = none) (m_len : mg "len" = none) (m_isinstance : mg "isinstance" = none) (m_bool : mg "bool" = none) (m_int : mg "int" = none) (m_abs : mg "abs" = none) (m_tuple : mg "tuple" = none) (m_all : mg "all" = none) (m_list : mg "list" = none) (m_any : mg "any" = none) (m_zip : mg "zip" = none) (m_min : mg "min" = none) : FnOk P w K mg base CX0 8 D.f D.fd ["_law_script"] (sp_law K) := by
  have G_foe_hours : FnOk P w K mg base CX0 7 D_foe_hours.f D_foe_hours.fd ["many"] sp_foe_hours := ok_foe_hours D_foe_hours D_common D_lowest D_plus D_times D_total D_ceil_of D_unit_sum D_behind m_range
  have G_foe_shares : FnOk P w K mg base CX0 7 D_foe_shares.f D_foe_shares.fd ["many", "turns"] (sp_foe K) := ok_foe_shares D_foe_shares m_range m_len
  have G__law_whole : FnOk P w K mg base CX0 7 D__law_whole.f D__law_whole.fd ["_law_found"] sp__law_whole := ok__law_whole D__law_whole m_isinstance m_int m_bool
  have G__law_add : FnOk P w K mg base CX0 7 D__law_add.f D__law_add.fd ["_law_a", "_law_b"] (sp_two K anyC addP) := ok__law_add D__law_add D__law_low m_abs
  have G__law_sub : FnOk P w K mg base CX0 7 D__law_sub.f D__law_sub.fd ["_law_a", "_law_b"] (sp_two K anyC subP) := ok__law_sub D__law_sub D__law_low m_abs
  have G__law_less : FnOk P w K mg base CX0 7 D__law_less.f D__law_less.fd ["_law_a", "_law_b"] (sp_less K) := ok__law_less D__law_less
  have G__law_sum : FnOk P w K mg base CX0 7 D__law_sum.f D__law_sum.fd ["_law_row"] (sp_sumN K anyS) := ok__law_sum D__law_sum D__law_low D__law_add m_abs
  have G__law_parts : FnOk P w K mg base CX0 7 D__law_parts.f D__law_parts.fd ["_law_found"] (sp__law_parts K) := ok__law_parts D__law_parts D__law_part D__law_whole m_isinstance m_int m_bool m_tuple m_len m_list m_all
  have G__law_most : FnOk P w K mg base CX0 7 D__law_most.f D__law_most.fd ["_law_n", "_law_k"] (sp_lmost K) := ok__law_most D__law_most D__law_low D__law_add m_abs m_range
  have G__law_first : FnOk P w K mg base CX0 7 D__law_first.f D__law_first.fd ["_law_row"] (sp_first K) := ok__law_first D__law_first D__law_less m_range m_len
  have G__law_flow : FnOk P w K mg base CX0 7 D__law_flow.f D__law_flow.fd ["_law_script", "_law_many"] (sp__law_flow K) := ok__law_flow D__law_flow m_abs m_len m_range
  refine D.F.ok sc_law (fun vs H Q E h => ?_) (fun cdv A outer s H vs Q E hr h => ?_)
  · obtain ⟨a, ns, rfl, _⟩ := h
    rfl
  obtain ⟨a, ns, rfl, hS, hlen, q⟩ := h
  refine ⟨_, (pss_cons (ps_set (i := 1) sc_law.nd rfl (.inl rfl) (pe_call G__law_flow (hr.mono (by omega)) (by rfl) D__law_flow.g D__law_flow.F.kp D__law_flow.b .nil pass0 (pa_cons (pv 0) (pa_cons pe_int pa_nil))))
      (pss_cons (ps_set (i := 2) sc_law.nd rfl (.inl rfl) (pe_op op_add pe_int (pe_op op_mod (pe_ix ix_list (pv 1) pe_int (fun _ _ => rfl)) pe_int)))
      (C8.pss_cut (ps_if (pt_cmpR op_eq (pe_op op_mod (pe_ix ix_list (pv 1) pe_int (fun _ _ => rfl)) pe_int) pe_int (nomark _)) (pss_one (ps_set (i := 2) sc_law.nd rfl (.inl rfl) (pe_op op_add pe_int (pe_op op_mod (pe_ix ix_list (pv 1) pe_int (fun _ _ => rfl)) pe_int)))) pss_nil)
      (pss_cons (ps_set (i := 3) sc_law.nd rfl (.inr rfl) (pe_call G__law_most (hr.mono (by omega)) (by rfl) D__law_most.g D__law_most.F.kp D__law_most.b .nil pass0 (pa_cons (pv 2) (pa_cons pe_int pa_nil))))
      (pss_cons (ps_set (i := 4) sc_law.nd rfl (.inl rfl) (pe_call G_foe_hours (hr.mono (by omega)) (by rfl) D_foe_hours.g D_foe_hours.F.kp D_foe_hours.b .nil pass0 (pa_cons (pv 2) pa_nil)))
      (pss_cons (ps_if (PW.pt (pw_or (pt_not (pt_val (pe_call G__law_whole (hr.mono (by omega)) (by rfl) D__law_whole.g D__law_whole.F.kp D__law_whole.b .nil pass0 (pa_cons (pv 4) pa_nil)))) (pw_or1 (pt_not (pt_chain op_lt op_le pe_int (pv 4) pe_int))))) (pss_one (ps_ret pe_bl)) pss_nil)
      (pss_cons (ps_setLc (i := 6) (own := [("_law_place", 5)]) (g := gName 5) (tt := tYes) rfl sc_law.nd rfl rfl (sw_true rfl rfl rfl (by decide +kernel)) (pi_range1 (by rfl) m_range (pa_cons (pv 2) pa_nil)) (blkOk_by (N := N_law) (sc := defScope s_law) (by decide +kernel)) (fun _ _ _ _ _ => pg_name (i := 5) sc_law.nd rfl (Or.inl rfl)) (fun _ _ _ _ _ => pts_nil) (fun _ _ _ _ _ => (pe_tup (pa_cons pe_int (pa_cons pe_int pa_nil)))))
      (pss_cons (ps_set (i := 7) sc_law.nd rfl (.inr rfl) (pe_lst pa_nil))
      (pss_cons (ps_for PassesOwn.never rfl (pi_range1 (by rfl) m_range (pa_cons (pv 4) pa_nil)) (pg_name (i := 8) sc_law.nd rfl (.inl rfl)) (pss_cons (ps_set (i := 9) sc_law.nd rfl (.inl rfl) (pe_call G_foe_shares (hr.mono (by omega)) (by rfl) D_foe_shares.g D_foe_shares.F.kp D_foe_shares.b .nil pass0 (pa_cons (pv 2) (pa_cons (pe_callTy call_list_of (by rfl) m_list PyProof.Rows.boot_list (pa_cons (pv 7) pa_nil)) pa_nil))))
      (pss_cons (ps_if (PW.pt (pw_or (pt_not (pt_val (pe_call G__law_parts (hr.mono (by omega)) (by rfl) D__law_parts.g D__law_parts.F.kp D__law_parts.b .nil pass0 (pa_cons (pv 9) pa_nil)))) (pw_or (pt_cmpR op_ne (pe_callB call_len_seq (by rfl) m_len PySem.boot_len (pa_cons (pv 9) pa_nil)) (pv 2) (nomark _)) (pw_or1 (pt_cmpR (op_neD hr.units) (pe_call G__law_sum (hr.mono (by omega)) (by rfl) D__law_sum.g D__law_sum.F.kp D__law_sum.b .nil pass0 (pa_cons (pv 9) pa_nil)) (pe_tup (pa_cons pe_int (pa_cons pe_int pa_nil))) (nomark _)))))) (pss_one (ps_ret pe_bl)) pss_nil)
      (pss_cons (ps_if (pt_val (pe_callB (cr_any rfl) (by rfl) m_any (by decide +kernel) (pa_cons (pe_lc (own := [("_law_share", 12)]) (g := gName 12) (tt := tYes) rfl sc_law.nd (pi_list (pv 9)) (blkOk_by (N := N_law) (sc := defScope s_law) (by decide +kernel)) (fun _ _ _ _ _ => pg_name (i := 12) sc_law.nd rfl (Or.inl rfl)) (fun _ _ _ _ _ => pts_nil) (fun _ _ _ _ _ => (pe_cmpR op_lt (pe_ix (r := rIxT K) ix_tup (pv 12) pe_int (fun _ _ => rfl)) pe_int (nomark _)))) pa_nil))) (pss_one (ps_ret pe_bl)) pss_nil)
      (pss_cons (ps_setLc (i := 6) (own := [("_law_lag", 11), ("_law_share", 12)]) (g := gTup K 2 (gCons (gName 11) (gCons (gName 12) gNil))) (tt := tYes) rfl sc_law.nd rfl rfl (sw_true rfl rfl rfl (by decide +kernel)) (pi_zip (by rfl) m_zip (pa_cons (pv 6) (pa_cons (pv 9) pa_nil))) (blkOk_by (N := N_law) (sc := defScope s_law) (by decide +kernel)) (fun _ _ _ _ _ => pg_tup rfl (pgs_cons (pg_name (i := 11) sc_law.nd rfl (Or.inl rfl)) (pgs_cons (pg_name (i := 12) sc_law.nd rfl (Or.inl rfl)) pgs_nil))) (fun _ _ _ _ _ => pts_nil) (fun _ _ _ _ _ => (pe_call G__law_add (hr.mono (by omega)) (by rfl) D__law_add.g D__law_add.F.kp D__law_add.b .nil pass0 (pa_cons (pv 11) (pa_cons (pv 12) pa_nil)))))
      (pss_cons (ps_set (i := 5) sc_law.nd rfl (.inl rfl) (pe_op op_mod (pe_ix ix_list (pv 1) (pe_op op_add pe_int (pv 8)) (fun _ _ => rfl)) (pv 2)))
      (pss_cons (ps_setLc (i := 10) (own := [("_law_k", 13)]) (g := gName 13) (tt := _) rfl sc_law.nd rfl rfl (sw_true rfl rfl rfl (by decide +kernel)) (pi_range1 (by rfl) m_range (pa_cons (pv 2) pa_nil)) (blkOk_by (N := N_law) (sc := defScope s_law) (by decide +kernel)) (fun _ _ _ _ _ => pg_name (i := 13) sc_law.nd rfl (Or.inl rfl)) (fun _ _ _ _ _ => (pts_one (pt_cmpR (r := rIn K true) op_notIn_seq (pv 13) (pv 7) (by rfl)))) (fun _ _ _ _ _ => (pv 13)))
      (C8.pss_cut (ps_if (pt_cmpR op_eq (pe_op op_mod (pe_ix ix_list (pv 1) pe_int (fun _ _ => rfl)) pe_int) pe_int (nomark _)) (pss_one (ps_set (i := 5) sc_law.nd rfl (.inl rfl) (pe_op op_mod (pe_ix ix_list (pv 1) (pe_op op_add pe_int (pv 8)) (fun _ _ => rfl)) (pe_callB (call_min2 rfl) (by rfl) m_min (by decide +kernel) (pa_cons (pv 2) (pa_cons pe_int pa_nil)))))) pss_nil)
      (C8.pss_cut (ps_if (PW.pt (pw_and (pt_cmpR op_eq (pe_op op_mod (pe_ix ix_list (pv 1) pe_int (fun _ _ => rfl)) pe_int) pe_int (nomark _)) (pw_and1 (pt_truth (pv 10) (by intro _; rfl))))) (pss_one (ps_set (i := 5) sc_law.nd rfl (.inl rfl) (pe_ix ix_list (pv 10) (pe_op op_mod (pe_ix ix_list (pv 1) (pe_op op_add pe_int (pv 8)) (fun _ _ => rfl)) (pe_callB call_len_seq (by rfl) m_len PySem.boot_len (pa_cons (pv 10) pa_nil))) (fun _ _ => rfl)))) pss_nil)
      (C8.pss_cut (ps_if (PW.pt (pw_and (pt_cmpR op_eq (pe_op op_mod (pe_ix ix_list (pv 1) pe_int (fun _ _ => rfl)) pe_int) pe_int (nomark _)) (pw_and1 (pt_cmpR op_gt (pe_op op_mod (pe_ix ix_list (pv 1) (pe_op op_add pe_int (pv 8)) (fun _ _ => rfl)) pe_int) pe_int (nomark _))))) (pss_one (ps_set (i := 5) sc_law.nd rfl (.inl rfl) (pe_call G__law_first (hr.mono (by omega)) (by rfl) D__law_first.g D__law_first.F.kp D__law_first.b .nil pass0 (pa_cons (pv 6) pa_nil)))) pss_nil)
      (pss_cons (ps_asg (pe_call G__law_sub (hr.mono (by omega)) (by rfl) D__law_sub.g D__law_sub.F.kp D__law_sub.b .nil pass0 (pa_cons (pe_ix ix_list (pv 6) (pv 5) (fun _ _ => rfl)) (pa_cons (pe_tup (pa_cons pe_int (pa_cons pe_int pa_nil))) pa_nil))) (pg_sub (pv 6) (pv 5) set_list))
      (pss_cons (ps_expr (pe_bm PySem.F.plainAttrs_list PySem.F.slot_list_append PySem.F.type_list_append mt_append (pv 7) (pa_cons (pv 5) pa_nil)))
      (pss_one (ps_if (pt_val (pe_callB (cr_any rfl) (by rfl) m_any (by decide +kernel) (pa_cons (pe_lc (own := [("_law_lag", 11)]) (g := gName 11) (tt := tYes) rfl sc_law.nd (pi_list (pv 6)) (blkOk_by (N := N_law) (sc := defScope s_law) (by decide +kernel)) (fun _ _ _ _ _ => pg_name (i := 11) sc_law.nd rfl (Or.inl rfl)) (fun _ _ _ _ _ => pts_nil) (fun _ _ _ _ _ => (pe_not (pe_call G__law_less (hr.mono (by omega)) (by rfl) D__law_less.g D__law_less.F.kp D__law_less.b .nil pass0 (pa_cons (pv 11) (pa_cons (pv 3) pa_nil)))))) pa_nil))) (pss_one (ps_ret pe_bl)) pss_nil))))))))))))))
      (pss_one (ps_ret pe_bl))))))))))), ?_⟩
  refine ⟨_, rfl, a, ns, 80, rfl, hS, hlen, (by decide), fun H1 v rs sm1 ls1 hl hb => ?_⟩
  obtain ⟨p, rfl, ep⟩ := ls1
  refine ⟨_, rfl, p, _, _, _, rfl, rfl, SqL.of ep, ls_z 0 rfl (by omega), _, _, rfl, rfl, (by show (0 : Int) < _; decide), _, _, rfl, rfl, ?_⟩
  refine ⟨fun σ H' => ∃ n : Nat, σ = [some (.ref a), some (.ref p), some (.int n), none, none, none, none, none, none, none, none, none, none, none] ∧ 2 ≤ n ∧ n ≤ 24 ∧ H' = H1, ?_, fun σ3 H3 hm => ?_⟩
  · refine ⟨_, rfl, p, _, _, _, rfl, rfl, SqL.of ep, ls_z 1 rfl (by omega), _, _, rfl, rfl, (by show (0 : Int) < _; decide), rfl, _, rfl, ite2 (fun e => ?_) (fun e => ?_)⟩
    · refine ⟨_, rfl, p, _, _, _, rfl, rfl, SqL.of ep, ls_z 0 rfl (by omega), _, _, rfl, rfl, (by show (0 : Int) < _; decide), _, _, rfl, rfl, ?_⟩
      refine ⟨(2 + rs.getD 0 0 % 23).toNat, ?_, by omega, by omega, rfl⟩
      rw [show (((2 + rs.getD 0 0 % 23).toNat : Nat) : Int) = 2 + rs.getD 0 0 % 23 by omega]
      rfl
    · refine ⟨(2 + rs.getD 0 0 % 11).toNat, ?_, by omega, by omega, rfl⟩
      rw [show (((2 + rs.getD 0 0 % 11).toNat : Nat) : Int) = 2 + rs.getD 0 0 % 11 by omega]
      rfl
  obtain ⟨n, rfl, hn1, hn2, rfl⟩ := hm
  refine ⟨_, rfl, (n : Int), 1, rfl, ⟨by omega, by omega⟩, ⟨by omega, by omega⟩, fun H4 vb s4 pb ob => ?_⟩
  refine ⟨_, rfl, (n : Int), rfl, ⟨by omega, by omega⟩, fun H5 s5 => ?_⟩
  obtain ⟨N, eN, hN1, hN2, hNB⟩ := hours_fact hn1 hn2
  rw [show hoursM (n : Int) = (N : Int) from eN]
  obtain ⟨evb, pbp⟩ := bound_val hn1 hn2
  have pb5 := pb.same s5
  have S5 := s4.trans s5
  refine ⟨_, rfl, _, rfl, true, rfl, iteF ?_⟩
  refine ⟨_, rfl, _, _, rfl, rfl, _, rfl, ?_⟩
  rw [decide_eq_true (show (0 : Int) < (N : Int) by omega)]
  refine iteT ⟨_, _, rfl, rfl, _, rfl, ?_⟩
  rw [decide_eq_true (show (N : Int) ≤ 70 by omega)]
  refine iteF ?_
  -- the lags
  refine ⟨_, rfl, (n : Int), rfl, by omega, by omega, fun Dd hD => ?_⟩
  refine lc_range (n := n) (fun i H' => ∃ us, H' Dd = some (.lst us) ∧ Pps K H' us (List.replicate i (0, 1)) ∧ Same H5 H') ⟨[], upd_same, .nil, same_upd hD⟩ (fun i H' hi hW => ?_) (fun H6 hW => ?_)
  · obtain ⟨us, eD, hV, sm⟩ := hW
    have hvl := hV.len
    rw [List.length_replicate] at hvl
    refine ⟨rfl, ?_⟩
    dsimp only [tYes]
    rw [if_pos rfl]
    refine ⟨(by show 2 ≤ sizeLine; decide), fun t ht => ?_⟩
    have st := same_upd (o := .tup [.int 0, .int 1]) ht
    have eD2 := st _ _ eD
    refine ⟨us, eD2, small1000 (by omega), us ++ [.ref t], upd_same, ?_, same_at hD (sm.trans st)⟩
    rw [rep_snoc]
    exact pps_grow eD2 (hV.same st) (x := (0, 1)) Pr.new
  obtain ⟨us0, eD0, hV0, s6⟩ := hW
  refine ⟨(by show 0 ≤ sizeLine; decide), fun pt npt => ?_⟩
  have sp := same_upd (o := .lst []) npt
  have npt5 : H5 pt = none := s6.free npt
  have ep5 := S5 _ _ ep
  -- hour by hour
  refine ⟨_, rfl, (N : Int), rfl, by omega, by omega, ?_⟩
  refine for_range (n := N) (fun i σ H' => ∃ (pl : Addr) (ts : List Nat) (y5 y8 y9 y10 : Option V), σ = [some (.ref a), some (.ref p), some (.int n), some vb, some (.int N), y5, some (.ref pl), some (.ref pt), y8, y9, y10, none, none, none] ∧ H' pt = some (.lst (natsV ts)) ∧ ts.length = i ∧ Below n ts ∧ LP K H' pl (foeF n ts i) ∧ (∀ j, 1 ≤ j → j ≤ i → ∀ t, t < n → val (itemP (foeF n ts j) t) < Tl n (n - 1)) ∧ Same H5 H')
    ⟨Dd, [], _, _, _, _, rfl, upd_same, rfl, Below.nil, ⟨us0, sp _ _ eD0, hV0.same sp⟩, fun j h1 h2 => absurd h1 (by omega), s6.trans sp⟩ (fun i σ Hc hi hW => ?_) (fun σ Hc hW => ?_)
  · obtain ⟨pl, ts, y5, y8, y9, y10, rfl, ept, htl, htb, lpl, hbel, sc⟩ := hW
    -- the foe's shares
    refine ⟨_, rfl, _, rfl, pt, _, rfl, .inl (SqL.of ept), fun pc hc => ?_⟩
    have sa := same_upd (o := .lst (natsV ts)) hc
    refine ⟨n, pc, ts, rfl, upd_same, by omega, by omega, fun Ha ps sb nps lps => ?_⟩
    have fml := foeM_len n ts
    have fok := foeM_ok (ts := ts) (show 1 ≤ n by omega) hn2
    refine ⟨_, rfl, ps, _, rfl, lps, by omega, fun Hb sd => ⟨true, rfl, iteF ?_⟩⟩
    have lps2 := lps.same sd
    obtain ⟨ws, ews, hws⟩ := id lps2
    have hwl := hws.len
    rw [fml] at hwl
    refine ⟨_, rfl, ps, ws, rfl, .inl (SqL.of ews), _, rfl, rfl, _, rfl, iteNS (by rw [hwl]) ?_⟩
    refine ⟨_, rfl, ps, ws, foeM n ts, 6, rfl, SqL.of ews, hws, fun x hx => (fok x hx).1, by rw [fml]; omega, fun _ _ => True.intro, fun Hd rd se pd od ld => ?_⟩
    rw [foe_sum (by omega) hn2] at pd
    refine ⟨(by show 2 ≤ sizeLine; decide), fun t1 ht1 => ?_⟩
    have st1 := same_upd (o := .tup [.int 1, .int 1]) ht1
    obtain ⟨d, e, h1, h2, h3, h4, h5⟩ := pp_eq (pd.same st1) (Pr.new : Pp K (upd Hd t1 (.tup [.int 1, .int 1])) (.ref t1) (1, 1))
    refine ⟨d, e, h1, h2, h3, h4, _, rfl, ?_⟩
    rw [h5]
    refine iteF ?_
    have sCd : Same Hc (upd Hd t1 (.tup [.int 1, .int 1])) := sa.trans (sb.trans (sd.trans (se.trans st1)))
    have ews3 := (se.trans st1) _ _ ews
    have hws3 := hws.same (se.trans st1)
    generalize upd Hd t1 (.tup [.int 1, .int 1]) = He at sCd ews3 hws3 ⊢
    -- none below nought
    refine ⟨_, rfl, ps, rfl, ⟨_, SqL.of ews3⟩, fun Db hDb => ?_⟩
    refine lc_list (xs := ws) (fun i H' => H' Db = some (.lst ((List.replicate i false).map V.bl)) ∧ Same He H') ⟨upd_same, same_upd hDb⟩ (fun i H' _ hW => ?_) (fun i z H' hz hW => ?_) (fun Hf hW => ?_)
    · exact SqL.of (hW.2 _ _ ews3)
    · obtain ⟨eD, sm⟩ := hW
      obtain ⟨x, hx, px⟩ := pps_get hws3 hz
      have hil := (List.getElem?_eq_some_iff.1 hx).1
      have hge := foe_nonneg (List.mem_of_getElem? hx)
      obtain ⟨tp, rfl, hq⟩ := px.same sm
      refine ⟨rfl, ?_⟩
      dsimp only [tYes]
      rw [if_pos rfl]
      refine ⟨_, rfl, tp, _, 0, _, rfl, rfl, hq, rfl, _, _, rfl, rfl, _, eD, small1000 (by rw [List.length_map, List.length_replicate]; omega), ?_, same_at hDb sm⟩
      dsimp only
      rw [upd_same, decide_eq_false (by omega), List.replicate_succ', List.map_append]
      rfl
    obtain ⟨eDb, sf⟩ := hW
    refine ⟨Db, _, rfl, SqL.of eDb, _, rfl, ?_⟩
    rw [show (List.replicate ws.length false).any id = false by simp]
    refine iteF ?_
    have sCf := sCd.trans sf
    have lplf := lpl.same sCf
    obtain ⟨us, eus, hus⟩ := lplf
    have fl := foeF_len n ts i
    have hul := hus.len
    rw [fl] at hul
    have ofl := foeF_ok (n := n) (by omega) hn2 htb i
    have ewsf := sf _ _ ews3
    have hwsf := hws3.same sf
    -- the raised lags
    refine ⟨_, rfl, _, rfl, pl, ps, us, ws, rfl, SqL.of eus, SqL.of ewsf, fun Dz hDz => ?_⟩
    refine lc_it (walk_zip (xs := us) (ys := ws) (n := n) (by rw [hul, hwl, Nat.min_self])) (fun i' H' => ∃ vs, H' Dz = some (.lst vs) ∧ Pps K H' vs ((List.zipWith addP (foeF n ts i) (foeM n ts)).take i') ∧ Same Hf H') ⟨[], upd_same, .nil, same_upd hDz⟩ (fun i' H' _ hW => ?_) (fun i' x H' H'' hi' hW hy' => ?_) (fun Hg hW => ?_)
    · obtain ⟨_, _, _, sm⟩ := hW
      exact ⟨SqL.of (sm _ _ eus), SqL.of (sm _ _ ewsf)⟩
    · obtain ⟨vs', eD, hV, sm⟩ := hW
      obtain ⟨T, x1, x2, rfl, nT, rfl, f1, f2⟩ := hy'
      obtain ⟨a', ha, pa⟩ := pps_get hus f1
      obtain ⟨b', hb', pb'⟩ := pps_get hwsf f2
      have oa := ofl a' (List.mem_of_getElem? ha)
      have ob' := fok b' (List.mem_of_getElem? hb')
      have st := same_upd (o := .tup [x1, x2]) nT
      have sm2 := sm.trans st
      refine ⟨T, [x1, x2], rfl, SqT.of upd_same, rfl, x1, [x2], rfl, x2, [], rfl, rfl, ?_⟩
      refine ⟨rfl, ?_⟩
      dsimp only [tYes]
      rw [if_pos rfl]
      refine ⟨_, rfl, _, rfl, x1, x2, a', b', _, 6, rfl, pa.same sm2, pb'.same sm2, oa.1, ob'.1, by omega, True.intro, fun H4' v4 s4' p4 => ?_⟩
      have eD4 := s4' _ _ (st _ _ eD)
      refine ⟨vs', eD4, small1000 ?_, vs' ++ [v4], upd_same, ?_, same_at hDz (sm.trans (st.trans s4'))⟩
      · rw [hV.len, List.length_take]
        omega
      · rw [zip_at ha hb']
        exact pps_grow eD4 ((hV.same st).same s4') p4
    obtain ⟨zs, ez, hz, sg⟩ := hW
    obtain ⟨zz, ezz⟩ : ∃ zz, zz = List.zipWith addP (foeF n ts i) (foeM n ts) := ⟨_, rfl⟩
    have zl : zz.length = n := by rw [ezz, List.length_zipWith, fl, fml, Nat.min_self]
    have oz : AllOk (6 + 9 * i + 7) zz := by rw [ezz]; exact zip6_ok ofl fok
    rw [← ezz, List.take_of_length_le (by omega)] at hz
    have hzl := hz.len
    rw [zl] at hzl
    have nz : Hc Dz = none := sCf.free hDz
    have sCg := sCf.trans sg
    -- the place
    obtain ⟨m0, em0, hm0⟩ := mod_nat (r := rs.getD (4 + i) 0) (n := n) (by omega)
    have epg := (sc.trans sCg) _ _ ep5
    refine ⟨_, rfl, _, rfl, _, _, rfl, rfl, p, _, _, _, rfl, rfl, SqL.of epg, ls_z (4 + i) (by omega) (by omega), _, rfl, _, _, rfl, rfl, (show (0 : Int) < (n : Int) by omega), ?_⟩
    dsimp only
    rw [em0]
    -- who is left
    have eptg := sCg _ _ ept
    refine ⟨_, rfl, (n : Int), rfl, by omega, by omega, fun Dw hDw => ?_⟩
    refine lc_range (n := n) (fun i' H' => H' Dw = some (.lst (natsV ((List.range i').filter fun j => !decide (j ∈ ts)))) ∧ Same Hg H') ⟨upd_same, same_upd hDw⟩ (fun i' H' hi' hW => ?_) (fun Hh hW => ?_)
    · obtain ⟨eD, sm⟩ := hW
      refine ⟨rfl, ?_⟩
      refine ⟨_, rfl, _, rfl, pt, _, rfl, .inl (SqL.of (sm _ _ eptg)), rfl, natsV_flat _, _, rfl, ?_⟩
      rw [show inV (V.int (0 + (i' : Int))) (natsV ts) = decide (i' ∈ ts) from by rw [Int.zero_add]; exact natsV_in ts i']
      have fs' := filt_succ (fun j => !decide (j ∈ ts)) i'
      refine ite2 (fun e2 => ?_) (fun e2 => ?_)
      · have e3 : (!decide (i' ∈ ts)) = true := e2
        have hle := filt_lt (fun j => !decide (j ∈ ts)) i'
        refine ⟨_, rfl, _, eD, small1000 (by rw [natsV_len]; omega), ?_, same_at hDw sm⟩
        rw [upd_same, fs', if_pos e3, Int.zero_add, natsV_snoc]
      · have e3 : ¬ (!decide (i' ∈ ts)) = true := e2
        refine ⟨?_, sm⟩
        rw [fs', if_neg e3, List.append_nil]
        exact eD
    obtain ⟨ewt, sh⟩ := hW
    replace ewt : Hh Dw = some (.lst (natsV (waitL n ts))) := ewt
    have eph := sh _ _ epg
    have sCh := sCg.trans sh
    have ezh := sh _ _ ez
    have hzh := hz.same sh
    -- three ways
    refine ⟨fun σ H' => ∃ m : Nat, σ = [some (.ref a), some (.ref p), some (.int n), some vb, some (.int N), some (.int m), some (.ref Dz), some (.ref pt), some (.int (0 + (i : Int))), some (.ref ps), some (.ref Dw), none, none, none] ∧ m < n ∧ H' = Hh, ?_, fun σ7 H7 hm => ?_⟩
    · refine ⟨_, rfl, p, _, _, _, rfl, rfl, SqL.of eph, ls_z 2 rfl (by omega), _, _, rfl, rfl, (by show (0 : Int) < _; decide), rfl, _, rfl, ite2 (fun e => ?_) (fun e => ?_)⟩
      · obtain ⟨m1, em1, hm1⟩ := mod_nat (r := rs.getD (4 + i) 0) (n := 2) (by omega)
        refine ⟨_, rfl, _, rfl, _, _, rfl, rfl, p, _, _, _, rfl, rfl, SqL.of eph, ls_z (4 + i) (by omega) (by omega), _, rfl, _, _, rfl, _, _, rfl, rfl, ?_, ?_⟩
        · show (0 : Int) < if (2 : Int) < (n : Int) then 2 else (n : Int)
          split <;> omega
        · refine ⟨m1, ?_, by omega, rfl⟩
          have e2 : (if (2 : Int) < (n : Int) then (2 : Int) else (n : Int)) = ((2 : Nat) : Int) := by split <;> omega
          dsimp only
          rw [e2, em1]
          rfl
      · exact ⟨m0, rfl, hm0, rfl⟩
    obtain ⟨m1, rfl, hm1, rfl⟩ := hm
    refine ⟨fun σ H' => ∃ m : Nat, σ = [some (.ref a), some (.ref p), some (.int n), some vb, some (.int N), some (.int m), some (.ref Dz), some (.ref pt), some (.int (0 + (i : Int))), some (.ref ps), some (.ref Dw), none, none, none] ∧ m < n ∧ H' = H7, ?_, fun σ8 H8 hm => ?_⟩
    · refine ⟨_, rfl, p, _, _, _, rfl, rfl, SqL.of eph, ls_z 2 rfl (by omega), _, _, rfl, rfl, (by show (0 : Int) < _; decide), rfl, _, rfl, ite2 (fun e => ?_) (fun e => ?_)⟩
      · refine ⟨_, rfl, _, .inl ⟨_, SqL.of ewt, rfl⟩, ite2 (fun e2 => ?_) (fun e2 => ?_)⟩
        · have hw1 : 1 ≤ (waitL n ts).length := by
            cases ew : waitL n ts with
            | nil => rw [ew] at e2; cases e2
            | cons => rw [List.length_cons]; omega
          obtain ⟨m2, em2, hm2⟩ := mod_nat (r := rs.getD (4 + i) 0) (n := (waitL n ts).length) (by omega)
          obtain ⟨t, ht⟩ : ∃ t, (waitL n ts)[m2]? = some t := ⟨_, List.getElem?_eq_getElem hm2⟩
          refine ⟨_, rfl, _, rfl, _, rfl, _, _, rfl, rfl, p, _, _, _, rfl, rfl, SqL.of eph, ls_z (4 + i) (by omega) (by omega), _, rfl, Dw, _, rfl, .inl (SqL.of ewt), _, _, rfl, rfl, ?_, Dw, _, _, .int (t : Int), rfl, rfl, SqL.of ewt, ?_, ?_⟩
          · show (0 : Int) < ((natsV (waitL n ts)).length : Int)
            rw [natsV_len]
            omega
          · rw [natsV_len, em2]
            exact atI_nat (natsV_at ht)
          · exact ⟨t, rfl, List.mem_range.1 (List.mem_filter.1 (List.mem_of_getElem? ht)).1, rfl⟩
        · exact ⟨m1, rfl, hm1, rfl⟩
      · exact ⟨m1, rfl, hm1, rfl⟩
    obtain ⟨m2, rfl, hm2, rfl⟩ := hm
    refine ⟨fun σ H' => ∃ m : Nat, σ = [some (.ref a), some (.ref p), some (.int n), some vb, some (.int N), some (.int m), some (.ref Dz), some (.ref pt), some (.int (0 + (i : Int))), some (.ref ps), some (.ref Dw), none, none, none] ∧ m < n ∧ H' = H8, ?_, fun σ9 H9 hm => ?_⟩
    · refine ⟨_, rfl, p, _, _, _, rfl, rfl, SqL.of eph, ls_z 2 rfl (by omega), _, _, rfl, rfl, (by show (0 : Int) < _; decide), rfl, _, rfl, ite2 (fun e => ?_) (fun e => ?_)⟩
      · refine ⟨_, rfl, _, rfl, _, _, rfl, rfl, p, _, _, _, rfl, rfl, SqL.of eph, ls_z (4 + i) (by omega) (by omega), _, _, rfl, rfl, (by show (0 : Int) < _; decide), _, _, rfl, rfl, _, rfl, ite2 (fun e2 => ?_) (fun e2 => ?_)⟩
        · refine ⟨_, rfl, Dz, zz, rfl, ⟨zs, ezh, hzh⟩, by omega, by omega, oz.mono (by omega), firstM zz, rfl, ?_, rfl⟩
          have := firstM_lt (xs := zz) (by omega)
          omega
        · exact ⟨m2, rfl, hm2, rfl⟩
      · exact ⟨m2, rfl, hm2, rfl⟩
    obtain ⟨t, rfl, htn, rfl⟩ := hm
    -- one is taken
    have oi := item_ok oz (i := t) (by omega)
    obtain ⟨v1, g1, p1⟩ := pps_at hzh (item_some (show t < zz.length by omega))
    refine ⟨_, rfl, _, rfl, Dz, zs, _, v1, rfl, rfl, SqL.of ezh, atI_nat g1, (by show 2 ≤ sizeLine; decide), fun t2 ht2 => ?_⟩
    have st := same_upd (o := .tup [.int 1, .int 1]) ht2
    refine ⟨v1, .ref t2, _, (1, 1), _, 1, rfl, p1.same st, Pr.new, oi.1, ⟨by decide, by unfold Bd; decide, by unfold Bd; decide⟩, by omega, True.intro, fun H10 v10 s10 p10 => ?_⟩
    have S10 := st.trans s10
    have ez10 := S10 _ _ ezh
    refine ⟨_, rfl, _, rfl, Dz, zs, _, t, rfl, rfl, ez10, ix_nat (by omega), ?_⟩
    have lp := LP.put ez10 (hzh.same S10) p10 t
    have etk : ts.take i = ts := List.take_of_length_le (by omega)
    have es : zz.set t (subP (itemP zz t) (1, 1)) = foeF n (ts ++ [t]) (i + 1) := by
      show _ = takeOne (List.zipWith addP (foeF n (ts ++ [t]) i) (foeM n ((ts ++ [t]).take i))) ((ts ++ [t]).getD i 0)
      rw [foeF_app i (by omega), List.take_append_of_le_length (by omega), etk, nat_at (t := t) (by rw [List.getElem?_append_right (by omega), htl, Nat.sub_self]; rfl), ← ezz]
      rfl
    rw [es] at lp
    have s11 : Same Hc (upd H10 Dz (.lst (zs.set t v10))) := same_at nz (sCh.trans S10)
    obtain ⟨us2, e2, hV2⟩ := lp
    generalize upd H10 Dz (.lst (zs.set t v10)) = H11 at s11 e2 hV2 ⊢
    have ept11 := s11 _ _ ept
    refine ⟨_, rfl, .inl ⟨rfl, _, SqL.of ept11⟩, _, rfl, pt, _, _, rfl, rfl, ept11, small1000 (by rw [natsV_len]; omega), ?_⟩
    rw [natsV_snoc]
    have npz : Dz ≠ pt := fun z => by rw [z, ept] at nz; cases nz
    have lp12 : LP K (upd H11 pt (.lst (natsV (ts ++ [t])))) Dz (foeF n (ts ++ [t]) (i + 1)) := LP.off ⟨us2, e2, hV2⟩ ept11 npz
    have s12 : Same H5 (upd H11 pt (.lst (natsV (ts ++ [t])))) := same_at npt5 (sc.trans s11)
    have e12 : upd H11 pt (.lst (natsV (ts ++ [t]))) pt = some (.lst (natsV (ts ++ [t]))) := upd_same
    generalize upd H11 pt (.lst (natsV (ts ++ [t]))) = H12 at lp12 s12 e12 ⊢
    obtain ⟨us3, e3, hV3⟩ := id lp12
    have fl2 := foeF_len n (ts ++ [t]) (i + 1)
    have hul3 := hV3.len
    rw [fl2] at hul3
    have htb2 : Below n (ts ++ [t]) := htb.snoc htn
    have of2 := foeF_ok (n := n) (by omega) hn2 htb2 (i + 1)
    have pb12 := pb5.same s12
    -- any at the bound
    refine ⟨_, rfl, Dz, rfl, ⟨_, SqL.of e3⟩, fun Dx hDx => ?_⟩
    refine lc_list (xs := us3) (fun i' H' => H' Dx = some (.lst ((((foeF n (ts ++ [t]) (i + 1)).take i').map fun x => !(lessP x (lmost (n : Int) 1))).map V.bl)) ∧ Same H12 H') ⟨upd_same, same_upd hDx⟩ (fun i' H' _ hW => ?_) (fun i' z H' hz' hW => ?_) (fun H13 hW => ?_)
    · exact SqL.of (hW.2 _ _ e3)
    · obtain ⟨eD, sm⟩ := hW
      obtain ⟨x, hx, px⟩ := pps_get hV3 hz'
      have hil := (List.getElem?_eq_some_iff.1 hx).1
      have ox := (of2 x (List.mem_of_getElem? hx)).1
      refine ⟨rfl, ?_⟩
      dsimp only [tYes]
      rw [if_pos rfl]
      refine ⟨_, rfl, _, rfl, z, vb, _, _, _, _, 1000, rfl, px.same sm, pb12.same sm, ⟨ox.top.mono (by omega), ox.bot.mono (by omega), ob.top.mono (by decide), ob.bot.mono (by decide)⟩, by decide, _, rfl, ?_⟩
      refine ⟨_, eD, small1000 (by rw [List.length_map, List.length_map, List.length_take]; omega), ?_, same_at hDx sm⟩
      rw [upd_same, List.take_add_one, hx]
      simp only [List.map_append, Option.toList_some, List.map_cons, List.map_nil]
      rfl
    obtain ⟨eDx, s13⟩ := hW
    rw [List.take_of_length_le (by omega)] at eDx
    refine ⟨Dx, _, rfl, SqL.of eDx, _, rfl, ite2 (fun e => ?_) (fun e => ?_)⟩
    · exact q _
    · refine ⟨Dz, ts ++ [t], _, _, _, _, rfl, s13 _ _ e12, by rw [List.length_append, htl]; rfl, htb2, lp12.same s13, fun j h1 h2 t' ht' => ?_, s12.trans s13⟩
      by_cases ej : j = i + 1
      · subst ej
        have e' := Bool.eq_false_iff.2 e
        rw [List.any_eq_false] at e'
        have hm := e' (!(lessP (itemP (foeF n (ts ++ [t]) (i + 1)) t') (lmost (n : Int) 1))) (List.mem_map_of_mem (f := fun x => !(lessP x (lmost (n : Int) 1))) (List.mem_of_getElem? (item_some (by omega))))
        have hl' : lessP (itemP (foeF n (ts ++ [t]) (i + 1)) t') (lmost (n : Int) 1) = true := by simpa using hm
        rw [lessP_iff (item_ok of2 (by omega)).1.pos pbp, evb] at hl'
        exact hl'
      · rw [foeF_app j (by omega)]
        exact hbel j h1 (by omega) t' ht'
  · obtain ⟨pl, ts, y5, y8, y9, y10, rfl, ept, htl, htb, lpl, hbel, sc⟩ := hW
    exfalso
    obtain ⟨j, t, h1, h2, h3, h4⟩ := foe_wins htb hn1 hn2 rfl (by rw [htl]; exact hNB) (by omega)
    exact absurd h4 (Rat.not_le.2 (hbel j h1 (by omega) t h3))

end
theorem all_mk {l : PySem.W.OpenLaw} {w : World} {K : PySem.W.Frag} {h : Heap} {mg : Str → Option Value} {fa f0 f1 f2 f3 f4 f5 f6 f7 f8 f9 f10 f11 f12 f13 f14 f15 f16 f17 f18 f19 f20 f21 : Addr} (X : K.In h) (G : h.Ns mainGlobals mg) (hfa : mg "law" = some (.ref fa))
    {od0 an0 : Option Addr} {sl0 : Array (Option Value)} {oc0 kV0 dc0 pm0 cd0 ct0 : Value}
    (a0 : PySem.W.nsIn K mainGlobals "common" = some (some (.ref f0))) (l0 : K.lookup f0 = some ⟨oc0, od0, .func (PySem.W.fnOf "common" "common" (defArgs s_common) (defBody s_common) (defScope s_common) .none kV0 dc0 pm0 an0 cd0 ct0), sl0⟩) (c0 : PySem.W.codeIn K cd0 "common" = true) (k0 : PySem.W.keepIn K (.ref f0) = true)
    {od1 an1 : Option Addr} {sl1 : Array (Option Value)} {oc1 kV1 dc1 pm1 cd1 ct1 : Value}
    (a1 : PySem.W.nsIn K mainGlobals "lowest" = some (some (.ref f1))) (l1 : K.lookup f1 = some ⟨oc1, od1, .func (PySem.W.fnOf "lowest" "lowest" (defArgs s_lowest) (defBody s_lowest) (defScope s_lowest) .none kV1 dc1 pm1 an1 cd1 ct1), sl1⟩) (c1 : PySem.W.codeIn K cd1 "lowest" = true) (k1 : PySem.W.keepIn K (.ref f1) = true)
    {od2 an2 : Option Addr} {sl2 : Array (Option Value)} {oc2 kV2 dc2 pm2 cd2 ct2 : Value}
    (a2 : PySem.W.nsIn K mainGlobals "plus" = some (some (.ref f2))) (l2 : K.lookup f2 = some ⟨oc2, od2, .func (PySem.W.fnOf "plus" "plus" (defArgs s_plus) (defBody s_plus) (defScope s_plus) .none kV2 dc2 pm2 an2 cd2 ct2), sl2⟩) (c2 : PySem.W.codeIn K cd2 "plus" = true) (k2 : PySem.W.keepIn K (.ref f2) = true)
    {od3 an3 : Option Addr} {sl3 : Array (Option Value)} {oc3 kV3 dc3 pm3 cd3 ct3 : Value}
    (a3 : PySem.W.nsIn K mainGlobals "times" = some (some (.ref f3))) (l3 : K.lookup f3 = some ⟨oc3, od3, .func (PySem.W.fnOf "times" "times" (defArgs s_times) (defBody s_times) (defScope s_times) .none kV3 dc3 pm3 an3 cd3 ct3), sl3⟩) (c3 : PySem.W.codeIn K cd3 "times" = true) (k3 : PySem.W.keepIn K (.ref f3) = true)
    {od4 an4 : Option Addr} {sl4 : Array (Option Value)} {oc4 kV4 dc4 pm4 cd4 ct4 : Value}
    (a4 : PySem.W.nsIn K mainGlobals "total" = some (some (.ref f4))) (l4 : K.lookup f4 = some ⟨oc4, od4, .func (PySem.W.fnOf "total" "total" (defArgs s_total) (defBody s_total) (defScope s_total) .none kV4 dc4 pm4 an4 cd4 ct4), sl4⟩) (c4 : PySem.W.codeIn K cd4 "total" = true) (k4 : PySem.W.keepIn K (.ref f4) = true)
    {od5 an5 : Option Addr} {sl5 : Array (Option Value)} {oc5 kV5 dc5 pm5 cd5 ct5 : Value}
    (a5 : PySem.W.nsIn K mainGlobals "ceil_of" = some (some (.ref f5))) (l5 : K.lookup f5 = some ⟨oc5, od5, .func (PySem.W.fnOf "ceil_of" "ceil_of" (defArgs s_ceil_of) (defBody s_ceil_of) (defScope s_ceil_of) .none kV5 dc5 pm5 an5 cd5 ct5), sl5⟩) (c5 : PySem.W.codeIn K cd5 "ceil_of" = true) (k5 : PySem.W.keepIn K (.ref f5) = true)
    {od6 an6 : Option Addr} {sl6 : Array (Option Value)} {oc6 kV6 dc6 pm6 cd6 ct6 : Value}
    (a6 : PySem.W.nsIn K mainGlobals "unit_sum" = some (some (.ref f6))) (l6 : K.lookup f6 = some ⟨oc6, od6, .func (PySem.W.fnOf "unit_sum" "unit_sum" (defArgs s_unit_sum) (defBody s_unit_sum) (defScope s_unit_sum) .none kV6 dc6 pm6 an6 cd6 ct6), sl6⟩) (c6 : PySem.W.codeIn K cd6 "unit_sum" = true) (k6 : PySem.W.keepIn K (.ref f6) = true)
    {od7 an7 : Option Addr} {sl7 : Array (Option Value)} {oc7 kV7 dc7 pm7 cd7 ct7 : Value}
    (a7 : PySem.W.nsIn K mainGlobals "behind" = some (some (.ref f7))) (l7 : K.lookup f7 = some ⟨oc7, od7, .func (PySem.W.fnOf "behind" "behind" (defArgs s_behind) (defBody s_behind) (defScope s_behind) .none kV7 dc7 pm7 an7 cd7 ct7), sl7⟩) (c7 : PySem.W.codeIn K cd7 "behind" = true) (k7 : PySem.W.keepIn K (.ref f7) = true)
    {od8 an8 : Option Addr} {sl8 : Array (Option Value)} {oc8 kV8 dc8 pm8 cd8 ct8 : Value}
    (a8 : PySem.W.nsIn K mainGlobals "foe_hours" = some (some (.ref f8))) (l8 : K.lookup f8 = some ⟨oc8, od8, .func (PySem.W.fnOf "foe_hours" "foe_hours" (defArgs s_foe_hours) (defBody s_foe_hours) (defScope s_foe_hours) .none kV8 dc8 pm8 an8 cd8 ct8), sl8⟩) (c8 : PySem.W.codeIn K cd8 "foe_hours" = true) (k8 : PySem.W.keepIn K (.ref f8) = true)
    {od9 an9 : Option Addr} {sl9 : Array (Option Value)} {oc9 kV9 dc9 pm9 cd9 ct9 : Value}
    (a9 : PySem.W.nsIn K mainGlobals "foe_shares" = some (some (.ref f9))) (l9 : K.lookup f9 = some ⟨oc9, od9, .func (PySem.W.fnOf "foe_shares" "foe_shares" (defArgs s_foe_shares) (defBody s_foe_shares) (defScope s_foe_shares) .none kV9 dc9 pm9 an9 cd9 ct9), sl9⟩) (c9 : PySem.W.codeIn K cd9 "foe_shares" = true) (k9 : PySem.W.keepIn K (.ref f9) = true)
    {od10 an10 : Option Addr} {sl10 : Array (Option Value)} {oc10 kV10 dc10 pm10 cd10 ct10 : Value}
    (a10 : PySem.W.nsIn K mainGlobals "_law_whole" = some (some (.ref f10))) (l10 : K.lookup f10 = some ⟨oc10, od10, .func (PySem.W.fnOf "_law_whole" "_law_whole" (defArgs s__law_whole) (defBody s__law_whole) (defScope s__law_whole) .none kV10 dc10 pm10 an10 cd10 ct10), sl10⟩) (c10 : PySem.W.codeIn K cd10 "_law_whole" = true) (k10 : PySem.W.keepIn K (.ref f10) = true)
    {od11 an11 : Option Addr} {sl11 : Array (Option Value)} {oc11 kV11 dc11 pm11 cd11 ct11 : Value}
    (a11 : PySem.W.nsIn K mainGlobals "_law_low" = some (some (.ref f11))) (l11 : K.lookup f11 = some ⟨oc11, od11, .func (PySem.W.fnOf "_law_low" "_law_low" (defArgs s__law_low) (defBody s__law_low) (defScope s__law_low) .none kV11 dc11 pm11 an11 cd11 ct11), sl11⟩) (c11 : PySem.W.codeIn K cd11 "_law_low" = true) (k11 : PySem.W.keepIn K (.ref f11) = true)
    {od12 an12 : Option Addr} {sl12 : Array (Option Value)} {oc12 kV12 dc12 pm12 cd12 ct12 : Value}
    (a12 : PySem.W.nsIn K mainGlobals "_law_add" = some (some (.ref f12))) (l12 : K.lookup f12 = some ⟨oc12, od12, .func (PySem.W.fnOf "_law_add" "_law_add" (defArgs s__law_add) (defBody s__law_add) (defScope s__law_add) .none kV12 dc12 pm12 an12 cd12 ct12), sl12⟩) (c12 : PySem.W.codeIn K cd12 "_law_add" = true) (k12 : PySem.W.keepIn K (.ref f12) = true)
    {od13 an13 : Option Addr} {sl13 : Array (Option Value)} {oc13 kV13 dc13 pm13 cd13 ct13 : Value}
    (a13 : PySem.W.nsIn K mainGlobals "_law_sub" = some (some (.ref f13))) (l13 : K.lookup f13 = some ⟨oc13, od13, .func (PySem.W.fnOf "_law_sub" "_law_sub" (defArgs s__law_sub) (defBody s__law_sub) (defScope s__law_sub) .none kV13 dc13 pm13 an13 cd13 ct13), sl13⟩) (c13 : PySem.W.codeIn K cd13 "_law_sub" = true) (k13 : PySem.W.keepIn K (.ref f13) = true)
    {od14 an14 : Option Addr} {sl14 : Array (Option Value)} {oc14 kV14 dc14 pm14 cd14 ct14 : Value}
    (a14 : PySem.W.nsIn K mainGlobals "_law_less" = some (some (.ref f14))) (l14 : K.lookup f14 = some ⟨oc14, od14, .func (PySem.W.fnOf "_law_less" "_law_less" (defArgs s__law_less) (defBody s__law_less) (defScope s__law_less) .none kV14 dc14 pm14 an14 cd14 ct14), sl14⟩) (c14 : PySem.W.codeIn K cd14 "_law_less" = true) (k14 : PySem.W.keepIn K (.ref f14) = true)
    {od15 an15 : Option Addr} {sl15 : Array (Option Value)} {oc15 kV15 dc15 pm15 cd15 ct15 : Value}
    (a15 : PySem.W.nsIn K mainGlobals "_law_sum" = some (some (.ref f15))) (l15 : K.lookup f15 = some ⟨oc15, od15, .func (PySem.W.fnOf "_law_sum" "_law_sum" (defArgs s__law_sum) (defBody s__law_sum) (defScope s__law_sum) .none kV15 dc15 pm15 an15 cd15 ct15), sl15⟩) (c15 : PySem.W.codeIn K cd15 "_law_sum" = true) (k15 : PySem.W.keepIn K (.ref f15) = true)
    {od16 an16 : Option Addr} {sl16 : Array (Option Value)} {oc16 kV16 dc16 pm16 cd16 ct16 : Value}
    (a16 : PySem.W.nsIn K mainGlobals "_law_part" = some (some (.ref f16))) (l16 : K.lookup f16 = some ⟨oc16, od16, .func (PySem.W.fnOf "_law_part" "_law_part" (defArgs s__law_part) (defBody s__law_part) (defScope s__law_part) .none kV16 dc16 pm16 an16 cd16 ct16), sl16⟩) (c16 : PySem.W.codeIn K cd16 "_law_part" = true) (k16 : PySem.W.keepIn K (.ref f16) = true)
    {od17 an17 : Option Addr} {sl17 : Array (Option Value)} {oc17 kV17 dc17 pm17 cd17 ct17 : Value}
    (a17 : PySem.W.nsIn K mainGlobals "_law_parts" = some (some (.ref f17))) (l17 : K.lookup f17 = some ⟨oc17, od17, .func (PySem.W.fnOf "_law_parts" "_law_parts" (defArgs s__law_parts) (defBody s__law_parts) (defScope s__law_parts) .none kV17 dc17 pm17 an17 cd17 ct17), sl17⟩) (c17 : PySem.W.codeIn K cd17 "_law_parts" = true) (k17 : PySem.W.keepIn K (.ref f17) = true)
    {od18 an18 : Option Addr} {sl18 : Array (Option Value)} {oc18 kV18 dc18 pm18 cd18 ct18 : Value}
    (a18 : PySem.W.nsIn K mainGlobals "_law_most" = some (some (.ref f18))) (l18 : K.lookup f18 = some ⟨oc18, od18, .func (PySem.W.fnOf "_law_most" "_law_most" (defArgs s__law_most) (defBody s__law_most) (defScope s__law_most) .none kV18 dc18 pm18 an18 cd18 ct18), sl18⟩) (c18 : PySem.W.codeIn K cd18 "_law_most" = true) (k18 : PySem.W.keepIn K (.ref f18) = true)
    {od19 an19 : Option Addr} {sl19 : Array (Option Value)} {oc19 kV19 dc19 pm19 cd19 ct19 : Value}
    (a19 : PySem.W.nsIn K mainGlobals "_law_first" = some (some (.ref f19))) (l19 : K.lookup f19 = some ⟨oc19, od19, .func (PySem.W.fnOf "_law_first" "_law_first" (defArgs s__law_first) (defBody s__law_first) (defScope s__law_first) .none kV19 dc19 pm19 an19 cd19 ct19), sl19⟩) (c19 : PySem.W.codeIn K cd19 "_law_first" = true) (k19 : PySem.W.keepIn K (.ref f19) = true)
    {od20 an20 : Option Addr} {sl20 : Array (Option Value)} {oc20 kV20 dc20 pm20 cd20 ct20 : Value}
    (a20 : PySem.W.nsIn K mainGlobals "_law_flow" = some (some (.ref f20))) (l20 : K.lookup f20 = some ⟨oc20, od20, .func (PySem.W.fnOf "_law_flow" "_law_flow" (defArgs s__law_flow) (defBody s__law_flow) (defScope s__law_flow) .none kV20 dc20 pm20 an20 cd20 ct20), sl20⟩) (c20 : PySem.W.codeIn K cd20 "_law_flow" = true) (k20 : PySem.W.keepIn K (.ref f20) = true)
    {od21 an21 : Option Addr} {sl21 : Array (Option Value)} {oc21 kV21 dc21 pm21 cd21 ct21 : Value}
    (a21 : PySem.W.nsIn K mainGlobals "law" = some (some (.ref f21))) (l21 : K.lookup f21 = some ⟨oc21, od21, .func (PySem.W.fnOf "law" "law" (defArgs s_law) (defBody s_law) (defScope s_law) .none kV21 dc21 pm21 an21 cd21 ct21), sl21⟩) (c21 : PySem.W.codeIn K cd21 "law" = true) (k21 : PySem.W.keepIn K (.ref f21) = true)
    (z_range : PySem.W.nsIn K mainGlobals "range" = some none)
    (z_len : PySem.W.nsIn K mainGlobals "len" = some none)
    (z_isinstance : PySem.W.nsIn K mainGlobals "isinstance" = some none)
    (z_bool : PySem.W.nsIn K mainGlobals "bool" = some none)
    (z_int : PySem.W.nsIn K mainGlobals "int" = some none)
    (z_abs : PySem.W.nsIn K mainGlobals "abs" = some none)
    (z_tuple : PySem.W.nsIn K mainGlobals "tuple" = some none)
    (z_all : PySem.W.nsIn K mainGlobals "all" = some none)
    (z_list : PySem.W.nsIn K mainGlobals "list" = some none)
    (z_any : PySem.W.nsIn K mainGlobals "any" = some none)
    (z_zip : PySem.W.nsIn K mainGlobals "zip" = some none)
    (z_min : PySem.W.nsIn K mainGlobals "min" = some none)
    : ∃ fd : FuncData, (∀ (s : Shared) (v : Value), BindsTo s fd ⟨[v], []⟩ [("_law_script", v)]) ∧ ∀ base : Heap, K.In base → base.Ns mainGlobals mg → FnOk l.prog w K mg base CX0 8 fa fd ["_law_script"] (sp_law K) := by
  have e := hfa.symm.trans (PySem.W.mg_of X G a21)
  cases e
  have F0 := fun_mk (st := s_common) l0 c0 k0
  have D_common : Df K mg "common" s_common ["a", "b"] := ⟨f0, _, F0, F0.binds (ps := ["a", "b"]) fun _ _ _ _ _ _ us hl => match us, hl with | [_, _], _ => rfl, PySem.W.mg_of X G a0⟩
  have F1 := fun_mk (st := s_lowest) l1 c1 k1
  have D_lowest : Df K mg "lowest" s_lowest ["top", "bottom"] := ⟨f1, _, F1, F1.binds (ps := ["top", "bottom"]) fun _ _ _ _ _ _ us hl => match us, hl with | [_, _], _ => rfl, PySem.W.mg_of X G a1⟩
  have F2 := fun_mk (st := s_plus) l2 c2 k2
  have D_plus : Df K mg "plus" s_plus ["a", "b"] := ⟨f2, _, F2, F2.binds (ps := ["a", "b"]) fun _ _ _ _ _ _ us hl => match us, hl with | [_, _], _ => rfl, PySem.W.mg_of X G a2⟩
  have F3 := fun_mk (st := s_times) l3 c3 k3
  have D_times : Df K mg "times" s_times ["a", "b"] := ⟨f3, _, F3, F3.binds (ps := ["a", "b"]) fun _ _ _ _ _ _ us hl => match us, hl with | [_, _], _ => rfl, PySem.W.mg_of X G a3⟩
  have F4 := fun_mk (st := s_total) l4 c4 k4
  have D_total : Df K mg "total" s_total ["row"] := ⟨f4, _, F4, F4.binds (ps := ["row"]) fun _ _ _ _ _ _ us hl => match us, hl with | [_], _ => rfl, PySem.W.mg_of X G a4⟩
  have F5 := fun_mk (st := s_ceil_of) l5 c5 k5
  have D_ceil_of : Df K mg "ceil_of" s_ceil_of ["a"] := ⟨f5, _, F5, F5.binds (ps := ["a"]) fun _ _ _ _ _ _ us hl => match us, hl with | [_], _ => rfl, PySem.W.mg_of X G a5⟩
  have F6 := fun_mk (st := s_unit_sum) l6 c6 k6
  have D_unit_sum : Df K mg "unit_sum" s_unit_sum ["first", "last"] := ⟨f6, _, F6, F6.binds (ps := ["first", "last"]) fun _ _ _ _ _ _ us hl => match us, hl with | [_, _], _ => rfl, PySem.W.mg_of X G a6⟩
  have F7 := fun_mk (st := s_behind) l7 c7 k7
  have D_behind : Df K mg "behind" s_behind ["many"] := ⟨f7, _, F7, F7.binds (ps := ["many"]) fun _ _ _ _ _ _ us hl => match us, hl with | [_], _ => rfl, PySem.W.mg_of X G a7⟩
  have F8 := fun_mk (st := s_foe_hours) l8 c8 k8
  have D_foe_hours : Df K mg "foe_hours" s_foe_hours ["many"] := ⟨f8, _, F8, F8.binds (ps := ["many"]) fun _ _ _ _ _ _ us hl => match us, hl with | [_], _ => rfl, PySem.W.mg_of X G a8⟩
  have F9 := fun_mk (st := s_foe_shares) l9 c9 k9
  have D_foe_shares : Df K mg "foe_shares" s_foe_shares ["many", "turns"] := ⟨f9, _, F9, F9.binds (ps := ["many", "turns"]) fun _ _ _ _ _ _ us hl => match us, hl with | [_, _], _ => rfl, PySem.W.mg_of X G a9⟩
  have F10 := fun_mk (st := s__law_whole) l10 c10 k10
  have D__law_whole : Df K mg "_law_whole" s__law_whole ["_law_found"] := ⟨f10, _, F10, F10.binds (ps := ["_law_found"]) fun _ _ _ _ _ _ us hl => match us, hl with | [_], _ => rfl, PySem.W.mg_of X G a10⟩
  have F11 := fun_mk (st := s__law_low) l11 c11 k11
  have D__law_low : Df K mg "_law_low" s__law_low ["_law_top", "_law_bottom"] := ⟨f11, _, F11, F11.binds (ps := ["_law_top", "_law_bottom"]) fun _ _ _ _ _ _ us hl => match us, hl with | [_, _], _ => rfl, PySem.W.mg_of X G a11⟩
  have F12 := fun_mk (st := s__law_add) l12 c12 k12
  have D__law_add : Df K mg "_law_add" s__law_add ["_law_a", "_law_b"] := ⟨f12, _, F12, F12.binds (ps := ["_law_a", "_law_b"]) fun _ _ _ _ _ _ us hl => match us, hl with | [_, _], _ => rfl, PySem.W.mg_of X G a12⟩
  have F13 := fun_mk (st := s__law_sub) l13 c13 k13
  have D__law_sub : Df K mg "_law_sub" s__law_sub ["_law_a", "_law_b"] := ⟨f13, _, F13, F13.binds (ps := ["_law_a", "_law_b"]) fun _ _ _ _ _ _ us hl => match us, hl with | [_, _], _ => rfl, PySem.W.mg_of X G a13⟩
  have F14 := fun_mk (st := s__law_less) l14 c14 k14
  have D__law_less : Df K mg "_law_less" s__law_less ["_law_a", "_law_b"] := ⟨f14, _, F14, F14.binds (ps := ["_law_a", "_law_b"]) fun _ _ _ _ _ _ us hl => match us, hl with | [_, _], _ => rfl, PySem.W.mg_of X G a14⟩
  have F15 := fun_mk (st := s__law_sum) l15 c15 k15
  have D__law_sum : Df K mg "_law_sum" s__law_sum ["_law_row"] := ⟨f15, _, F15, F15.binds (ps := ["_law_row"]) fun _ _ _ _ _ _ us hl => match us, hl with | [_], _ => rfl, PySem.W.mg_of X G a15⟩
  have F16 := fun_mk (st := s__law_part) l16 c16 k16
  have D__law_part : Df K mg "_law_part" s__law_part ["_law_found"] := ⟨f16, _, F16, F16.binds (ps := ["_law_found"]) fun _ _ _ _ _ _ us hl => match us, hl with | [_], _ => rfl, PySem.W.mg_of X G a16⟩
  have F17 := fun_mk (st := s__law_parts) l17 c17 k17
  have D__law_parts : Df K mg "_law_parts" s__law_parts ["_law_found"] := ⟨f17, _, F17, F17.binds (ps := ["_law_found"]) fun _ _ _ _ _ _ us hl => match us, hl with | [_], _ => rfl, PySem.W.mg_of X G a17⟩
  have F18 := fun_mk (st := s__law_most) l18 c18 k18
  have D__law_most : Df K mg "_law_most" s__law_most ["_law_n", "_law_k"] := ⟨f18, _, F18, F18.binds (ps := ["_law_n", "_law_k"]) fun _ _ _ _ _ _ us hl => match us, hl with | [_, _], _ => rfl, PySem.W.mg_of X G a18⟩
  have F19 := fun_mk (st := s__law_first) l19 c19 k19
  have D__law_first : Df K mg "_law_first" s__law_first ["_law_row"] := ⟨f19, _, F19, F19.binds (ps := ["_law_row"]) fun _ _ _ _ _ _ us hl => match us, hl with | [_], _ => rfl, PySem.W.mg_of X G a19⟩
  have F20 := fun_mk (st := s__law_flow) l20 c20 k20
  have D__law_flow : Df K mg "_law_flow" s__law_flow ["_law_script", "_law_many"] := ⟨f20, _, F20, F20.binds (ps := ["_law_script", "_law_many"]) fun _ _ _ _ _ _ us hl => match us, hl with | [_, _], _ => rfl, PySem.W.mg_of X G a20⟩
  have F21 := fun_mk (st := s_law) l21 c21 k21
  have m_range := PySem.W.mg_none_of X G z_range
  have m_len := PySem.W.mg_none_of X G z_len
  have m_isinstance := PySem.W.mg_none_of X G z_isinstance
  have m_bool := PySem.W.mg_none_of X G z_bool
  have m_int := PySem.W.mg_none_of X G z_int
  have m_abs := PySem.W.mg_none_of X G z_abs
  have m_tuple := PySem.W.mg_none_of X G z_tuple
  have m_all := PySem.W.mg_none_of X G z_all
  have m_list := PySem.W.mg_none_of X G z_list
  have m_any := PySem.W.mg_none_of X G z_any
  have m_zip := PySem.W.mg_none_of X G z_zip
  have m_min := PySem.W.mg_none_of X G z_min
  exact ⟨_, fun s v => .of_eq rfl, fun base _ _ => ok_law (P := l.prog) (w := w) (base := base) (⟨_, _, F21, F21.binds (ps := ["_law_script"]) fun _ _ _ _ _ _ us hl => match us, hl with | [_], _ => rfl, PySem.W.mg_of X G a21⟩) D_common D_lowest D_plus D_times D_total D_ceil_of D_unit_sum D_behind D_foe_hours D_foe_shares D__law_whole D__law_low D__law_add D__law_sub D__law_less D__law_sum D__law_part D__law_parts D__law_most D__law_first D__law_flow m_range m_len m_isinstance m_bool m_int m_abs m_tuple m_all m_list m_any m_zip m_min⟩
end DT
open PySem PySem.W PyProof.Rows
set_option maxHeartbeats 0 in
theorem PySem.Challenge.cw_ditchturn_k17_whole_foe_wins_holds : PySem.Challenge.rw_ditchturn_k17_whole_foe_wins.Holds := by
  w_on; o_law; k_head; (case hw => w_witness2)
  k_fill
  refine L2.walk_of (l := PySem.Challenge.rw_ditchturn_k17_whole_foe_wins) (n := 63) (k := 8) (x := "_law_script") (CX := fun _ => L2.CX0) (sp := fun w => DT.sp_law _) rfl (by decide) rfl ⟨rfl, by decide, by decide⟩ (fun w h Y => PySem.W.kIn_of Y) ?F (fun _ _ a ns hl _ hS => ⟨a, ns, rfl, hS, hl, fun _ => rfl⟩) (fun _ _ _ _ _ h => h)
  case F =>
    intro w mg fa h KX G hmg
    refine' DT.all_mk KX G hmg ?a0 ?l0 ?c0 ?k0 ?a1 ?l1 ?c1 ?k1 ?a2 ?l2 ?c2 ?k2 ?a3 ?l3 ?c3 ?k3 ?a4 ?l4 ?c4 ?k4 ?a5 ?l5 ?c5 ?k5 ?a6 ?l6 ?c6 ?k6 ?a7 ?l7 ?c7 ?k7 ?a8 ?l8 ?c8 ?k8 ?a9 ?l9 ?c9 ?k9 ?a10 ?l10 ?c10 ?k10 ?a11 ?l11 ?c11 ?k11 ?a12 ?l12 ?c12 ?k12 ?a13 ?l13 ?c13 ?k13 ?a14 ?l14 ?c14 ?k14 ?a15 ?l15 ?c15 ?k15 ?a16 ?l16 ?c16 ?k16 ?a17 ?l17 ?c17 ?k17 ?a18 ?l18 ?c18 ?k18 ?a19 ?l19 ?c19 ?k19 ?a20 ?l20 ?c20 ?k20 ?a21 ?l21 ?c21 ?k21 ?z_range ?z_len ?z_isinstance ?z_bool ?z_int ?z_abs ?z_tuple ?z_all ?z_list ?z_any ?z_zip ?z_min
    (case a0 => k_is); (case l0 => k_is); (case c0 => k_is); (case k0 => k_is); (case a1 => k_is); (case l1 => k_is); (case c1 => k_is); (case k1 => k_is); (case a2 => k_is); (case l2 => k_is); (case c2 => k_is); (case k2 => k_is); (case a3 => k_is); (case l3 => k_is); (case c3 => k_is); (case k3 => k_is); (case a4 => k_is); (case l4 => k_is); (case c4 => k_is); (case k4 => k_is); (case a5 => k_is); (case l5 => k_is); (case c5 => k_is); (case k5 => k_is); (case a6 => k_is); (case l6 => k_is); (case c6 => k_is); (case k6 => k_is); (case a7 => k_is); (case l7 => k_is); (case c7 => k_is); (case k7 => k_is); (case a8 => k_is); (case l8 => k_is); (case c8 => k_is); (case k8 => k_is); (case a9 => k_is); (case l9 => k_is); (case c9 => k_is); (case k9 => k_is); (case a10 => k_is); (case l10 => k_is); (case c10 => k_is); (case k10 => k_is); (case a11 => k_is); (case l11 => k_is); (case c11 => k_is); (case k11 => k_is); (case a12 => k_is); (case l12 => k_is); (case c12 => k_is); (case k12 => k_is); (case a13 => k_is); (case l13 => k_is); (case c13 => k_is); (case k13 => k_is); (case a14 => k_is); (case l14 => k_is); (case c14 => k_is); (case k14 => k_is); (case a15 => k_is); (case l15 => k_is); (case c15 => k_is); (case k15 => k_is); (case a16 => k_is); (case l16 => k_is); (case c16 => k_is); (case k16 => k_is); (case a17 => k_is); (case l17 => k_is); (case c17 => k_is); (case k17 => k_is); (case a18 => k_is); (case l18 => k_is); (case c18 => k_is); (case k18 => k_is); (case a19 => k_is); (case l19 => k_is); (case c19 => k_is); (case k19 => k_is); (case a20 => k_is); (case l20 => k_is); (case c20 => k_is); (case k20 => k_is); (case a21 => k_is); (case l21 => k_is); (case c21 => k_is); (case k21 => k_is); (case z_range => k_is); (case z_len => k_is); (case z_isinstance => k_is); (case z_bool => k_is); (case z_int => k_is); (case z_abs => k_is); (case z_tuple => k_is); (case z_all => k_is); (case z_list => k_is); (case z_any => k_is); (case z_zip => k_is); (case z_min => k_is)
