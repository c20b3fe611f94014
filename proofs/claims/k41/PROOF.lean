import PyProof.Rows.All
import Wide.All
import OpenK.AllK
import Wide.FinOn
import HandS.ForMost
import HandS.Wide
import HandS.IsInst
import HandS.Head0
import HandS.Head1
import HandS.Head2
import HandS.HeadEnd
import HandS.HeadHook1
import HandS.HeadHook2
import HandS.HeadHook3
import HandS.HeadHook4
import HandS.StrMore
import HandS.Style
import HandS.Walk
import HandS.Codes
import HandS.Iter
import HandS.More
import HandS.ForExc
import HandS.ExcIs
import HandS.RaiseMore
import HandS.FStr
import HandS.Deep
import HandS.Zip
import HandS.HotCalls
import PySem.Challenge.RW_ditchturn_k41_windows_of_turns
set_option Elab.async false
set_option linter.all false
set_option maxRecDepth 100000
set_option maxHeartbeats 4000000
namespace DT
/-! ### numbers: gcd, lowest terms -/
def gc (a b : Int) : Int := (Int.gcd a b : Int)
structure Low (a b : Int) : Prop where
  pos : 0 < b
  cop : Int.gcd a b = 1
theorem gc_pos {a b : Int} (h : 0 < b) : 0 < gc a b := by
  have : Int.gcd a b ≠ 0 := by
    intro e
    have := (Int.gcd_eq_zero_iff).1 e
    omega
  unfold gc
  omega
theorem gc_dl (a b : Int) : gc a b ∣ a := Int.gcd_dvd_left a b
theorem gc_dr (a b : Int) : gc a b ∣ b := Int.gcd_dvd_right a b
theorem gc_le {a b : Int} (h : 0 < b) : gc a b ≤ b := Int.le_of_dvd h (gc_dr a b)
theorem gc_step {a b : Int} : Int.gcd b (a % b) = Int.gcd a b := by
  rw [Int.emod_def, Int.gcd_comm a b]
  have := Int.gcd_add_mul_right_right b a (-(a / b))
  rw [← this]
  congr 1
  rw [Int.neg_mul, Int.mul_comm (a / b) b]
  omega
theorem gc_abs (a b : Int) : Int.gcd (if a < 0 then -a else a) b = Int.gcd a b := by
  split
  · exact Int.neg_gcd
  · rfl
theorem div_pos' {b g : Int} (hb : 0 < b) (hg : 0 < g) (hd : g ∣ b) : 0 < b / g := by
  obtain ⟨q, rfl⟩ := hd
  rw [Int.mul_ediv_cancel_left q (by omega)]
  exact Int.pos_of_mul_pos_right hb (by omega)
theorem low_div {a b : Int} (h : 0 < b) : Low (a / gc a b) (b / gc a b) := by
  have hg := gc_pos (a := a) h
  refine ⟨div_pos' h hg (gc_dr a b), ?_⟩
  have hn : 0 < Int.gcd a b := by
    have := hg
    unfold gc at this
    omega
  have e := Int.gcd_mul_left (gc a b) (a / gc a b) (b / gc a b)
  rw [Int.mul_ediv_cancel' (gc_dl a b), Int.mul_ediv_cancel' (gc_dr a b)] at e
  have e2 : (gc a b).natAbs = Int.gcd a b := by unfold gc; omega
  rw [e2] at e
  have : Int.gcd a b * 1 = Int.gcd a b * Int.gcd (a / gc a b) (b / gc a b) := by rw [← e, Nat.mul_one]
  exact (Nat.eq_of_mul_eq_mul_left hn this).symm
theorem low_cross (a b : Int) : (a / gc a b) * b = (b / gc a b) * a := by
  obtain ⟨p, hp⟩ := gc_dl a b
  obtain ⟨q, hq⟩ := gc_dr a b
  by_cases h0 : gc a b = 0
  · rw [h0] at hp hq
    rw [show a = 0 by omega, show b = 0 by omega]
  · have e1 : a / gc a b = p := Int.ediv_eq_of_eq_mul_right h0 hp
    have e2 : b / gc a b = q := Int.ediv_eq_of_eq_mul_right h0 hq
    rw [e1, e2]
    calc p * b = p * (gc a b * q) := by rw [← hq]
      _ = q * (gc a b * p) := by rw [Int.mul_left_comm, Int.mul_comm p q, Int.mul_left_comm q]
      _ = q * a := by rw [← hp]
theorem low_self {a b : Int} (h : Low a b) : a / gc a b = a ∧ b / gc a b = b := by
  have : gc a b = 1 := by unfold gc; rw [h.cop]; rfl
  rw [this, Int.ediv_one, Int.ediv_one]
  exact ⟨rfl, rfl⟩
theorem low_uniq {a b c d : Int} (h : Low a b) (k : Low c d) (e : a * d = c * b) : a = c ∧ b = d := by
  have h1 : b.natAbs ∣ d.natAbs := by
    have c1 : Nat.Coprime b.natAbs a.natAbs := by
      have := h.cop
      rw [Int.gcd_comm] at this
      exact this
    refine c1.dvd_of_dvd_mul_left (m := a.natAbs) (n := d.natAbs) ?_
    rw [← Int.natAbs_mul, e, Int.natAbs_mul]
    exact Nat.dvd_mul_left _ _
  have h2 : d.natAbs ∣ b.natAbs := by
    have c1 : Nat.Coprime d.natAbs c.natAbs := by
      have := k.cop
      rw [Int.gcd_comm] at this
      exact this
    refine c1.dvd_of_dvd_mul_left (m := c.natAbs) (n := b.natAbs) ?_
    rw [← Int.natAbs_mul, ← e, Int.natAbs_mul]
    exact Nat.dvd_mul_left _ _
  have hb := h.pos
  have hd := k.pos
  have e1 : b.natAbs = d.natAbs := Nat.dvd_antisymm h1 h2
  have e2 : b = d := by omega
  subst e2
  exact ⟨Int.eq_of_mul_eq_mul_right (by omega) e, rfl⟩
/-- the low form of a pair is told by any low pair worth the same -/
theorem low_is {a b c d : Int} (hd : 0 < d) (h : Low a b) (e : a * d = c * b) : a = c / gc c d ∧ b = d / gc c d := by
  refine low_uniq h (low_div hd) ?_
  obtain ⟨p, hp⟩ := gc_dl c d
  obtain ⟨q, hq⟩ := gc_dr c d
  have hg := gc_pos (a := c) hd
  have e1 : c / gc c d = p := Int.ediv_eq_of_eq_mul_right (by omega) hp
  have e2 : d / gc c d = q := Int.ediv_eq_of_eq_mul_right (by omega) hq
  rw [e1, e2]
  have e3 : gc c d * (a * q) = gc c d * (p * b) := by
    calc gc c d * (a * q) = a * (gc c d * q) := by rw [Int.mul_left_comm]
      _ = a * d := by rw [← hq]
      _ = c * b := e
      _ = gc c d * p * b := by rw [← hp]
      _ = gc c d * (p * b) := by rw [Int.mul_assoc]
  exact Int.eq_of_mul_eq_mul_left (by omega) e3
/-! ### the sum by crossing over what the bottoms share -/
theorem plus_low {a b c d : Int} (h : Low a b) (k : Low c d) :
    let s := gc b d
    let r := b / s
    let t := a * (d / s) + c * r
    let g := gc t s
    Low (t / g) (r * (d / g)) ∧ (t / g) * (b * d) = (a * d + c * b) * (r * (d / g)) := by
  intro s r t g
  have hb := h.pos
  have hd := k.pos
  have hs : 0 < s := gc_pos hd
  have hg : 0 < g := gc_pos hs
  obtain ⟨p, hp⟩ : s ∣ b := gc_dl b d
  obtain ⟨q, hq⟩ : s ∣ d := gc_dr b d
  have er : r = p := Int.ediv_eq_of_eq_mul_right (by omega) hp
  have eq : d / s = q := Int.ediv_eq_of_eq_mul_right (by omega) hq
  obtain ⟨u, hu⟩ : g ∣ t := gc_dl t s
  obtain ⟨v, hv⟩ : g ∣ s := gc_dr t s
  have eu : t / g = u := Int.ediv_eq_of_eq_mul_right (by omega) hu
  have ht : t = a * q + c * p := by
    show a * (d / s) + c * r = _
    rw [eq, er]
  have hgd : d = g * (v * q) := by rw [hq, ← Int.mul_assoc, ← hv]
  have ed : d / g = v * q := Int.ediv_eq_of_eq_mul_right (by omega) hgd
  have hp0 : 0 < p := Int.pos_of_mul_pos_right (hp ▸ hb) (by omega)
  have hq0 : 0 < q := Int.pos_of_mul_pos_right (hq ▸ hd) (by omega)
  have hv0 : 0 < v := Int.pos_of_mul_pos_right (hv ▸ hs) (by omega)
  rw [eu, er, ed]
  have cpq : Int.gcd p q = 1 := by
    have := (low_div (a := b) hd).cop
    rw [show b / gc b d = p from er, show d / gc b d = q from eq] at this
    exact this
  have cap : Nat.Coprime a.natAbs p.natAbs := by
    have c0 : Nat.Coprime a.natAbs b.natAbs := h.cop
    refine Nat.Coprime.coprime_dvd_right ?_ c0
    rw [hp, Int.natAbs_mul]
    exact Nat.dvd_mul_left _ _
  have ccq : Nat.Coprime c.natAbs q.natAbs := by
    have c0 : Nat.Coprime c.natAbs d.natAbs := k.cop
    refine Nat.Coprime.coprime_dvd_right ?_ c0
    rw [hq, Int.natAbs_mul]
    exact Nat.dvd_mul_left _ _
  have cqp : Nat.Coprime q.natAbs p.natAbs := by
    rw [Int.gcd_comm] at cpq
    exact cpq
  have ctp : Int.gcd t p = 1 := by
    rw [ht, Int.mul_comm c p, Int.gcd_add_mul_left_left]
    show Nat.Coprime (a * q).natAbs p.natAbs
    rw [Int.natAbs_mul]
    exact Nat.Coprime.mul_left cap cqp
  have ctq : Int.gcd t q = 1 := by
    rw [ht, Int.add_comm, Int.mul_comm a q, Int.gcd_add_mul_left_left]
    show Nat.Coprime (c * p).natAbs q.natAbs
    rw [Int.natAbs_mul]
    exact Nat.Coprime.mul_left ccq cpq
  have cuv : Int.gcd u v = 1 := by
    have := (low_div (a := t) hs).cop
    rw [show t / gc t s = u from eu, show s / gc t s = v from Int.ediv_eq_of_eq_mul_right (by omega) hv] at this
    exact this
  have ut : u.natAbs ∣ t.natAbs := by
    rw [hu, Int.natAbs_mul]
    exact Nat.dvd_mul_left _ _
  have cup : Nat.Coprime u.natAbs p.natAbs := Nat.Coprime.coprime_dvd_left ut ctp
  have cuq : Nat.Coprime u.natAbs q.natAbs := Nat.Coprime.coprime_dvd_left ut ctq
  refine ⟨⟨Int.mul_pos hp0 (Int.mul_pos hv0 hq0), ?_⟩, ?_⟩
  · show Nat.Coprime u.natAbs (p * (v * q)).natAbs
    rw [Int.natAbs_mul, Int.natAbs_mul]
    exact Nat.Coprime.mul_right cup (Nat.Coprime.mul_right cuv cuq)
  · have e1 : a * d + c * b = s * t := by
      rw [ht, Int.mul_add, ← Int.mul_assoc, ← Int.mul_assoc, Int.mul_comm s a, Int.mul_comm s c, Int.mul_assoc, Int.mul_assoc, ← hq, ← hp]
    rw [e1]
    calc u * (b * d) = u * ((s * p) * (g * (v * q))) := by rw [← hp, ← hgd]
      _ = s * (g * u) * (p * (v * q)) := by
        simp only [Int.mul_assoc, Int.mul_comm, Int.mul_left_comm]
      _ = s * t * (p * (v * q)) := by rw [← hu]
/-- the sum as the program reckons it is the low form of the sum by crossing -/
theorem plus_is {a b c d : Int} (h : Low a b) (k : Low c d) :
    let s := gc b d
    let r := b / s
    let t := a * (d / s) + c * r
    let g := gc t s
    t / g = (a * d + c * b) / gc (a * d + c * b) (b * d) ∧ r * (d / g) = (b * d) / gc (a * d + c * b) (b * d) := by
  intro s r t g
  obtain ⟨h1, h2⟩ := plus_low h k
  exact low_is (Int.mul_pos h.pos k.pos) h1 h2
end DT

namespace DT
open PySem PySem.Spec PyProof.Rows L2
/-! ### heaps that only grow; pairs of ints -/
theorem same_upd {H : Hp} {p : Addr} {o : HO} (h : H p = none) : Same H (upd H p o) := fun b x e => by
  rw [upd_ne (ne_of_none e h)]
  exact e
theorem same_seqT {K : PySem.W.Frag} {H H' : Hp} {a : Addr} {xs : List V} (e : Same H H') (h : SqT K H a xs) : SqT K H' a xs := by
  rcases h with h | h
  · rcases h with h | ⟨o, h⟩
    · exact .inl (.inl (e _ _ h))
    · exact .inl (.inr ⟨o, e _ _ h⟩)
  · exact .inr h
/-- v is a tuple of the ints a and b -/
def Pr (K : PySem.W.Frag) (H : Hp) (v : V) (a b : Int) : Prop := ∃ p, v = .ref p ∧ SqT K H p [.int a, .int b]
theorem Pr.same {K : PySem.W.Frag} {H H' : Hp} {v : V} {a b : Int} (h : Pr K H v a b) (e : Same H H') : Pr K H' v a b := by
  obtain ⟨p, r, q⟩ := h
  exact ⟨p, r, same_seqT e q⟩
theorem Pr.new {K : PySem.W.Frag} {H : Hp} {p : Addr} {a b : Int} : Pr K (upd H p (.tup [.int a, .int b])) (.ref p) a b := ⟨p, rfl, SqT.of upd_same⟩
theorem sqT_ty {K : PySem.W.Frag} {H : Hp} {a : Addr} {xs : List V} (h : SqT K H a xs) : TyX K H (.ref a) (.type "tuple") := by
  rcases h with (h | ⟨o, h⟩) | ⟨o, its, n, h, c, _⟩
  · exact .base (.tup h)
  · exact .fTuple h
  · exact .kTuple h c
theorem Pr.dp {K : PySem.W.Frag} {H : Hp} {v : V} {a b : Int} (h : Pr K H v a b) : Dp K H v (.tuple [.int a, .int b]) := by
  obtain ⟨p, rfl, q⟩ := h
  exact .tup q (.cons (.int a) (.cons (.int b) .nil))
/-- v is a new list of the ints rs -/
def Ls (H : Hp) (v : V) (rs : List Int) : Prop := ∃ p, v = .ref p ∧ H p = some (.lst (rs.map V.int))
theorem Ls.same {H H' : Hp} {v : V} {rs : List Int} (h : Ls H v rs) (e : Same H H') : Ls H' v rs := by
  obtain ⟨p, r, q⟩ := h
  exact ⟨p, r, e _ _ q⟩
theorem ls_at {rs : List Int} {j : Nat} (h : j < rs.length) : atI (rs.map V.int) (j : Int) = some (.int (rs.getD j 0)) := by
  refine atI_nat ?_
  rw [List.getElem?_map, List.getElem?_eq_getElem h]
  simp [List.getD, List.getElem?_eq_getElem h]
/-! ### sizes -/
def Bd (n : Nat) (x : Int) : Prop := x.natAbs < 2 ^ n
theorem Bd.mono {n m : Nat} {x : Int} (h : Bd n x) (e : n ≤ m) : Bd m x := Nat.lt_of_lt_of_le h (Nat.pow_le_pow_right (by decide) e)
theorem Bd.mul {n m : Nat} {x y : Int} (h : Bd n x) (k : Bd m y) : Bd (n + m) (x * y) := wide_lt h k
theorem Bd.add {n : Nat} {x y : Int} (h : Bd n x) (k : Bd n y) : Bd (n + 1) (x + y) := by
  unfold Bd at *
  have : (x + y).natAbs ≤ x.natAbs + y.natAbs := Int.natAbs_add_le x y
  rw [Nat.pow_succ]
  omega
theorem Bd.neg {n : Nat} {x : Int} (h : Bd n x) : Bd n (-x) := by
  unfold Bd at *
  omega
theorem Bd.dvd {n : Nat} {x y : Int} (h : Bd n x) (e : y ∣ x) (hx : x ≠ 0) : Bd n y :=
  Nat.lt_of_le_of_lt (Nat.le_of_dvd (by omega) (Int.natAbs_dvd_natAbs.2 e)) h
theorem Bd.div {n : Nat} {x y : Int} (h : Bd n x) (e : y ∣ x) : Bd n (x / y) := by
  unfold Bd at *
  rw [Int.natAbs_ediv_of_dvd e]
  exact Nat.lt_of_le_of_lt (Nat.div_le_self _ _) h
theorem Bd.gc {n : Nat} {x y : Int} (h : Bd n y) (hy : 0 < y) : Bd n (gc x y) := h.dvd (gc_dr x y) (by omega)
theorem Bd.of {n : Nat} {x m : Int} (h1 : -m < x) (h2 : x < m) (e : m.natAbs ≤ 2 ^ n) : Bd n x := by
  unfold Bd
  omega
theorem bd_mulok {n m : Nat} {x y : Int} (h : Bd n x) (k : Bd m y) (e : n + m ≤ 900000) : CMulW x y :=
  wide_mul (a := n + 1) (b := m + 1) (h.mono (by omega)) (k.mono (by omega)) (by omega) (by omega) (by omega)
theorem bd_divok {n : Nat} {x y : Int} (hy : 0 < y) (k : Bd n y) (e : n ≤ 8900) : CDivW x y := wide_div (b := n + 1) hy (k.mono (by omega)) (by omega) (by omega)
/-- a def of the text: where it stands, how it binds, what the module's name holds -/
structure Df (K : PySem.W.Frag) (mg : Str → Option Value) (x : Str) (st : Stmt) (ps : List Str) where
  f : Addr
  fd : FuncData
  F : Fun K x x st f fd
  b : Binds K fd ps []
  g : mg x = some (.ref f)
end DT
namespace DT
open PySem PySem.Spec PyProof.Rows L2
theorem ls_z {rs : List Int} {z : Int} (j : Nat) (e : z = (j : Int)) (h : j < rs.length) : atI (rs.map V.int) z = some (.int (rs.getD j 0)) := by
  rw [e]
  exact ls_at h
theorem getD_in {rs : List Int} {j : Nat} (h : j < rs.length) : rs.getD j 0 ∈ rs := by
  simp [List.getD, List.getElem?_eq_getElem h]
theorem eqv_pr (a b : Int) : PyData.eqv (.tuple [.int a, .int b]) (.tuple [.int a, .int b]) = true := by
  simp [PyData.eqv, PyData.eqvAll]
theorem shp_pr (a b : Int) : SeqAt.shaped (.tuple [.int a, .int b]) = true := by
  rfl
/-- the promise of a law: True for every script -/
def sp_law (K : PySem.W.Frag) : Sp := fun vs H Q _ => ∃ (a : Addr) (ns : List Int), vs = [.ref a] ∧ SqL K H a (ns.map V.int) ∧ ns.length ≤ 63 ∧ ∀ H', Q (.bl true) H'
end DT
namespace DT
theorem Bd.ediv {n : Nat} {x y : Int} (h : Bd n x) : Bd n (x / y) := Nat.lt_of_le_of_lt (Int.natAbs_ediv_le_natAbs x y) h
theorem Bd.emod {n : Nat} {x y : Int} (hy : 0 < y) (h : Bd n y) : Bd n (x % y) := by
  unfold Bd at *
  have := Int.emod_nonneg x (show y ≠ 0 by omega)
  have := Int.emod_lt_of_pos x hy
  omega
end DT
namespace DT
open PySem PySem.Spec PyProof.Rows L2
/-- a store at an address that was free to begin with -/
theorem same_at {H H1 : Hp} {p : Addr} {o : HO} (hp : H p = none) (sm : Same H H1) : Same H (upd H1 p o) := fun b x e => by
  rw [upd_ne (ne_of_none e hp)]
  exact sm _ _ e
/-- what list(..) of a list or tuple asks -/
def rLo (K : PySem.W.Frag) : List V → Hp → VK → Prop := fun xs H Q => ∃ p ys, xs = [.ref p] ∧ (SqL K H p ys ∨ SqT K H p ys) ∧ ∀ l, H l = none → Q (.ref l) (upd H l (.lst ys))
end DT

namespace DT
open PySem PySem.Spec PyProof.Rows L2
def sp_lowest (K : PySem.W.Frag) : Sp := fun vs H Q _ => ∃ t b : Int, vs = [.int t, .int b] ∧ 0 < b ∧ Bd 8900 b ∧ ∀ H' v, Same H H' → Pr K H' v (t / gc t b) (b / gc t b) → Q v H'
end DT

namespace DT
open PySem PySem.Spec PyProof.Rows L2
/-! ### pairs and their reckoning, as the law does it -/
abbrev Q2 := Int × Int
def lowP (t b : Int) : Q2 := (t / gc t b, b / gc t b)
def addP (x y : Q2) : Q2 := lowP (x.1 * y.2 + y.1 * x.2) (x.2 * y.2)
def subP (x y : Q2) : Q2 := lowP (x.1 * y.2 - y.1 * x.2) (x.2 * y.2)
def mulP (x y : Q2) : Q2 := lowP (x.1 * y.1) (x.2 * y.2)
def Pp (K : PySem.W.Frag) (H : Hp) (v : V) (x : Q2) : Prop := Pr K H v x.1 x.2
theorem Pp.same {K : PySem.W.Frag} {H H' : Hp} {v : V} {x : Q2} (h : Pp K H v x) (e : Same H H') : Pp K H' v x := Pr.same h e
/-- both terms below 2 ^ n, the bottom above nought -/
structure Ok (n : Nat) (x : Q2) : Prop where
  pos : 0 < x.2
  top : Bd n x.1
  bot : Bd n x.2
theorem Ok.mono {n m : Nat} {x : Q2} (h : Ok n x) (e : n ≤ m) : Ok m x := ⟨h.pos, h.top.mono e, h.bot.mono e⟩
theorem lowP_low {t b : Int} (h : 0 < b) : Low (lowP t b).1 (lowP t b).2 := low_div h
theorem lowP_ok {t b : Int} {n : Nat} (h : 0 < b) (h1 : Bd n t) (h2 : Bd n b) : Ok n (lowP t b) := ⟨(low_div h).pos, h1.div (gc_dl t b), h2.div (gc_dr t b)⟩
theorem addP_ok {x y : Q2} {n m : Nat} (h : Ok n x) (k : Ok m y) : Ok (n + m + 1) (addP x y) :=
  lowP_ok (Int.mul_pos h.pos k.pos) (Bd.add (h.top.mul k.bot) ((k.top.mul h.bot).mono (by omega))) ((h.bot.mul k.bot).mono (by omega))
theorem subP_ok {x y : Q2} {n m : Nat} (h : Ok n x) (k : Ok m y) : Ok (n + m + 1) (subP x y) := by
  unfold subP
  rw [Int.sub_eq_add_neg]
  exact lowP_ok (Int.mul_pos h.pos k.pos) (Bd.add (h.top.mul k.bot) ((k.top.mul h.bot).neg.mono (by omega))) ((h.bot.mul k.bot).mono (by omega))
theorem mulP_ok {x y : Q2} {n m : Nat} (h : Ok n x) (k : Ok m y) : Ok (n + m) (mulP x y) := lowP_ok (Int.mul_pos h.pos k.pos) (h.top.mul k.top) (h.bot.mul k.bot)
theorem addP_low {x y : Q2} (h : 0 < x.2) (k : 0 < y.2) : Low (addP x y).1 (addP x y).2 := low_div (Int.mul_pos h k)
/-- promise of a def that makes the pair f x y of two pairs -/
def sp_two (K : PySem.W.Frag) (C : Q2 → Q2 → Prop) (f : Q2 → Q2 → Q2) : Sp := fun vs H Q _ => ∃ (v u : V) (x y : Q2) (n m : Nat), vs = [v, u] ∧ Pp K H v x ∧ Pp K H u y ∧ Ok n x ∧ Ok m y ∧ n + m ≤ 8890 ∧ C x y ∧ ∀ H' r, Same H H' → Pp K H' r (f x y) → Q r H'
def anyC : Q2 → Q2 → Prop := fun _ _ => True
def lowC : Q2 → Q2 → Prop := fun x y => Low x.1 x.2 ∧ Low y.1 y.2
theorem len_two {K : PySem.W.Frag} {C : Q2 → Q2 → Prop} {f : Q2 → Q2 → Q2} {vs : List V} {H : Hp} {Q : VK} {E : XK} (h : sp_two K C f vs H Q E) : vs.length = 2 := by
  obtain ⟨v, u, x, y, n, m, rfl, _⟩ := h
  rfl
theorem low_neg {a b : Int} (h : Low a b) : Low (-a) b := ⟨h.pos, by rw [Int.neg_gcd]; exact h.cop⟩
theorem subP_eq (x y : Q2) : addP x (-y.1, y.2) = subP x y := by
  unfold addP subP
  show lowP (x.1 * y.2 + -y.1 * x.2) _ = _
  rw [Int.neg_mul, ← Int.sub_eq_add_neg]
theorem pp_eq {K : PySem.W.Frag} {H : Hp} {v u : V} {x : Q2} (h : Pp K H v x) (k : Pp K H u x) : ∃ d e, Dp K H v d ∧ Dp K H u e ∧ SeqAt.shaped d = true ∧ SeqAt.shaped e = true ∧ PyData.eqv d e = true :=
  ⟨_, _, Pr.dp h, Pr.dp k, shp_pr _ _, shp_pr _ _, eqv_pr _ _⟩
end DT
namespace DT
open PySem PySem.Spec PyProof.Rows L2
/-! ### sums of lists of pairs -/
def sumP (xs : List Q2) : Q2 := xs.foldl addP (0, 1)
inductive Pps (K : PySem.W.Frag) (H : Hp) : List V → List Q2 → Prop
  | nil : Pps K H [] []
  | cons {v : V} {vs : List V} {x : Q2} {xs : List Q2} : Pp K H v x → Pps K H vs xs → Pps K H (v :: vs) (x :: xs)
theorem Pps.len {K : PySem.W.Frag} {H : Hp} : ∀ {vs : List V} {xs : List Q2}, Pps K H vs xs → vs.length = xs.length
  | _, _, .nil => rfl
  | _, _, .cons _ t => congrArg (· + 1) t.len
theorem Pps.same {K : PySem.W.Frag} {H H' : Hp} (e : Same H H') : ∀ {vs : List V} {xs : List Q2}, Pps K H vs xs → Pps K H' vs xs
  | _, _, .nil => .nil
  | _, _, .cons h t => .cons (h.same e) (t.same e)
theorem Pps.snoc {K : PySem.W.Frag} {H : Hp} {v : V} {x : Q2} (h : Pp K H v x) : ∀ {vs : List V} {xs : List Q2}, Pps K H vs xs → Pps K H (vs ++ [v]) (xs ++ [x])
  | _, _, .nil => .cons h .nil
  | _, _, .cons g t => .cons g (t.snoc h)
theorem pps_get {K : PySem.W.Frag} {H : Hp} : ∀ {vs : List V} {xs : List Q2} {i : Nat} {z : V}, Pps K H vs xs → vs[i]? = some z → ∃ x, xs[i]? = some x ∧ Pp K H z x
  | _, _, 0, _, .cons h _, e => ⟨_, rfl, Option.some.inj e ▸ h⟩
  | _, _, i + 1, z, .cons (vs := vs) (xs := xs) _ t, e => by
    have r := pps_get (vs := vs) (i := i) (z := z) t (by simpa using e)
    simpa using r
theorem sumP_take {xs : List Q2} {i : Nat} {x : Q2} (h : xs[i]? = some x) : sumP (xs.take (i + 1)) = addP (sumP (xs.take i)) x := by
  unfold sumP
  rw [List.take_add_one, h, List.foldl_append]
  rfl
theorem sumP_ok0 : Ok (201 * (0 + 1)) (sumP []) := ⟨by decide, by unfold Bd; decide +kernel, by unfold Bd; decide +kernel⟩
theorem sumP_low0 : Low (sumP []).1 (sumP []).2 := ⟨by decide, rfl⟩
def lowS : Q2 → Prop := fun x => Low x.1 x.2
def anyS : Q2 → Prop := fun _ => True
def sp_sum (K : PySem.W.Frag) (C : Q2 → Prop) : Sp := fun vs H Q _ => ∃ (l : Addr) (us : List V) (xs : List Q2), vs = [.ref l] ∧ SqL K H l us ∧ Pps K H us xs ∧ (∀ x ∈ xs, Ok 200 x) ∧ xs.length ≤ 30 ∧ (∀ x ∈ xs, C x) ∧
  ∀ H' r, Same H H' → Pp K H' r (sumP xs) → Ok 6300 (sumP xs) → Low (sumP xs).1 (sumP xs).2 → Q r H'
end DT
namespace DT
open PySem PySem.Spec PyProof.Rows L2
def datP (x : Q2) : PyData := .tuple [.int x.1, .int x.2]
theorem Pps.dp {K : PySem.W.Frag} {H : Hp} : ∀ {vs : List V} {xs : List Q2}, Pps K H vs xs → DpAll K H vs (xs.map datP)
  | _, _, .nil => .nil
  | _, _, .cons h t => .cons (Pr.dp h) t.dp
theorem lay_ps : ∀ xs : List Q2, PyData.canLayAll0 (xs.map datP) = true
  | [] => by simp [PyData.canLayAll0]
  | x :: xs => by
    rw [List.map_cons]
    simp only [PyData.canLayAll0, lay_ps xs, datP, PyData.canLay0, Bool.and_self]
theorem dep_ps : ∀ xs : List Q2, PyData.depthAll (xs.map datP) ≤ 1
  | [] => by simp [PyData.depthAll]
  | x :: xs => by
    have ih := dep_ps xs
    rw [List.map_cons]
    simp only [PyData.depthAll, datP, PyData.depth] at ih ⊢
    omega
theorem shp_ps (xs : List Q2) : SeqAt.shaped (.list (xs.map datP)) = true := by
  have h1 := lay_ps xs
  have h2 := dep_ps xs
  unfold SeqAt.shaped
  rw [Bool.and_eq_true]
  refine ⟨by simp only [PyData.canLay0, h1], decide_eq_true ?_⟩
  simp only [PyData.depth]
  omega
theorem eqv_ps : ∀ xs : List Q2, PyData.eqvAll (xs.map datP) (xs.map datP) = true
  | [] => by simp [PyData.eqvAll]
  | x :: xs => by
    rw [List.map_cons]
    simp only [PyData.eqvAll, eqv_ps xs, Bool.and_true]
    exact eqv_pr x.1 x.2
theorem eqv_psL (xs : List Q2) : PyData.eqv (.list (xs.map datP)) (.list (xs.map datP)) = true := by
  simp only [PyData.eqv, eqv_ps xs]
end DT
namespace DT
open PySem PySem.Spec PyProof.Rows L2
/-- a store to a list leaves pairs that stand elsewhere -/
theorem Pp.off {K : PySem.W.Frag} {H H' : Hp} {v : V} {x : Q2} {D : Addr} {us : List V} (h : Pp K H v x) (e : ∀ b o, H b = some o → b ≠ D → H' b = some o) (hD : H D = some (.lst us)) : Pp K H' v x := by
  obtain ⟨p, rfl, q⟩ := h
  refine ⟨p, rfl, ?_⟩
  rcases q with q | q
  · rcases q with q | ⟨o, q⟩
    · exact .inl (.inl (e _ _ q (fun z => by rw [z, hD] at q; cases q)))
    · exact .inl (.inr ⟨o, e _ _ q (fun z => by rw [z, hD] at q; cases q)⟩)
  · exact .inr q
theorem Pps.off {K : PySem.W.Frag} {H H' : Hp} {D : Addr} {ws : List V} : ∀ {vs : List V} {xs : List Q2}, Pps K H vs xs → (∀ b o, H b = some o → b ≠ D → H' b = some o) → H D = some (.lst ws) → Pps K H' vs xs
  | _, _, .nil, _, _ => .nil
  | _, _, .cons h t, e, hD => .cons (h.off e hD) (t.off e hD)
end DT

namespace DT
open PySem PySem.Spec PyProof.Rows L2
/-- xs[i] of a list, 0 ≤ i, for xs[i] += e -/
theorem get_list {X : Cx} : PGet X (fun x y H Q => ∃ (p : Addr) (xs : List V) (i : Nat) (v : V), x = .ref p ∧ y = .int (i : Int) ∧ SqL X.K H p xs ∧ xs[i]? = some v ∧ Q v H) := by
  intro pins s σ H o i ov iv Q I ro ri h
  obtain ⟨p, xs, k, v, rfl, rfl, hq, hx, q⟩ := h
  cases ro
  obtain ⟨t, rfl⟩ := ri
  obtain ⟨its, r, pl, hz⟩ := I.list hq
  obtain ⟨w, ew, rw'⟩ := r.get hx
  have hk : k < xs.length := (List.getElem?_eq_some_iff.1 hx).1
  have hn := line63
  exact wpAny_getItem_list pl.isList (by omega) (by omega) (by simpa using ew) ⟨v, H, I, rw', q⟩
/-! ### lists of pairs, tracked -/
def LP (K : PySem.W.Frag) (H : Hp) (p : Addr) (xs : List Q2) : Prop := ∃ us, H p = some (.lst us) ∧ Pps K H us xs
theorem LP.same {K : PySem.W.Frag} {H H' : Hp} {p : Addr} {xs : List Q2} (h : LP K H p xs) (e : Same H H') : LP K H' p xs := by
  obtain ⟨us, h1, h2⟩ := h
  exact ⟨us, e _ _ h1, h2.same e⟩
/-- every pair in lowest terms and below 2 ^ n -/
def AllOk (n : Nat) (xs : List Q2) : Prop := ∀ x ∈ xs, Ok n x ∧ Low x.1 x.2
theorem AllOk.mono {n m : Nat} {xs : List Q2} (h : AllOk n xs) (e : n ≤ m) : AllOk m xs := fun x hx => ⟨(h x hx).1.mono e, (h x hx).2⟩
theorem AllOk.nil {n : Nat} : AllOk n [] := fun _ h => nomatch h
theorem AllOk.snoc {n : Nat} {xs : List Q2} {x : Q2} (h : AllOk n xs) (o : Ok n x) (l : Low x.1 x.2) : AllOk n (xs ++ [x]) := fun y hy => by
  rcases List.mem_append.1 hy with z | z
  · exact h y z
  · rw [List.mem_singleton.1 z]
    exact ⟨o, l⟩
/-- a list that grows by one pair, the pair's tuple anywhere -/
theorem pps_grow {K : PySem.W.Frag} {H : Hp} {D : Addr} {us : List V} {v : V} {xs : List Q2} {x : Q2} (hD : H D = some (.lst us)) (h : Pps K H us xs) (k : Pp K H v x) : Pps K (upd H D (.lst (us ++ [v]))) (us ++ [v]) (xs ++ [x]) := by
  have sd : ∀ b o, H b = some o → b ≠ D → upd H D (.lst (us ++ [v])) b = some o := fun b o e n => by
    rw [upd_ne n]
    exact e
  exact (h.off sd hD).snoc (k.off sd hD)
theorem pps_at {K : PySem.W.Frag} {H : Hp} {us : List V} {xs : List Q2} (h : Pps K H us xs) {i : Nat} {x : Q2} (e : xs[i]? = some x) : ∃ v, us[i]? = some v ∧ Pp K H v x := by
  have hi : i < us.length := by
    rw [h.len]
    exact (List.getElem?_eq_some_iff.1 e).1
  obtain ⟨y, ey, py⟩ := pps_get h (List.getElem?_eq_getElem hi)
  rw [e] at ey
  cases ey
  exact ⟨_, List.getElem?_eq_getElem hi, py⟩
/-- == of two lists of pairs -/
theorem eqv_iff : ∀ (xs ys : List Q2), PyData.eqvAll (xs.map datP) (ys.map datP) = decide (xs = ys)
  | [], [] => by simp [PyData.eqvAll]
  | [], y :: ys => by simp [PyData.eqvAll]
  | x :: xs, [] => by simp [PyData.eqvAll]
  | x :: xs, y :: ys => by
    rw [List.map_cons, List.map_cons]
    simp only [PyData.eqvAll, eqv_iff xs ys]
    obtain ⟨a, b⟩ := x
    obtain ⟨c, d⟩ := y
    simp only [datP, PyData.eqv, PyData.eqvAll, Bool.and_true]
    by_cases h1 : a = c <;> by_cases h2 : b = d <;> by_cases h3 : xs = ys <;> simp [h1, h2, h3]
/-- a list of ints -/
theorem sq_ints {K : PySem.W.Frag} {H : Hp} {p : Addr} {rs : List Int} (h : H p = some (.lst (rs.map V.int))) : SqL K H p (rs.map V.int) := SqL.of h
theorem cut_map (rs : List Int) (lo hi : Option Int) : cutV (rs.map V.int) lo hi = ((rs.drop (HT.sIx rs.length 0 lo)).take (HT.sIx rs.length rs.length hi - HT.sIx rs.length 0 lo)).map V.int := by
  unfold cutV
  rw [List.length_map, ← List.map_drop, ← List.map_take]
theorem cut_to (rs : List Int) (n : Nat) (h : n ≤ rs.length) : cutV (rs.map V.int) none (some (n : Int)) = (rs.take n).map V.int := by
  rw [cut_map, HT.sIx_none, HT.sIx_nat, List.drop_zero, Nat.sub_zero, Nat.min_eq_left h]
theorem cut_from (rs : List Int) (n : Nat) (h : n ≤ rs.length) : cutV (rs.map V.int) (some (n : Int)) none = (rs.drop n).map V.int := by
  rw [cut_map, HT.sIx_none, HT.sIx_nat, Nat.min_eq_left h]
  rw [List.take_of_length_le (by rw [List.length_drop]; omega)]
end DT
namespace DT
open PySem PySem.Spec PyProof.Rows L2
/-- a store to the list at D leaves the lists of pairs at other places -/
theorem LP.off {K : PySem.W.Frag} {H : Hp} {D p : Addr} {us vs : List V} {xs : List Q2} (h : LP K H p xs) (hD : H D = some (.lst us)) (n : p ≠ D) : LP K (upd H D (.lst vs)) p xs := by
  obtain ⟨ws, e, k⟩ := h
  refine ⟨ws, by rw [upd_ne n]; exact e, k.off (D := D) (fun b o eb nb => by rw [upd_ne nb]; exact eb) hD⟩
theorem LP.ne {K : PySem.W.Frag} {H H' : Hp} {p q : Addr} {xs : List Q2} (h : LP K H p xs) (n : H q = none) : p ≠ q := by
  obtain ⟨us, e, _⟩ := h
  exact ne_of_none e n
theorem LP.sq {K : PySem.W.Frag} {H : Hp} {p : Addr} {xs : List Q2} (h : LP K H p xs) : ∃ us, SqL K H p us ∧ us.length = xs.length ∧ Pps K H us xs := by
  obtain ⟨us, e, k⟩ := h
  exact ⟨us, SqL.of e, k.len, k⟩
theorem LP.dp {K : PySem.W.Frag} {H : Hp} {p : Addr} {xs : List Q2} (h : LP K H p xs) : Dp K H (.ref p) (.list (xs.map datP)) := by
  obtain ⟨us, e, k⟩ := h
  exact .lst (SqL.of e) k.dp
def dat2 (xs ys : List Q2) : PyData := .list [.list (xs.map datP), .list (ys.map datP)]
theorem shp_2 (xs ys : List Q2) : SeqAt.shaped (dat2 xs ys) = true := by
  have h1 := lay_ps xs
  have h2 := dep_ps xs
  have h3 := lay_ps ys
  have h4 := dep_ps ys
  unfold SeqAt.shaped dat2
  rw [Bool.and_eq_true]
  refine ⟨by simp only [PyData.canLay0, PyData.canLayAll0, h1, h3, Bool.and_self], decide_eq_true ?_⟩
  simp only [PyData.depth, PyData.depthAll]
  omega
theorem eqv_2 (xs ys : List Q2) : PyData.eqv (dat2 xs ys) (dat2 xs ys) = true := by
  unfold dat2
  simp only [PyData.eqv, PyData.eqvAll, eqv_ps, Bool.and_self]
end DT

namespace DT
open PySem PySem.Spec PyProof.Rows L2
theorem take_map {rs : List Int} {i : Nat} {r : Int} (h : rs[i]? = some r) (f : Int → Int) : ((rs.take i).map f).map V.int ++ [V.int (f r)] = ((rs.take (i + 1)).map f).map V.int := by
  rw [List.take_add_one, h]
  simp only [List.map_append, Option.toList_some, List.map_cons, List.map_nil]
theorem int_at {rs : List Int} {i : Nat} {x : V} (h : (rs.map V.int)[i]? = some x) : ∃ r, rs[i]? = some r ∧ x = .int r := by
  rw [List.getElem?_map] at h
  cases e : rs[i]? with
  | none => rw [e] at h; cases h
  | some r => rw [e] at h; exact ⟨r, rfl, (Option.some.inj h).symm⟩
/-! ### the first of the greatest -/
def lessP (x y : Q2) : Bool := decide (x.1 * y.2 < y.1 * x.2)
def itemP (xs : List Q2) (i : Nat) : Q2 := xs.getD i (0, 1)
def firstF (xs : List Q2) : Nat → Nat
  | 0 => 0
  | i + 1 => if lessP (itemP xs (firstF xs i)) (itemP xs i) = true then i else firstF xs i
def firstM (xs : List Q2) : Nat := firstF xs xs.length
theorem firstF_lt (xs : List Q2) : ∀ i, firstF xs i < max 1 i
  | 0 => by show 0 < max 1 0; omega
  | i + 1 => by
    have ih := firstF_lt xs i
    unfold firstF
    split <;> omega
theorem firstM_lt {xs : List Q2} (h : 0 < xs.length) : firstM xs < xs.length := by
  have := firstF_lt xs xs.length
  unfold firstM
  omega
theorem item_some {xs : List Q2} {i : Nat} (h : i < xs.length) : xs[i]? = some (itemP xs i) := by
  unfold itemP
  rw [List.getElem?_eq_getElem h]
  simp [List.getD, List.getElem?_eq_getElem h]
theorem item_ok {xs : List Q2} {n i : Nat} (h : AllOk n xs) (hi : i < xs.length) : Ok n (itemP xs i) ∧ Low (itemP xs i).1 (itemP xs i).2 := by
  refine h _ ?_
  exact List.mem_of_getElem? (item_some hi)
def sp_first (K : PySem.W.Frag) : Sp := fun vs H Q _ => ∃ (p : Addr) (xs : List Q2), vs = [.ref p] ∧ LP K H p xs ∧ 0 < xs.length ∧ xs.length ≤ 1000 ∧ AllOk 4000 xs ∧ Q (.int (firstM xs : Int)) H
/-- two lists, item by item -/
def sp_raised (K : PySem.W.Frag) : Sp := fun vs H Q _ => ∃ (p q : Addr) (xs ys : List Q2), vs = [.ref p, .ref q] ∧ LP K H p xs ∧ LP K H q ys ∧ xs.length = ys.length ∧ xs.length ≤ 1000 ∧ AllOk 3800 xs ∧ AllOk 3800 ys ∧
  ∀ H' r, Same H H' → H r = none → LP K H' r (List.zipWith addP xs ys) → Q (.ref r) H'
theorem zip_at {xs ys : List Q2} {i : Nat} {x y : Q2} (hx : xs[i]? = some x) (hy : ys[i]? = some y) : (List.zipWith addP xs ys).take (i + 1) = (List.zipWith addP xs ys).take i ++ [addP x y] := by
  rw [List.take_add_one]
  have : (List.zipWith addP xs ys)[i]? = some (addP x y) := by
    rw [List.getElem?_zipWith, hx, hy]
  rw [this]
  rfl
/-- the weights and the shares of the law -/
def sharesOf (ws : List Int) : List Q2 := ws.map fun w => lowP w ws.sum
def WsOk (n : Nat) (ws : List Int) : Prop := ws.length = n ∧ (∀ w ∈ ws, 0 ≤ w ∧ w < 1000005) ∧ 0 < ws.sum ∧ ws.sum ≤ 1000005 * n
theorem shares_ok {n : Nat} {ws : List Int} (h : WsOk n ws) (hn : n ≤ 24) : AllOk 26 (sharesOf ws) := by
  intro x hx
  obtain ⟨w, hw, rfl⟩ := List.mem_map.1 hx
  obtain ⟨h1, h2, h3, h4⟩ := h
  have hb := h2 w hw
  exact ⟨lowP_ok h3 (Bd.of (m := 30000000) (by omega) (by omega) (by decide)) (Bd.of (m := 30000000) (by omega) (by omega) (by decide)), lowP_low h3⟩
theorem shares_len (ws : List Int) : (sharesOf ws).length = ws.length := by
  unfold sharesOf
  rw [List.length_map]
theorem sum_bound {ws : List Int} : (∀ w ∈ ws, 0 ≤ w ∧ w < 1000005) → 0 ≤ ws.sum ∧ ws.sum ≤ 1000005 * ws.length := by
  induction ws with
  | nil => intro _; exact ⟨Int.le_refl _, Int.le_refl _⟩
  | cons w ws ih =>
    intro h
    have h1 := h w List.mem_cons_self
    have h2 := ih fun v hv => h v (List.mem_cons_of_mem _ hv)
    rw [List.sum_cons, List.length_cons]
    omega
end DT

namespace DT
open PySem PySem.Spec PyProof.Rows L2 TL
/-! ### the text of a number -/
abbrev numT (n : Int) : Str := Str.ofString (toString n)
theorem tl_pos (n : Nat) : tl (numT (n : Int)) = numL n := tl_num n
theorem tl_neg (m : Nat) : tl (numT (-((m + 1 : Nat) : Int))) = 45 :: numL (m + 1) := by
  rw [show numT (-((m + 1 : Nat) : Int)) = Str.ofString ("-" ++ toString (((m + 1 : Nat)) : Int)) from rfl, tl_ofString, String.toList_append, List.map_append]
  rw [← tl_num (m + 1), tl_ofString]
  rfl
theorem numT_neg {n : Int} (h : n < 0) : (("-" : Str) ++ numT (-n)) = numT n := by
  obtain ⟨m, rfl⟩ : ∃ m : Nat, n = -((m + 1 : Nat) : Int) := ⟨(-n).toNat - 1, by omega⟩
  apply ext_tl
  rw [tl_append, tl_neg, Int.neg_neg, tl_pos]
  rfl
theorem tl_numT (n : Int) : tl (numT n) = (if n < 0 then [45] else []) ++ numL n.natAbs := by
  by_cases h : n < 0
  · obtain ⟨m, rfl⟩ : ∃ m : Nat, n = -((m + 1 : Nat) : Int) := ⟨(-n).toNat - 1, by omega⟩
    rw [tl_neg, if_pos h]
    rw [show (-((m + 1 : Nat) : Int)).natAbs = m + 1 by omega]
    rfl
  · obtain ⟨m, rfl⟩ : ∃ m : Nat, n = (m : Int) := ⟨n.toNat, by omega⟩
    rw [tl_pos, if_neg h]
    rfl
theorem numT_len {n : Int} {k : Nat} (hk : 0 < k) (h : n.natAbs < 10 ^ k) : (numT n).length ≤ k + 1 := by
  rw [len_tl, tl_numT, List.length_append]
  have := numL_len hk h
  split <;> simp only [List.length_cons, List.length_nil] <;> omega
theorem numL_head {n : Nat} (h : 0 < n) : (numL n).head? ≠ some 48 := by
  induction n using Nat.strongRecOn with
  | _ n ih =>
    by_cases h10 : n < 10
    · rw [numL_lt h10]
      intro e
      have e1 : 48 + n = 48 := Option.some.inj e
      omega
    · rw [numL_step (by omega), List.head?_append]
      have i := ih (n / 10) (by omega) (by omega)
      cases e : (numL (n / 10)).head? with
      | none =>
        rw [List.head?_eq_none_iff] at e
        exact absurd e (numL_ne _)
      | some c =>
        rw [e] at i
        exact i
theorem numL_zero : numL 0 = [48] := numL_lt (by decide)
theorem numL_is0 {n : Nat} (h : numL n = [48]) : n = 0 := by
  rw [← numL_zero] at h
  exact numL_inj h
/-! ### is_number -/
def figs : List Nat := [48, 49, 50, 51, 52, 53, 54, 55, 56, 57]
def isNumB (l : List Nat) : Bool := if l = [] ∨ 400 < l.length then false else if l.head? = some 48 then decide (l = [48]) else l.all fun c => decide (c ∈ figs)
theorem mem_figs {c : Nat} : c ∈ figs ↔ 48 ≤ c ∧ c ≤ 57 := by
  unfold figs
  simp only [List.mem_cons, List.not_mem_nil, or_false]
  omega
theorem isNum_numL {n : Nat} (h : (numL n).length ≤ 400) : isNumB (numL n) = true := by
  unfold isNumB
  rw [if_neg (by rintro (e | e); exact numL_ne n e; omega)]
  by_cases h0 : n = 0
  · subst h0
    rw [numL_zero]
    rfl
  · rw [if_neg (numL_head (by omega)), List.all_eq_true]
    intro c hc
    exact decide_eq_true (mem_figs.2 (numL_digits n c hc))
theorem tl_fig : tl ("0123456789" : Str) = figs := by
  show tl (Str.ofString "0123456789") = figs
  rw [tl_ofString]
  rfl
/-! ### reading -/
theorem tl_rp (x : Str) : tl (Txt.removeprefix x ("-" : Str)) = (match tl x with | 45 :: r => r | l => l) := by
  have e1 : tl ("-" : Str) = [45] := by
    show tl (Str.ofString "-") = _
    rw [tl_ofString]
    rfl
  have e2 : ("-" : Str).length = 1 := by rw [len_tl, e1]; rfl
  have e3 : ("-" : Str).cps = #[45] := by
    apply Array.toList_inj.1
    exact e1
  rw [PySem.StrLaws.removeprefix_eq]
  unfold Builtin.Str.subAt
  rw [e2, e3]
  obtain ⟨a⟩ := x
  obtain ⟨l⟩ := a
  show tl (if _ then _ else _) = (match l with | 45 :: r => r | l => l)
  cases l with
  | nil => rfl
  | cons c r =>
    by_cases h : c = 45
    · subst h
      rw [if_pos (by simp [Str.length])]
      show ((45 :: r).drop 1).take ((45 :: r).length - 1) = r
      simp
    · rw [if_neg (by simp [Str.length, h])]
      show c :: r = _
      split
      · rename_i e
        cases e
        exact absurd rfl h
      · rfl
theorem slash_tl : tl ("/" : Str) = [47] := by
  show tl (Str.ofString "/") = _
  rw [tl_ofString]
  rfl
theorem slash_len : (("/" : Str).length == 0) = false := by
  rw [len_tl, slash_tl]
  rfl
theorem numT_free (n : Int) : 47 ∉ tl (numT n) := by
  rw [tl_numT]
  intro h
  rcases List.mem_append.1 h with h | h
  · split at h
    · rw [List.mem_singleton] at h; omega
    · cases h
  · exact numL_free (by omega) h
theorem part_app (a b : Int) : Txt.partition (numT a ++ ("/" : Str) ++ numT b) ("/" : Str) = (numT a, ("/" : Str), numT b) := partition_app slash_tl (numT_free a)
theorem rp_num (n : Int) : tl (Txt.removeprefix (numT n) ("-" : Str)) = numL n.natAbs := by
  rw [tl_rp, tl_numT]
  by_cases h : n < 0
  · rw [if_pos h]
    rfl
  · rw [if_neg h, List.nil_append]
    split
    · rename_i r e
      have : 45 ∈ numL n.natAbs := by rw [e]; exact List.mem_cons_self
      exact absurd this (numL_free (by omega))
    · rfl
theorem int_numT {n : Int} (h : (numL n.natAbs).length ≤ 4000) : PySem.intText? (numT n) = some n := by
  by_cases hn : n < 0
  · obtain ⟨m, rfl⟩ : ∃ m : Nat, n = -((m + 1 : Nat) : Int) := ⟨(-n).toNat - 1, by omega⟩
    rw [show (-((m + 1 : Nat) : Int)).natAbs = m + 1 by omega] at h
    have e := intText_neg (x := numT (-((m + 1 : Nat) : Int))) (tl_neg m) (numL_digits _) (numL_ne _) (by rw [len_tl, tl_neg, List.length_cons]; omega)
    rw [numL_val] at e
    exact e
  · obtain ⟨m, rfl⟩ : ∃ m : Nat, n = (m : Int) := ⟨n.toNat, by omega⟩
    exact int_num (Nat.le_trans h (by decide))
end DT

namespace DT
open PySem PySem.Spec PyProof.Rows L2 TL
/-- what the written part says of an own error class without an __init__ of its own -/
structure ExcT (K : PySem.W.Frag) (mg : Str → Option Value) (x : Str) (C : Addr) : Prop where
  g : mg x = some (.ref C)
  xx : PySem.W.excIn K C [.type "ValueError", .type "Exception", .type "BaseException", .type "object"] "ValueError.__new__" = true
  k : PySem.W.keepIn K (.ref C) = true
  b : PySem.W.subIn K (.ref C) (.type "BaseException") = some true
  t : PySem.W.typeIn K (.ref C) = some (.type "type")
/-- isinstance(e, c), the class of the caught error told where it is asked -/
theorem call_isX {X : Cx} {a D : Addr} {oe : Obj} {cls : Value} {d : Option Addr} {pn : List (Addr × Obj)} (C : ExcC X.K D) (hz : Zc cls d oe) (hf : ∃ vs, oe.data = .fields vs) :
    CallR (X.suite a ((a, oe) :: pn)) (.builtin "isinstance") (fun xs H Q => cls = .ref D ∧ d = none ∧ rIsE X.K D a xs H Q) := by
  intro pins s σ H xs us Q I r h
  obtain ⟨rfl, rfl, h⟩ := h
  exact call_isE C hz hf pins s σ H xs us Q I r h
theorem op_mul_str {X : Cx} : OpR X (binaryOp .Mult) (fun x y H Q => ∃ (z : Str) (n : Int), x = .str z ∧ y = .int n ∧ MulOk z n ∧ Q (.str (Txt.mul z n)) H) := by
  intro pins s σ H x y v u Q I rx ry h
  obtain ⟨z, n, rfl, rfl, hz, q⟩ := h
  obtain ⟨t, rfl⟩ := rx
  obtain ⟨t', rfl⟩ := ry
  exact SB.mul hz fun t' k => ⟨.str _, H, I.tok _, ⟨_, rfl⟩, q⟩
theorem rep_size (a : Array Nat) : ∀ (k : Nat) (b : Array Nat), ((List.replicate k a).foldl (· ++ ·) b).size = b.size + k * a.size
  | 0, b => by simp
  | k + 1, b => by
    rw [List.replicate_succ, List.foldl_cons, rep_size a k, Array.size_append, Nat.succ_mul]
    omega
theorem mul_len (z : Str) (n : Int) : (Txt.mul z n).length ≤ n.toNat * z.length + z.length := by
  unfold Txt.mul
  split
  · exact Nat.zero_le _
  · split
    · omega
    · show ((List.replicate n.toNat z.cps).foldl (· ++ ·) #[]).size ≤ _
      rw [rep_size]
      show 0 + n.toNat * z.length ≤ _
      omega
theorem app_len (x y : Str) : (x ++ y).length = x.length + y.length := by
  rw [len_tl, tl_append, List.length_append, ← len_tl, ← len_tl]
end DT
namespace DT
open PySem PySem.Spec PyProof.Rows L2 TL
theorem line5' {n : Nat} (h : n ≤ 100000) : n ≤ sizeLine := Nat.le_trans h (by decide)
theorem log_small {n : Nat} (h : n < 1000) : n.log2 < 1920 := by
  by_cases h0 : n = 0
  · rw [h0]
    decide
  · exact (Nat.log2_lt h0).2 (Nat.lt_of_lt_of_le h (by decide +kernel))
theorem sign_fig : tl ("0123456789" : Str) = figs := tl_fig
theorem tl0 : tl ("0" : Str) = [48] := by
  show tl (Str.ofString "0") = _
  rw [tl_ofString]
  rfl
theorem tl45 : tl ("-" : Str) = [45] := by
  show tl (Str.ofString "-") = _
  rw [tl_ofString]
  rfl
end DT

namespace DT
/-! ### what a pair is worth -/
def val (x : Q2) : Rat := (x.1 : Rat) / (x.2 : Rat)
theorem r_ne {a : Int} (h : 0 < a) : (a : Rat) ≠ 0 := fun e => by
  have := Rat.intCast_eq_zero_iff.1 e
  omega
theorem r_pos {a : Int} (h : 0 < a) : (0 : Rat) < (a : Rat) := Rat.intCast_pos.2 h
theorem val_eq {x y : Q2} (hx : 0 < x.2) (hy : 0 < y.2) (h : x.1 * y.2 = y.1 * x.2) : val x = val y := by
  unfold val
  have h1 := r_ne hx
  have h2 := r_ne hy
  have h3 : (x.1 : Rat) * (y.2 : Rat) = (y.1 : Rat) * (x.2 : Rat) := by rw [← Rat.intCast_mul, ← Rat.intCast_mul, h]
  grind
theorem val_low {t b : Int} (h : 0 < b) : val (lowP t b) = (t : Rat) / (b : Rat) := by
  have := val_eq (x := lowP t b) (y := (t, b)) (lowP_low h).pos h (by show t / gc t b * b = t * (b / gc t b); rw [low_cross t b, Int.mul_comm])
  exact this
theorem val_add {x y : Q2} (hx : 0 < x.2) (hy : 0 < y.2) : val (addP x y) = val x + val y := by
  unfold addP
  rw [val_low (Int.mul_pos hx hy)]
  unfold val
  have h1 := r_ne hx
  have h2 := r_ne hy
  rw [Rat.intCast_add, Rat.intCast_mul, Rat.intCast_mul, Rat.intCast_mul]
  grind
theorem val_sub {x y : Q2} (hx : 0 < x.2) (hy : 0 < y.2) : val (subP x y) = val x - val y := by
  unfold subP
  rw [val_low (Int.mul_pos hx hy)]
  unfold val
  have h1 := r_ne hx
  have h2 := r_ne hy
  rw [Rat.intCast_sub, Rat.intCast_mul, Rat.intCast_mul, Rat.intCast_mul]
  grind
theorem val_mul {x y : Q2} (hx : 0 < x.2) (hy : 0 < y.2) : val (mulP x y) = val x * val y := by
  unfold mulP
  rw [val_low (Int.mul_pos hx hy)]
  unfold val
  have h1 := r_ne hx
  have h2 := r_ne hy
  rw [Rat.intCast_mul, Rat.intCast_mul]
  grind
theorem val_lt {x y : Q2} (hx : 0 < x.2) (hy : 0 < y.2) : x.1 * y.2 < y.1 * x.2 ↔ val x < val y := by
  unfold val
  rw [Rat.div_lt_iff (r_pos hx), ← Rat.intCast_lt_intCast, Rat.intCast_mul, Rat.intCast_mul]
  have h2 := r_ne hy
  have hp := r_pos hy
  have e : (y.1 : Rat) / (y.2 : Rat) * (x.2 : Rat) = ((y.1 : Rat) * (x.2 : Rat)) / (y.2 : Rat) := by grind
  rw [e, Rat.lt_div_iff hp]
theorem lessP_iff {x y : Q2} (hx : 0 < x.2) (hy : 0 < y.2) : lessP x y = true ↔ val x < val y := by
  unfold lessP
  rw [decide_eq_true_iff]
  exact val_lt hx hy
theorem val_inj {x y : Q2} (hx : Low x.1 x.2) (hy : Low y.1 y.2) (h : val x = val y) : x = y := by
  have h1 := r_ne hx.pos
  have h2 := r_ne hy.pos
  have h3 : (x.1 : Rat) * (y.2 : Rat) = (y.1 : Rat) * (x.2 : Rat) := by
    unfold val at h
    grind
  rw [← Rat.intCast_mul, ← Rat.intCast_mul, Rat.intCast_inj] at h3
  obtain ⟨e1, e2⟩ := low_uniq hx hy h3
  exact Prod.ext e1 e2
def rsum (l : List Rat) : Rat := l.foldr (· + ·) 0
theorem rsum_cons (a : Rat) (l : List Rat) : rsum (a :: l) = a + rsum l := rfl
theorem rsum_nil : rsum [] = 0 := rfl
theorem rsum_app (l m : List Rat) : rsum (l ++ m) = rsum l + rsum m := by
  induction l with
  | nil => rw [List.nil_append, rsum_nil]; grind
  | cons a l ih => rw [List.cons_append, rsum_cons, rsum_cons, ih]; grind
def worth (xs : List Q2) : Rat := rsum (xs.map val)
theorem worth_cons (x : Q2) (xs : List Q2) : worth (x :: xs) = val x + worth xs := rfl
theorem worth_app (xs ys : List Q2) : worth (xs ++ ys) = worth xs + worth ys := by
  unfold worth
  rw [List.map_append, rsum_app]
/-- all bottoms above nought -/
def AllPos (xs : List Q2) : Prop := ∀ x ∈ xs, 0 < x.2
theorem AllOk.pos {n : Nat} {xs : List Q2} (h : AllOk n xs) : AllPos xs := fun x hx => (h x hx).1.pos
theorem fold_worth : ∀ (xs : List Q2) (x : Q2), 0 < x.2 → AllPos xs → val (xs.foldl addP x) = val x + worth xs ∧ 0 < (xs.foldl addP x).2
  | [], x, hx, _ => ⟨by show val x = val x + 0; grind, hx⟩
  | y :: ys, x, hx, h => by
    have hy := h y List.mem_cons_self
    have hz : 0 < (addP x y).2 := (addP_low hx hy).pos
    obtain ⟨e, p⟩ := fold_worth ys (addP x y) hz fun z hz => h z (List.mem_cons_of_mem _ hz)
    refine ⟨?_, p⟩
    rw [List.foldl_cons, e, val_add hx hy, worth_cons]
    grind
theorem sumP_worth {xs : List Q2} (h : AllPos xs) : val (sumP xs) = worth xs := by
  have := (fold_worth xs (0, 1) (by decide) h).1
  have z : val (0, 1) = 0 := by
    unfold val
    show ((0 : Int) : Rat) / ((1 : Int) : Rat) = 0
    rw [Rat.intCast_zero, Rat.intCast_one]
    grind
  unfold sumP
  rw [this, z]
  grind
theorem worth_zip : ∀ (xs ys : List Q2), xs.length = ys.length → AllPos xs → AllPos ys → worth (List.zipWith addP xs ys) = worth xs + worth ys
  | [], [], _, _, _ => by show (0 : Rat) = 0 + 0; grind
  | x :: xs, y :: ys, h, hx, hy => by
    rw [List.zipWith_cons_cons, worth_cons, worth_cons, worth_cons, val_add (hx x List.mem_cons_self) (hy y List.mem_cons_self),
      worth_zip xs ys (by simpa using h) (fun z hz => hx z (List.mem_cons_of_mem _ hz)) fun z hz => hy z (List.mem_cons_of_mem _ hz)]
    grind
theorem worth_set : ∀ {xs : List Q2} {i : Nat} {x y : Q2}, xs[i]? = some x → worth (xs.set i y) = worth xs - val x + val y
  | [], i, x, y, h => by simp at h
  | a :: xs, 0, x, y, h => by
    have e : a = x := Option.some.inj h
    subst e
    show val y + worth xs = val a + worth xs - val a + val y
    grind
  | a :: xs, i + 1, x, y, h => by
    have ih := worth_set (xs := xs) (i := i) (x := x) (y := y) (by simpa using h)
    show val a + worth (xs.set i y) = val a + worth xs - val x + val y
    rw [ih]
    grind
theorem worth_shares {n : Nat} {ws : List Int} (h : WsOk n ws) : worth (sharesOf ws) = 1 := by
  obtain ⟨_, _, hs, _⟩ := h
  have key : ∀ (l : List Int) (S : Int), 0 < S → worth (l.map fun w => lowP w S) = (l.sum : Rat) / (S : Rat) := by
    intro l S hS
    have hn := r_ne hS
    induction l with
    | nil =>
      show (0 : Rat) = ((0 : Int) : Rat) / (S : Rat)
      rw [Rat.intCast_zero]
      grind
    | cons w l ih =>
      rw [List.map_cons, worth_cons, ih, val_low hS, List.sum_cons, Rat.intCast_add]
      grind
  unfold sharesOf
  rw [key ws ws.sum hs]
  have hn := r_ne hs
  grind
theorem val_one : val (1, 1) = 1 := by
  unfold val
  show ((1 : Int) : Rat) / ((1 : Int) : Rat) = 1
  rw [Rat.intCast_one]
  grind
theorem val_zero' : val (0, 1) = 0 := by
  unfold val
  show ((0 : Int) : Rat) / ((1 : Int) : Rat) = 0
  rw [Rat.intCast_zero, Rat.intCast_one]
  grind
/-! ### one hour -/
def hourM (xs ys : List Q2) : Nat × List Q2 :=
  let zs := List.zipWith addP xs ys
  (firstM zs, zs.set (firstM zs) (subP (itemP zs (firstM zs)) (1, 1)))
theorem zip_ok {n m : Nat} {xs ys : List Q2} (hx : AllOk n xs) (hy : AllOk m ys) : AllOk (n + m + 1) (List.zipWith addP xs ys) := by
  intro z hz
  obtain ⟨i, hi⟩ := List.mem_iff_getElem?.1 hz
  rw [List.getElem?_zipWith] at hi
  cases ex : xs[i]? with
  | none => rw [ex] at hi; simp at hi
  | some x =>
    cases ey : ys[i]? with
    | none => rw [ex, ey] at hi; simp at hi
    | some y =>
      rw [ex, ey] at hi
      have e1 : addP x y = z := Option.some.inj hi
      have o1 := hx x (List.mem_of_getElem? ex)
      have o2 := hy y (List.mem_of_getElem? ey)
      rw [← e1]
      exact ⟨addP_ok o1.1 o2.1, addP_low o1.1.pos o2.1.pos⟩
theorem ok11 : Ok 1 ((1, 1) : Q2) := ⟨by decide, by unfold Bd; decide, by unfold Bd; decide⟩
theorem sub_low {x y : Q2} (hx : 0 < x.2) (hy : 0 < y.2) : Low (subP x y).1 (subP x y).2 := low_div (Int.mul_pos hx hy)
theorem hour_ok {n m : Nat} {xs ys : List Q2} (hx : AllOk n xs) (hy : AllOk m ys) (hl : xs.length = ys.length) (h0 : 0 < xs.length) : AllOk (n + m + 3) (hourM xs ys).2 ∧ (hourM xs ys).2.length = xs.length ∧ (hourM xs ys).1 < xs.length := by
  have hz := zip_ok hx hy
  have lz : (List.zipWith addP xs ys).length = xs.length := by rw [List.length_zipWith]; omega
  have hf := firstM_lt (xs := List.zipWith addP xs ys) (by omega)
  have oi := item_ok hz hf
  refine ⟨fun z hz' => ?_, ?_, by show firstM (List.zipWith addP xs ys) < _; omega⟩
  · rcases List.mem_or_eq_of_mem_set hz' with h | h
    · exact ⟨(hz z h).1.mono (by omega), (hz z h).2⟩
    · rw [h]
      exact ⟨(subP_ok oi.1 ok11).mono (by omega), sub_low oi.1.pos ok11.pos⟩
  · show ((List.zipWith addP xs ys).set _ _).length = _
    rw [List.length_set, lz]
theorem hour_worth {n m : Nat} {xs ys : List Q2} (hx : AllOk n xs) (hy : AllOk m ys) (hl : xs.length = ys.length) (h0 : 0 < xs.length) : worth (hourM xs ys).2 = worth xs + worth ys - 1 := by
  have hz := zip_ok hx hy
  have lz : (List.zipWith addP xs ys).length = xs.length := by rw [List.length_zipWith]; omega
  have hf := firstM_lt (xs := List.zipWith addP xs ys) (by omega)
  have oi := item_ok hz hf
  show worth ((List.zipWith addP xs ys).set _ _) = _
  rw [worth_set (item_some hf), val_sub oi.1.pos ok11.pos, val_one, worth_zip xs ys hl hx.pos hy.pos]
  grind
/-- lags behind some hours: as many, small, in lowest terms, together nought -/
structure Lags (n N : Nat) (xs : List Q2) : Prop where
  len : xs.length = n
  ok : AllOk N xs
  zero : worth xs = 0
end DT
namespace DT
open PySem PySem.Spec PyProof.Rows L2
theorem Pps.set {K : PySem.W.Frag} {H : Hp} {v : V} {y : Q2} (h : Pp K H v y) : ∀ {us : List V} {xs : List Q2} (i : Nat), Pps K H us xs → Pps K H (us.set i v) (xs.set i y)
  | _, _, _, .nil => .nil
  | _, _, 0, .cons _ t => .cons h t
  | _, _, i + 1, .cons g t => .cons g (t.set h i)
theorem LP.put {K : PySem.W.Frag} {H : Hp} {p : Addr} {us : List V} {v : V} {xs : List Q2} {y : Q2} (e : H p = some (.lst us)) (k : Pps K H us xs) (h : Pp K H v y) (i : Nat) : LP K (upd H p (.lst (us.set i v))) p (xs.set i y) := by
  have sd : ∀ b o, H b = some o → b ≠ p → upd H p (.lst (us.set i v)) b = some o := fun b o eb n => by
    rw [upd_ne n]
    exact eb
  exact ⟨_, upd_same, Pps.set (h.off sd e) i (k.off sd e)⟩
def sp_hour (K : PySem.W.Frag) : Sp := fun vs H Q _ => ∃ (p q : Addr) (xs ys : List Q2) (N : Nat), vs = [.ref p, .ref q] ∧ LP K H p xs ∧ LP K H q ys ∧ xs.length = ys.length ∧ 0 < xs.length ∧ xs.length ≤ 1000 ∧ AllOk N xs ∧ AllOk 26 ys ∧ N ≤ 3700 ∧
  ∀ H' t r, Same H H' → H r = none → SqT K H' t [.int ((hourM xs ys).1 : Int), .ref r] → LP K H' r (hourM xs ys).2 → Q (.ref t) H'
theorem ix_nat {n : Nat} {j : Nat} (h : j < n) : ixN n (j : Int) = some j := by
  unfold ixN
  rw [if_pos (by omega), if_pos (by omega), Int.toNat_natCast]
end DT

namespace DT
open PySem PySem.Spec PyProof.Rows L2
/-- a method of the text -/
structure Dm (K : PySem.W.Frag) (C : Addr) (m qual : Str) (st : Stmt) (ps : List Str) where
  f : Addr
  fd : FuncData
  F : Fun K m qual st f fd
  b : Binds K fd ps []
  at_ : Meth K C m f
theorem fun_ofD {K : PySem.W.Frag} {x qual : Str} {st : Stmt} {f : Addr} {fd : FuncData} (F : FunD K x qual (defArgs st) (defBody st) (defScope st) [] [] f fd) : Fun K x qual st f fd := by
  obtain ⟨oc, od, dV, kV, doc, pm, an, cdv, ct, osl, rfl, lk, hcd, hD, _⟩ := F.ex
  rcases hD with ⟨_, rfl⟩ | ⟨e, _⟩
  · exact ⟨⟨oc, od, kV, doc, pm, an, cdv, ct, osl, rfl, lk, hcd⟩, F.kp⟩
  · exact absurd rfl e
/-- a call of a def that could raise, where it does not -/
theorem passF {P : Program} {w : World} {X : Cx} : Passes (L2.CX P w) X E0 := fun _ _ _ _ _ _ _ h => by
  obtain ⟨_, _, _, _, _, _, _, _, _, _, _, _, z⟩ := h
  exact z.elim
theorem excT_of {K : PySem.W.Frag} {mg : Str → Option Value} {x : Str} (g : mg x = some (.ref (He.ga K x))) (c : (He.Fa.exc x).ok K = true) : ExcT K mg x (He.ga K x) := by
  obtain ⟨a, b, c, d⟩ := He.exc_ok c
  exact ⟨g, a, b, c, d⟩
def excCB (K : PySem.W.Frag) (x : Str) : Bool :=
  decide (PySem.W.findIn K (.ref (He.ga K x)) "__getattribute__" = some (some (.builtin "BaseException.__getattribute__"))) &&
  (decide (PySem.W.findIn K (.ref (He.ga K x)) "__getattr__" = some none) && (decide (PySem.W.subIn K (.ref (He.ga K x)) (.type "BaseException") = some true) && (PySem.W.hasDictIn K (He.ga K x) &&
  (decide (PySem.W.findIn K (.ref (He.ga K x)) "__class__" = some (some (.builtin "object.__class__"))) && (decide (PySem.W.specialIn K (.builtin "object.__class__") "__get__" = some (some (.builtin "getset_descriptor.__get__"))) &&
  (decide (PySem.W.takesIn K (.builtin "object.__class__") = some true) && (decide (PySem.W.mroIn K (He.ga K x) (.type "object") = some true) && decide (PySem.W.kitOne K (.ref (He.ga K x)) (.type "ValueError") = some true))))))))
theorem excCB_all {K : PySem.W.Frag} {x : Str} (h : excCB K x = true) : ExcC K (He.ga K x) ∧ PySem.W.kitOne K (.ref (He.ga K x)) (.type "ValueError") = some true := by
  obtain ⟨h1, h⟩ := He.ba h
  obtain ⟨h2, h⟩ := He.ba h
  obtain ⟨h3, h⟩ := He.ba h
  obtain ⟨h4, h⟩ := He.ba h
  obtain ⟨h5, h⟩ := He.ba h
  obtain ⟨h6, h⟩ := He.ba h
  obtain ⟨h7, h⟩ := He.ba h
  obtain ⟨h8, h9⟩ := He.ba h
  exact ⟨⟨of_decide_eq_true h1, of_decide_eq_true h2, of_decide_eq_true h3, h4, of_decide_eq_true h5, of_decide_eq_true h6, of_decide_eq_true h7, of_decide_eq_true h8⟩, of_decide_eq_true h9⟩
theorem excCB_ok {K : PySem.W.Frag} {x : Str} (h : excCB K x = true) : ExcC K (He.ga K x) := (excCB_all h).1
theorem excCB_kit {K : PySem.W.Frag} {x : Str} (h : excCB K x = true) : PySem.W.kitOne K (.ref (He.ga K x)) (.type "ValueError") = some true := (excCB_all h).2
end DT

namespace DT
open PySem PySem.Spec PyProof.Rows L2
/-! ### data held against data -/
theorem sqL_ty {K : PySem.W.Frag} {H : Hp} {a : Addr} {xs : List V} (h : SqL K H a xs) : TyX K H (.ref a) (.type "list") := by
  rcases h with (h | ⟨o, h⟩) | ⟨o, its, n, h, c, _⟩
  · exact .base (.lst h)
  · exact .base (.frz h)
  · exact .kList h c
mutual
theorem dp_same {K : PySem.W.Frag} {H H' : Hp} (e : Same H H') : ∀ {v : V} {d : PyData}, Dp K H v d → Dp K H' v d
  | _, _, .non => .non
  | _, _, .bl b => .bl b
  | _, _, .int i => .int i
  | _, _, .str x => .str x
  | _, _, .lst h k => .lst (e.seq h) (dps_same e k)
  | _, _, .tup h k => .tup (same_seqT e h) (dps_same e k)
theorem dps_same {K : PySem.W.Frag} {H H' : Hp} (e : Same H H') : ∀ {vs : List V} {ds : List PyData}, DpAll K H vs ds → DpAll K H' vs ds
  | _, _, .nil => .nil
  | _, _, .cons h t => .cons (dp_same e h) (dps_same e t)
end
theorem dps_len {K : PySem.W.Frag} {H : Hp} : ∀ {vs : List V} {ds : List PyData}, DpAll K H vs ds → vs.length = ds.length
  | _, _, .nil => rfl
  | _, _, .cons _ t => by rw [List.length_cons, List.length_cons, dps_len t]
theorem dps_get {K : PySem.W.Frag} {H : Hp} : ∀ {vs : List V} {ds : List PyData}, DpAll K H vs ds → ∀ {i : Nat} {v : V}, vs[i]? = some v → ∃ d, ds[i]? = some d ∧ Dp K H v d
  | _, _, .nil, i, v, h => by cases h
  | _, _, .cons a t, 0, v, h => by cases h; exact ⟨_, rfl, a⟩
  | _, _, .cons a t, i + 1, v, h => dps_get t h
theorem dps_snoc {K : PySem.W.Frag} {H : Hp} : ∀ {vs : List V} {ds : List PyData} {v : V} {d : PyData}, DpAll K H vs ds → Dp K H v d → DpAll K H (vs ++ [v]) (ds ++ [d])
  | _, _, _, _, .nil, h => .cons h .nil
  | _, _, _, _, .cons a t, h => .cons a (dps_snoc t h)
/-- plain data, at most n deep -/
def Plain : Nat → PyData → Prop
  | _, .int _ => True
  | _, .str _ => True
  | _, .none => True
  | n + 1, .list ds => ds.length ≤ 900 ∧ ∀ d ∈ ds, Plain n d
  | n + 1, .tuple ds => ds.length ≤ 900 ∧ ∀ d ∈ ds, Plain n d
  | _, _ => False
def sp_alike (K : PySem.W.Frag) (n : Nat) : Sp := fun vs H Q _ => ∃ (v u : V) (d : PyData), vs = [v, u] ∧ Dp K H v d ∧ Dp K H u d ∧ Plain n d ∧ ∀ H', Same H H' → Q (.bl true) H'
theorem walk_zipT {K : PySem.W.Frag} {a b : Addr} {xs ys : List V} {n : Nat} (hn : n = min xs.length ys.length) : Walk (RZ.ItzT K a b) n (fun H => SqT K H a xs ∧ SqT K H b ys) (YPair (fun i => xs[i]?) (fun i => ys[i]?)) := by
  subst hn
  refine ⟨fun i _ hi k => ?_, fun _ k => ⟨xs, ys, k.1, k.2, by omega⟩, fun i H v H' _ k y => ?_⟩
  · exact ⟨xs, ys, _, _, k.1, k.2, List.getElem?_eq_getElem (by omega), List.getElem?_eq_getElem (by omega)⟩
  · obtain ⟨T, x, z, e1, e2, e3, e4, e5⟩ := y
    exact ⟨T, x, z, e1, e2, e3, e4 xs k.1, e5 ys k.2⟩
end DT

namespace DT
open PySem PySem.Spec PyProof.Rows L2
/-! ### lists of things told one by one -/
def Al {α : Type} (R : V → α → Prop) (us : List V) (xs : List α) : Prop := us.length = xs.length ∧ ∀ (i : Nat) (v : V) (x : α), us[i]? = some v → xs[i]? = some x → R v x
section
variable {α : Type} {R R' : V → α → Prop} {us vs : List V} {xs ys : List α}
theorem Al.nil : Al R [] [] := ⟨rfl, fun _ _ _ h => nomatch h⟩
theorem Al.imp (h : Al R us xs) (f : ∀ v x, v ∈ us → R v x → R' v x) : Al R' us xs := ⟨h.1, fun i v x e1 e2 => f v x (List.mem_of_getElem? e1) (h.2 i v x e1 e2)⟩
theorem Al.app (h : Al R us xs) (k : Al R vs ys) : Al R (us ++ vs) (xs ++ ys) := by
  refine ⟨by rw [List.length_append, List.length_append, h.1, k.1], fun i v x e1 e2 => ?_⟩
  by_cases hi : i < us.length
  · rw [List.getElem?_append_left hi] at e1
    rw [List.getElem?_append_left (by rw [← h.1]; exact hi)] at e2
    exact h.2 i v x e1 e2
  · rw [List.getElem?_append_right (by omega)] at e1
    rw [List.getElem?_append_right (by rw [← h.1]; omega), ← h.1] at e2
    exact k.2 _ v x e1 e2
theorem Al.one {v : V} {x : α} (h : R v x) : Al R [v] [x] := ⟨rfl, fun i u y e1 e2 => by
  cases i with
  | zero => cases e1; cases e2; exact h
  | succ i => cases e1⟩
theorem Al.snoc {v : V} {x : α} (h : Al R us xs) (k : R v x) : Al R (us ++ [v]) (xs ++ [x]) := h.app (.one k)
theorem Al.at {i : Nat} {x : α} (h : Al R us xs) (e : xs[i]? = some x) : ∃ v, us[i]? = some v ∧ R v x := by
  have hi : i < us.length := by rw [h.1]; exact (List.getElem?_eq_some_iff.1 e).1
  exact ⟨us[i], List.getElem?_eq_getElem hi, h.2 i _ x (List.getElem?_eq_getElem hi) e⟩
theorem Al.of {i : Nat} {v : V} (h : Al R us xs) (e : us[i]? = some v) : ∃ x, xs[i]? = some x ∧ R v x := by
  have hi : i < xs.length := by rw [← h.1]; exact (List.getElem?_eq_some_iff.1 e).1
  exact ⟨xs[i], List.getElem?_eq_getElem hi, h.2 i v _ e (List.getElem?_eq_getElem hi)⟩
end
/-! ### rows of parts -/
def RowV (K : PySem.W.Frag) (H : Hp) (v : V) (r : List Q2) : Prop := ∃ q, v = .ref q ∧ LP K H q r
def LR (K : PySem.W.Frag) (H : Hp) (p : Addr) (rss : List (List Q2)) : Prop := ∃ us, H p = some (.lst us) ∧ Al (RowV K H) us rss
theorem RowV.same {K : PySem.W.Frag} {H H' : Hp} {v : V} {r : List Q2} (e : Same H H') (h : RowV K H v r) : RowV K H' v r := by
  obtain ⟨q, rfl, h⟩ := h
  exact ⟨q, rfl, h.same e⟩
theorem LR.same {K : PySem.W.Frag} {H H' : Hp} {p : Addr} {rss : List (List Q2)} (h : LR K H p rss) (e : Same H H') : LR K H' p rss := by
  obtain ⟨us, h1, h2⟩ := h
  exact ⟨us, e _ _ h1, h2.imp fun _ _ _ => RowV.same e⟩
/-! ### sums hour by hour -/
def colP (rss : List (List Q2)) (pl : Nat) : List Q2 := rss.map fun r => itemP r pl
def gnM (xs : List Q2) : List Q2 := (List.range xs.length).map fun t => sumP (xs.take (t + 1))
theorem gnM_len (xs : List Q2) : (gnM xs).length = xs.length := by unfold gnM; simp
theorem gnM_at {xs : List Q2} {t : Nat} (h : t < xs.length) : (gnM xs)[t]? = some (sumP (xs.take (t + 1))) := by
  unfold gnM
  rw [List.getElem?_map, List.getElem?_range h]
  rfl
theorem gnM_take {xs : List Q2} {t : Nat} (h : t < xs.length) : (gnM xs).take (t + 1) = (gnM xs).take t ++ [sumP (xs.take (t + 1))] := by
  rw [List.take_add_one, gnM_at h]
  rfl
theorem gnM_all (xs : List Q2) : (gnM xs).take xs.length = gnM xs := List.take_of_length_le (by rw [gnM_len]; exact Nat.le_refl _)
theorem ok01 : Ok 1 ((0, 1) : Q2) := ⟨by decide, by unfold Bd; decide, by unfold Bd; decide⟩
theorem sum_ok {xs : List Q2} (h : AllOk 26 xs) : ∀ i, i ≤ xs.length → Ok (1 + 27 * i) (sumP (xs.take i)) ∧ Low (sumP (xs.take i)).1 (sumP (xs.take i)).2
  | 0, _ => ⟨ok01, sumP_low0⟩
  | i + 1, hi => by
    obtain ⟨o, l⟩ := sum_ok h i (by omega)
    have e : xs[i]? = some xs[i] := List.getElem?_eq_getElem (by omega)
    have hx := h _ (List.mem_of_getElem? e)
    rw [sumP_take e]
    exact ⟨(addP_ok o hx.1).mono (by omega), addP_low o.pos hx.1.pos⟩
theorem gnM_ok {xs : List Q2} (h : AllOk 26 xs) (hl : xs.length ≤ 61) : AllOk 1700 (gnM xs) := fun y hy => by
  unfold gnM at hy
  obtain ⟨t, ht, rfl⟩ := List.mem_map.1 hy
  have ht := List.mem_range.1 ht
  obtain ⟨o, l⟩ := sum_ok h (t + 1) (by omega)
  exact ⟨o.mono (by omega), l⟩
/-! ### the first hour with at least so many -/
def ceilP (x : Q2) : Int := -(-x.1 / x.2)
def floorP (x : Q2) : Int := x.1 / x.2
def firstK (cs : List Int) (k : Int) : Option Nat := (List.range cs.length).find? fun t => decide (k ≤ cs.getD t 0)
def oV : Option Nat → V
  | none => .non
  | some i => .int i
def oD : Option Nat → PyData
  | none => .none
  | some i => .int i
theorem firstK_some {cs : List Int} {k : Int} {i : Nat} (hi : i < cs.length) (h : k ≤ cs.getD i 0) (b : ∀ j, j < i → ¬ k ≤ cs.getD j 0) : firstK cs k = some i := by
  unfold firstK
  rw [List.find?_range_eq_some]
  exact ⟨by simpa using h, List.mem_range.2 hi, fun j hj => by simpa using b j hj⟩
theorem firstK_none {cs : List Int} {k : Int} (b : ∀ j, j < cs.length → ¬ k ≤ cs.getD j 0) : firstK cs k = none := by
  unfold firstK
  rw [List.find?_range_eq_none]
  intro j hj
  simpa using b j hj
theorem le_ceil {x : Q2} (h : 0 < x.2) (k : Int) : k ≤ ceilP x ↔ (k - 1) * x.2 < x.1 := by
  have e : ceilP x < k ↔ x.1 ≤ (k - 1) * x.2 := by
    unfold ceilP
    have e1 : -(-x.1 / x.2) < k ↔ -(k - 1) ≤ -x.1 / x.2 := by omega
    rw [e1, Int.le_ediv_iff_mul_le h, Int.neg_mul]
    omega
  omega
theorem le_floor {x : Q2} (h : 0 < x.2) (k : Int) : k ≤ floorP x ↔ k * x.2 ≤ x.1 := by
  unfold floorP
  exact Int.le_ediv_iff_mul_le h
/-- the windows of one field -/
abbrev Wn := Nat × Nat × Option Nat × Option Nat
def winP (xs : List Q2) (pl : Nat) : List Wn := (List.range (ceilP (sumP xs)).toNat).map fun j => (pl, j + 1, firstK ((gnM xs).map ceilP) ((j : Int) + 1), firstK ((gnM xs).map floorP) ((j : Int) + 1))
def winA (rss : List (List Q2)) (n : Nat) : List Wn := (List.range n).flatMap fun pl => winP (colP rss pl) pl
theorem winA_succ (rss : List (List Q2)) (n : Nat) : winA rss (n + 1) = winA rss n ++ winP (colP rss n) n := by
  unfold winA
  rw [List.range_succ, List.flatMap_append]
  simp
/-- shares from nought to one -/
def Unit01 (xs : List Q2) : Prop := ∀ x ∈ xs, 0 < x.2 ∧ 0 ≤ val x ∧ val x ≤ 1
theorem Unit01.pos {xs : List Q2} (h : Unit01 xs) : AllPos xs := fun x hx => (h x hx).1
theorem worth_take_le {xs : List Q2} (h : Unit01 xs) (t : Nat) : worth (xs.take t) ≤ worth xs := by
  have e : worth xs = worth (xs.take t) + worth (xs.drop t) := by rw [← worth_app, List.take_append_drop]
  have nn : ∀ ys : List Q2, (∀ y ∈ ys, 0 ≤ val y) → 0 ≤ worth ys := by
    intro ys
    induction ys with
    | nil => intro _; exact Rat.le_refl
    | cons y ys ih =>
      intro hy
      rw [worth_cons]
      have a := hy y (by simp)
      have b := ih fun z hz => hy z (by simp [hz])
      grind
  have := nn (xs.drop t) fun y hy => (h y (List.mem_of_mem_drop hy)).2.1
  grind
theorem worth_nn {xs : List Q2} (h : Unit01 xs) : 0 ≤ worth xs := by
  have := worth_take_le h 0
  exact this
theorem worth_le_len : ∀ {xs : List Q2}, Unit01 xs → worth xs ≤ (xs.length : Rat)
  | [], _ => by show (0 : Rat) ≤ ((0 : Nat) : Rat); simp
  | x :: xs, h => by
    rw [worth_cons, List.length_cons]
    have a := (h x (by simp)).2.2
    have b := worth_le_len (xs := xs) fun z hz => h z (by simp [hz])
    have c : ((xs.length + 1 : Nat) : Rat) = (xs.length : Rat) + 1 := by simp
    grind
theorem above_iff {x : Q2} (h : 0 < x.2) (k : Int) : k ≤ ceilP x ↔ ((k - 1 : Int) : Rat) < val x := by
  rw [le_ceil h]
  have e := val_lt (x := (k - 1, 1)) (y := x) (show (0 : Int) < 1 by decide) h
  have v : val (k - 1, 1) = ((k - 1 : Int) : Rat) := by
    show ((k - 1 : Int) : Rat) / ((1 : Int) : Rat) = _
    rw [show ((1 : Int) : Rat) = 1 from rfl, Rat.div_def, show (1 : Rat)⁻¹ = 1 from by decide +kernel, Rat.mul_one]
  rw [v] at e
  rw [← e]
  simp
theorem sum_pos {xs : List Q2} (h : AllPos xs) : 0 < (sumP xs).2 := (fold_worth xs (0, 1) (by decide) h).2
theorem take_pos {xs : List Q2} (h : AllPos xs) (t : Nat) : AllPos (xs.take t) := fun x hx => h x (List.mem_of_mem_take hx)
/-- no hour has more than the last -/
theorem ceil_mono {xs : List Q2} (h : Unit01 xs) (t : Nat) {k : Int} (hk : k ≤ ceilP (sumP (xs.take t))) : k ≤ ceilP (sumP xs) := by
  rw [above_iff (sum_pos (take_pos h.pos t)), sumP_worth (take_pos h.pos t)] at hk
  rw [above_iff (sum_pos h.pos), sumP_worth h.pos]
  have := worth_take_le h t
  grind
theorem ceil_le {xs : List Q2} (h : Unit01 xs) : ceilP (sumP xs) ≤ xs.length := by
  apply Int.not_lt.1
  intro hc
  have e : ((xs.length : Int) + 1) ≤ ceilP (sumP xs) := hc
  rw [above_iff (sum_pos h.pos), sumP_worth h.pos] at e
  have := worth_le_len h
  have c : (((xs.length : Int) + 1 - 1 : Int) : Rat) = (xs.length : Rat) := by
    rw [show ((xs.length : Int) + 1 - 1) = (xs.length : Int) by omega]
    exact Rat.intCast_natCast _
  rw [c] at e
  grind
theorem ceil_nn {xs : List Q2} (h : Unit01 xs) : 0 ≤ ceilP (sumP xs) := by
  rw [above_iff (sum_pos h.pos), sumP_worth h.pos]
  have := worth_nn h
  have c : ((0 - 1 : Int) : Rat) < 0 := by decide +kernel
  grind
end DT
namespace DT
open PySem PySem.Spec PyProof.Rows L2
theorem col_at {rss : List (List Q2)} {pl i : Nat} {r : List Q2} (h : rss[i]? = some r) : (colP rss pl)[i]? = some (itemP r pl) := by
  unfold colP
  rw [List.getElem?_map, h]
  rfl
theorem col_len (rss : List (List Q2)) (pl : Nat) : (colP rss pl).length = rss.length := by unfold colP; simp
theorem col_ok {rss : List (List Q2)} {pl : Nat} (h : ∀ r ∈ rss, AllOk 26 r ∧ pl < r.length) : AllOk 26 (colP rss pl) := fun x hx => by
  unfold colP at hx
  obtain ⟨r, hr, rfl⟩ := List.mem_map.1 hx
  exact item_ok (h r hr).1 (h r hr).2
theorem atI_last {α : Type} {xs : List α} {v : α} (h : xs[xs.length - 1]? = some v) : atI xs (-1) = some v := by
  have hl := (List.getElem?_eq_some_iff.1 h).1
  unfold atI ixN
  rw [if_neg (by decide), if_pos (by omega)]
  show xs[(-1 + (xs.length : Int)).toNat]? = _
  rw [show (-1 + (xs.length : Int)).toNat = xs.length - 1 by omega]
  exact h
theorem gnM_last {xs : List Q2} (h : 0 < xs.length) : (gnM xs)[(gnM xs).length - 1]? = some (sumP xs) := by
  rw [gnM_len, gnM_at (by omega), Nat.sub_add_cancel h, List.take_of_length_le (Nat.le_refl _)]
theorem map_take_succ {α β : Type} {xs : List α} {i : Nat} {x : α} (f : α → β) (h : xs[i]? = some x) : (xs.take (i + 1)).map f = (xs.take i).map f ++ [f x] := by
  rw [List.take_add_one, h, List.map_append]
  rfl
theorem getD_at {cs : List Int} {i : Nat} {c : Int} (h : cs[i]? = some c) : cs.getD i 0 = c := by
  rw [List.getD, h]
  rfl
theorem winP_len {rss : List (List Q2)} {pl : Nat} (hl : rss.length ≤ 61) (h : Unit01 (colP rss pl)) : (winP (colP rss pl) pl).length ≤ 61 := by
  unfold winP
  rw [List.length_map, List.length_range]
  have := ceil_le h
  rw [col_len] at this
  omega
theorem winA_len {rss : List (List Q2)} {n : Nat} (hl : rss.length ≤ 61) (h : ∀ pl, pl < n → Unit01 (colP rss pl)) : ∀ i, i ≤ n → (winA rss i).length ≤ 61 * i
  | 0, _ => Nat.le_refl _
  | i + 1, hi => by
    rw [winA_succ, List.length_append]
    have a := winA_len hl h i (by omega)
    have b := winP_len hl (h i (by omega))
    omega
/-- a window as a tuple -/
def WnV (K : PySem.W.Frag) (H : Hp) (v : V) (w : Wn) : Prop := ∃ t, v = .ref t ∧ SqT K H t [.int w.1, .int w.2.1, oV w.2.2.1, oV w.2.2.2]
def LW (K : PySem.W.Frag) (H : Hp) (p : Addr) (ws : List Wn) : Prop := ∃ us, H p = some (.lst us) ∧ Al (WnV K H) us ws
theorem WnV.same {K : PySem.W.Frag} {H H' : Hp} {v : V} {w : Wn} (e : Same H H') (h : WnV K H v w) : WnV K H' v w := by
  obtain ⟨t, rfl, h⟩ := h
  exact ⟨t, rfl, same_seqT e h⟩
theorem sqT_off {K : PySem.W.Frag} {H H' : Hp} {t D : Addr} {xs us : List V} (h : SqT K H t xs) (e : ∀ b o, H b = some o → b ≠ D → H' b = some o) (hD : H D = some (.lst us)) : SqT K H' t xs := by
  rcases h with (h | ⟨o, h⟩) | h
  · exact .inl (.inl (e _ _ h fun z => by rw [z, hD] at h; cases h))
  · exact .inl (.inr ⟨o, e _ _ h fun z => by rw [z, hD] at h; cases h⟩)
  · exact .inr h
theorem WnV.off {K : PySem.W.Frag} {H : Hp} {v : V} {w : Wn} {D : Addr} {us vs : List V} (hD : H D = some (.lst us)) (h : WnV K H v w) : WnV K (upd H D (.lst vs)) v w := by
  obtain ⟨t, rfl, h⟩ := h
  exact ⟨t, rfl, sqT_off h (fun b o e nb => by rw [upd_ne nb]; exact e) hD⟩
theorem WnV.new {K : PySem.W.Frag} {H : Hp} {t : Addr} {w : Wn} : WnV K (upd H t (.tup [.int w.1, .int w.2.1, oV w.2.2.1, oV w.2.2.2])) (.ref t) w := ⟨t, rfl, SqT.of upd_same⟩
theorem LW.same {K : PySem.W.Frag} {H H' : Hp} {p : Addr} {ws : List Wn} (h : LW K H p ws) (e : Same H H') : LW K H' p ws := by
  obtain ⟨us, h1, h2⟩ := h
  exact ⟨us, e _ _ h1, h2.imp fun _ _ _ => WnV.same e⟩
/-- a window put behind the others -/
theorem wn_grow {K : PySem.W.Frag} {H : Hp} {D : Addr} {us : List V} {v : V} {ws : List Wn} {w : Wn} (hD : H D = some (.lst us)) (h : Al (WnV K H) us ws) (k : WnV K H v w) : Al (WnV K (upd H D (.lst (us ++ [v])))) (us ++ [v]) (ws ++ [w]) :=
  (h.snoc k).imp fun _ _ _ z => z.off hD
def sp_gains (K : PySem.W.Frag) : Sp := fun vs H Q _ => ∃ (p : Addr) (pl : Nat) (rss : List (List Q2)), vs = [.ref p, .int pl] ∧ LR K H p rss ∧ rss.length ≤ 61 ∧ (∀ r ∈ rss, AllOk 26 r ∧ pl < r.length) ∧ ∀ H' q, Same H H' → H q = none → LP K H' q (gnM (colP rss pl)) → Q (.ref q) H'
def sp_first_hour (K : PySem.W.Frag) : Sp := fun vs H Q _ => ∃ (p : Addr) (cs : List Int) (k : Int), vs = [.ref p, .int k] ∧ H p = some (.lst (cs.map V.int)) ∧ ∀ H', Same H H' → Q (oV (firstK cs k)) H'
def sp_field_windows (K : PySem.W.Frag) : Sp := fun vs H Q _ => ∃ (p : Addr) (pl : Nat) (rss : List (List Q2)), vs = [.ref p, .int pl] ∧ LR K H p rss ∧ 0 < rss.length ∧ rss.length ≤ 61 ∧ (∀ r ∈ rss, AllOk 26 r ∧ pl < r.length) ∧ Unit01 (colP rss pl) ∧ ∀ H' q, Same H H' → H q = none → LW K H' q (winP (colP rss pl) pl) → Q (.ref q) H'
def sp_windows (K : PySem.W.Frag) : Sp := fun vs H Q _ => ∃ (p : Addr) (n : Nat) (rss : List (List Q2)), vs = [.ref p] ∧ LR K H p rss ∧ rss.length ≤ 61 ∧ n ≤ 24 ∧ (∀ r ∈ rss, AllOk 26 r ∧ r.length = n) ∧ (∀ pl, pl < n → Unit01 (colP rss pl)) ∧ ∀ H' q, Same H H' → H q = none → LW K H' q (if rss = [] then [] else winA rss n) → Q (.ref q) H'
end DT
namespace DT
open PySem PySem.Spec PyProof.Rows L2
def sp_season (K : PySem.W.Frag) : Sp := fun vs H Q _ => ∃ (pr : Addr) (rs : List Int), vs = [.ref pr] ∧ H pr = some (.lst (rs.map V.int)) ∧ rs.length = 440 ∧ (∀ r ∈ rs, 0 ≤ r ∧ r < 1000000) ∧
  ∀ H' pt pR (n : Nat) (wss : List (List Int)), Same H H' → SqT K H' pt [.int (n : Int), .ref pR] → 1 ≤ n → n ≤ 12 → wss.length ≤ 60 → (∀ ws ∈ wss, WsOk n ws) → LR K H' pR (wss.map sharesOf) → Q (.ref pt) H'
/-- the rows lie at other places than D -/
theorem RowV.off {K : PySem.W.Frag} {H : Hp} {v : V} {r : List Q2} {D : Addr} {us vs : List V} (hD : H D = some (.lst us)) (n : v ≠ .ref D) (h : RowV K H v r) : RowV K (upd H D (.lst vs)) v r := by
  obtain ⟨q, rfl, h⟩ := h
  exact ⟨q, rfl, h.off hD fun z => n (by rw [z])⟩
theorem rows_grow {K : PySem.W.Frag} {H : Hp} {D : Addr} {us : List V} {v : V} {rss : List (List Q2)} {r : List Q2} (hD : H D = some (.lst us)) (h : Al (RowV K H) us rss) (nd : ∀ u ∈ us, u ≠ .ref D) (k : RowV K H v r) (nv : v ≠ .ref D) :
    Al (RowV K (upd H D (.lst (us ++ [v])))) (us ++ [v]) (rss ++ [r]) ∧ ∀ u ∈ us ++ [v], u ≠ .ref D := by
  have nd' : ∀ u ∈ us ++ [v], u ≠ .ref D := fun u hu => by
    rcases List.mem_append.1 hu with hu | hu
    · exact nd u hu
    · rw [List.mem_singleton.1 hu]; exact nv
  exact ⟨(h.snoc k).imp fun _ _ hu z => z.off hD (nd' _ hu), nd'⟩
end DT
namespace DT
open PySem PySem.Spec PyProof.Rows L2
/-- the gains of all fields behind so many hours -/
def nowM (rss : List (List Q2)) (n i : Nat) : List Q2 := (List.range n).map fun pl => sumP ((colP rss pl).take i)
def gnR (rss : List (List Q2)) (n : Nat) : List (List Q2) := (List.range rss.length).map fun t => nowM rss n (t + 1)
theorem nowM_len (rss : List (List Q2)) (n i : Nat) : (nowM rss n i).length = n := by unfold nowM; simp
theorem nowM_at {rss : List (List Q2)} {n i pl : Nat} (h : pl < n) : (nowM rss n i)[pl]? = some (sumP ((colP rss pl).take i)) := by
  unfold nowM
  rw [List.getElem?_map, List.getElem?_range h]
  rfl
theorem nowM_zero (rss : List (List Q2)) (n : Nat) : nowM rss n 0 = List.replicate n (0, 1) := by
  unfold nowM
  apply List.ext_getElem?
  intro i
  rw [List.getElem?_map, List.getElem?_replicate]
  by_cases h : i < n
  · rw [List.getElem?_range h, if_pos h]; rfl
  · rw [List.getElem?_eq_none (by simp; omega), if_neg h]; rfl
theorem nowM_succ {rss : List (List Q2)} {n i : Nat} {r : List Q2} (e : rss[i]? = some r) (hl : r.length = n) : List.zipWith addP (nowM rss n i) r = nowM rss n (i + 1) := by
  apply List.ext_getElem?
  intro j
  by_cases h : j < n
  · rw [nowM_at h, List.getElem?_zipWith, nowM_at h, item_some (show j < r.length by omega)]
    show some (addP _ _) = _
    rw [sumP_take (col_at e)]
  · rw [List.getElem?_eq_none (by rw [List.length_zipWith, nowM_len]; omega), List.getElem?_eq_none (by rw [nowM_len]; omega)]
theorem nowM_ok {rss : List (List Q2)} {n i : Nat} (hb : ∀ r ∈ rss, AllOk 26 r ∧ r.length = n) (hi : i ≤ rss.length) : AllOk (1 + 27 * i) (nowM rss n i) := fun y hy => by
  unfold nowM at hy
  obtain ⟨pl, hp, rfl⟩ := List.mem_map.1 hy
  have hp := List.mem_range.1 hp
  exact sum_ok (col_ok fun r hr => ⟨(hb r hr).1, by rw [(hb r hr).2]; exact hp⟩) i (by rw [col_len]; exact hi)
theorem gnR_take {rss : List (List Q2)} {n i : Nat} (h : i < rss.length) : (gnR rss n).take (i + 1) = (gnR rss n).take i ++ [nowM rss n (i + 1)] := by
  have e : (gnR rss n)[i]? = some (nowM rss n (i + 1)) := by
    unfold gnR
    rw [List.getElem?_map, List.getElem?_range h]
    rfl
  rw [List.take_add_one, e]
  rfl
theorem gnR_len (rss : List (List Q2)) (n : Nat) : (gnR rss n).length = rss.length := by unfold gnR; simp
theorem rep1 {i : Nat} {α : Type} (x : α) : List.replicate (i + 1) x = List.replicate i x ++ [x] := List.replicate_succ'
def sp_lgains (K : PySem.W.Frag) : Sp := fun vs H Q _ => ∃ (p : Addr) (n : Nat) (rss : List (List Q2)), vs = [.ref p, .int n] ∧ LR K H p rss ∧ rss.length ≤ 61 ∧ n ≤ 24 ∧ (∀ r ∈ rss, AllOk 26 r ∧ r.length = n) ∧ ∀ H' q, Same H H' → H q = none → LR K H' q (gnR rss n) → Q (.ref q) H'
end DT
namespace DT
open PySem PySem.Spec PyProof.Rows L2
/-- all but the list at D stays -/
def Sb (D : Addr) (H H' : Hp) : Prop := ∀ b o, H b = some o → b ≠ D → H' b = some o
theorem Sb.of {D : Addr} {H H' : Hp} (s : Same H H') : Sb D H H' := fun b o e _ => s b o e
theorem Sb.trans {D : Addr} {H H1 H2 : Hp} (a : Sb D H H1) (b : Sb D H1 H2) : Sb D H H2 := fun c o e n => b c o (a c o e n) n
theorem Sb.put {D : Addr} {H : Hp} {o : HO} : Sb D H (upd H D o) := fun b x e n => by rw [upd_ne n]; exact e
theorem Pps.sb {K : PySem.W.Frag} {D : Addr} {H H' : Hp} {vs us : List V} {xs : List Q2} (h : Pps K H vs xs) (s : Sb D H H') (hD : H D = some (.lst us)) : Pps K H' vs xs := h.off s hD
theorem LP.sb {K : PySem.W.Frag} {D p : Addr} {H H' : Hp} {us : List V} {xs : List Q2} (h : LP K H p xs) (s : Sb D H H') (hD : H D = some (.lst us)) (n : p ≠ D) : LP K H' p xs := by
  obtain ⟨vs, e, h⟩ := h
  exact ⟨vs, s _ _ e n, h.off s hD⟩
theorem cut_one (vs : List V) : cutV vs none (some 1) = vs.take 1 := by
  unfold cutV
  rw [HT.sIx_none, show (1 : Int) = ((1 : Nat) : Int) from rfl, HT.sIx_nat, List.drop_zero, Nat.sub_zero]
  by_cases h : vs = []
  · subst h; rfl
  · have : 0 < vs.length := List.length_pos_iff.2 h
    rw [Nat.min_eq_left this]
def upK (cs : List Int) (k : Int) (t : Nat) : Bool := decide (k ≤ cs.getD t 0)
def fsK (cs : List Int) (k : Int) (j : Nat) : List Nat := (List.range j).filter (upK cs k)
theorem fsK_succ (cs : List Int) (k : Int) (j : Nat) : fsK cs k (j + 1) = if upK cs k j = true then fsK cs k j ++ [j] else fsK cs k j := by
  unfold fsK
  rw [List.range_succ, List.filter_append]
  by_cases h : upK cs k j = true
  · rw [if_pos h]; simp [h]
  · rw [if_neg h]; simp [h]
theorem fsK_head (cs : List Int) (k : Int) : (fsK cs k cs.length).head? = firstK cs k := by
  unfold fsK firstK upK
  rw [List.head?_filter]
def ntV (ts : List Nat) : List V := ts.map fun (t : Nat) => V.int (t : Int)
theorem take1 {α : Type} (l : List α) : l.take 1 = (match l.head? with | none => [] | some x => [x]) := by
  cases l with
  | nil => rfl
  | cons x l => rfl
theorem gn_getD {xs : List Q2} {f : Q2 → Int} {t : Nat} (h : t < xs.length) : ((gnM xs).map f).getD t 0 = f (sumP (xs.take (t + 1))) := by
  rw [List.getD, List.getElem?_map, gnM_at h]
  rfl
theorem winP_at {xs : List Q2} {pl i : Nat} (h : i < (ceilP (sumP xs)).toNat) : (winP xs pl)[i]? = some (pl, i + 1, firstK ((gnM xs).map ceilP) ((i : Int) + 1), firstK ((gnM xs).map floorP) ((i : Int) + 1)) := by
  unfold winP
  rw [List.getElem?_map, List.getElem?_range h]
  rfl
theorem winP_all (xs : List Q2) (pl : Nat) : (winP xs pl).length = (ceilP (sumP xs)).toNat := by unfold winP; simp
/-- the first hour is told just where k isn't above the last hour's -/
theorem first_is {xs : List Q2} (h : Unit01 xs) (k : Int) (h0 : 0 < xs.length) : (firstK ((gnM xs).map ceilP) k).isSome = decide (k ≤ ceilP (sumP xs)) := by
  have lm : ((gnM xs).map ceilP).length = xs.length := by rw [List.length_map, gnM_len]
  by_cases hk : k ≤ ceilP (sumP xs)
  · rw [decide_eq_true hk]
    cases e : firstK ((gnM xs).map ceilP) k with
    | some i => rfl
    | none =>
      unfold firstK at e
      rw [List.find?_range_eq_none] at e
      have := e (xs.length - 1) (by omega)
      rw [gn_getD (by omega), Nat.sub_add_cancel h0, List.take_of_length_le (Nat.le_refl _)] at this
      simp at this
      omega
  · rw [decide_eq_false hk, firstK_none]
    · rfl
    intro j hj
    rw [lm] at hj
    rw [gn_getD hj]
    exact fun z => hk (ceil_mono h (j + 1) z)
theorem winA_nil (n : Nat) : winA [] n = [] := by
  unfold winA
  rw [List.flatMap_eq_nil_iff]
  intro pl _
  rfl
def sp_lwindows (K : PySem.W.Frag) : Sp := fun vs H Q _ => ∃ (p : Addr) (n : Nat) (rss : List (List Q2)), vs = [.ref p, .int n] ∧ LR K H p rss ∧ rss.length ≤ 61 ∧ 1 ≤ n ∧ n ≤ 24 ∧ (∀ r ∈ rss, AllOk 26 r ∧ r.length = n) ∧ (∀ pl, pl < n → Unit01 (colP rss pl)) ∧ ∀ H' q, Same H H' → H q = none → LW K H' q (winA rss n) → Q (.ref q) H'
end DT
namespace DT
open PySem PySem.Spec PyProof.Rows L2
def oL : Option Nat → List V
  | none => []
  | some t => [.int t]
theorem nt_take {cs : List Int} {k : Int} {m : Nat} (h : cs.length = m) : (ntV (fsK cs k m)).take 1 = oL (firstK cs k) := by
  subst h
  unfold ntV
  rw [← List.map_take, take1, fsK_head]
  cases firstK cs k <;> rfl
def oLD : Option Nat → PyData
  | none => .list []
  | some t => .list [.int t]
theorem oL_dp {K : PySem.W.Frag} {H : Hp} {p : Addr} {o : Option Nat} (h : H p = some (.lst (oL o))) : Dp K H (.ref p) (oLD o) := by
  cases o with
  | none => exact .lst (SqL.of h) .nil
  | some t => exact .lst (SqL.of h) (.cons (.int _) .nil)
theorem oL_shp (o : Option Nat) : SeqAt.shaped (oLD o) = true := by cases o <;> rfl
theorem oL_eqv (o : Option Nat) : PyData.eqv (oLD o) (.list []) = o.isNone := by
  cases o with
  | none => rfl
  | some t => rfl
theorem fsK_len (cs : List Int) (k : Int) (j : Nat) : (fsK cs k j).length ≤ j := by
  unfold fsK
  exact Nat.le_trans (List.length_filter_le _ _) (by simp)
theorem nt_snoc (ts : List Nat) (t : Nat) : ntV (ts ++ [t]) = ntV ts ++ [.int (t : Int)] := by
  unfold ntV
  rw [List.map_append]
  rfl
end DT
namespace DT
open PySem PySem.Spec PyProof.Rows L2
theorem le_sum {ws : List Int} {w : Int} : (∀ x ∈ ws, 0 ≤ x) → w ∈ ws → w ≤ ws.sum ∧ 0 ≤ ws.sum := by
  induction ws with
  | nil => intro _ h; cases h
  | cons y ys ih =>
    intro h hw
    have hy := h y (by simp)
    have hs : 0 ≤ ys.sum := by
      clear ih hw
      have h' : ∀ x ∈ ys, 0 ≤ x := fun x hx => h x (by simp [hx])
      clear h hy
      induction ys with
      | nil => exact Int.le_refl _
      | cons z zs ih2 =>
        have a := h' z (by simp)
        have b := ih2 fun x hx => h' x (by simp [hx])
        rw [List.sum_cons]
        omega
    rw [List.sum_cons]
    rcases List.mem_cons.1 hw with rfl | hw
    · omega
    · have := (ih (fun x hx => h x (by simp [hx])) hw).1
      omega
theorem share_unit {n : Nat} {ws : List Int} (h : WsOk n ws) : ∀ x ∈ sharesOf ws, 0 < x.2 ∧ 0 ≤ val x ∧ val x ≤ 1 := fun x hx => by
  unfold sharesOf at hx
  obtain ⟨w, hw, rfl⟩ := List.mem_map.1 hx
  have hp := h.2.2.1
  have nn := (h.2.1 w hw).1
  have le := (le_sum (fun y hy => (h.2.1 y hy).1) hw).1
  have e : val (lowP w ws.sum) = val (w, ws.sum) := val_low hp
  refine ⟨(lowP_low hp).pos, ?_, ?_⟩
  · rw [e, ← val_zero']
    exact Rat.not_lt.1 fun z => by
      have := (val_lt (x := (w, ws.sum)) (y := (0, 1)) hp (by decide)).2 z
      simp at this
      omega
  · rw [e, ← val_one]
    exact Rat.not_lt.1 fun z => by
      have := (val_lt (x := (1, 1)) (y := (w, ws.sum)) (by decide) hp).2 z
      simp at this
      omega
theorem col_unit {n pl : Nat} {wss : List (List Int)} (h : ∀ ws ∈ wss, WsOk n ws) (hp : pl < n) : Unit01 (colP (wss.map sharesOf) pl) := fun x hx => by
  unfold colP at hx
  obtain ⟨r, hr, rfl⟩ := List.mem_map.1 hx
  obtain ⟨ws, hw, rfl⟩ := List.mem_map.1 hr
  have l : pl < (sharesOf ws).length := by rw [shares_len, (h ws hw).1]; exact hp
  exact share_unit (h ws hw) _ (List.mem_of_getElem? (item_some l))
/-! ### as data -/
def datW (w : Wn) : PyData := .tuple [.int w.1, .int w.2.1, oD w.2.2.1, oD w.2.2.2]
def datR (r : List Q2) : PyData := .list (r.map datP)
theorem oV_dp {K : PySem.W.Frag} {H : Hp} (o : Option Nat) : Dp K H (oV o) (oD o) := by
  cases o with
  | none => exact .non
  | some i => exact .int _
theorem WnV.dp {K : PySem.W.Frag} {H : Hp} {v : V} {w : Wn} (h : WnV K H v w) : Dp K H v (datW w) := by
  obtain ⟨t, rfl, h⟩ := h
  exact .tup h (.cons (.int _) (.cons (.int _) (.cons (oV_dp _) (.cons (oV_dp _) .nil))))
theorem RowV.dp {K : PySem.W.Frag} {H : Hp} {v : V} {r : List Q2} (h : RowV K H v r) : Dp K H v (datR r) := by
  obtain ⟨q, rfl, h⟩ := h
  exact h.dp
theorem al_dp {α : Type} {K : PySem.W.Frag} {H : Hp} {R : V → α → Prop} {f : α → PyData} (hf : ∀ v x, R v x → Dp K H v (f x)) : ∀ {us : List V} {xs : List α}, Al R us xs → DpAll K H us (xs.map f)
  | [], [], _ => .nil
  | u :: us, x :: xs, h => .cons (hf u x (h.2 0 u x rfl rfl)) (al_dp hf (us := us) (xs := xs) ⟨by have := h.1; simpa using this, fun i v y e1 e2 => h.2 (i + 1) v y e1 e2⟩)
  | [], _ :: _, h => by cases h.1
  | _ :: _, [], h => by cases h.1
theorem LW.dp {K : PySem.W.Frag} {H : Hp} {p : Addr} {ws : List Wn} (h : LW K H p ws) : Dp K H (.ref p) (.list (ws.map datW)) := by
  obtain ⟨us, e, h⟩ := h
  exact .lst (SqL.of e) (al_dp (f := datW) (fun _ _ => WnV.dp) h)
theorem LR.dp {K : PySem.W.Frag} {H : Hp} {p : Addr} {rss : List (List Q2)} (h : LR K H p rss) : Dp K H (.ref p) (.list (rss.map datR)) := by
  obtain ⟨us, e, h⟩ := h
  exact .lst (SqL.of e) (al_dp (f := datR) (fun _ _ => RowV.dp) h)
theorem plain_o (n : Nat) (o : Option Nat) : Plain n (oD o) := by
  cases n <;> cases o <;> trivial
theorem plain_w (w : Wn) : Plain 1 (datW w) := ⟨by show 4 ≤ 900; decide, fun d hd => by
  rcases List.mem_cons.1 hd with rfl | hd
  · trivial
  rcases List.mem_cons.1 hd with rfl | hd
  · trivial
  rcases List.mem_cons.1 hd with rfl | hd
  · exact plain_o 0 _
  · rw [List.mem_singleton.1 hd]; exact plain_o 0 _⟩
theorem plain_ws {ws : List Wn} (h : ws.length ≤ 900) : Plain 2 (.list (ws.map datW)) := ⟨by rw [List.length_map]; exact h, fun d hd => by
  obtain ⟨w, _, rfl⟩ := List.mem_map.1 hd
  exact plain_w w⟩
theorem lay_rs : ∀ rss : List (List Q2), PyData.canLayAll0 (rss.map datR) = true
  | [] => rfl
  | r :: rss => by
    have h1 := lay_ps r
    have h2 := lay_rs rss
    simp only [List.map_cons, PyData.canLayAll0, datR, PyData.canLay0, h1, Bool.true_and]
    exact h2
theorem dep_rs : ∀ rss : List (List Q2), PyData.depthAll (rss.map datR) ≤ 2
  | [] => Nat.zero_le _
  | r :: rss => by
    have h1 := dep_ps r
    have h2 := dep_rs rss
    simp only [List.map_cons, PyData.depthAll, datR, PyData.depth]
    omega
theorem shp_rs (rss : List (List Q2)) : SeqAt.shaped (.list (rss.map datR)) = true := by
  have h1 := lay_rs rss
  have h2 := dep_rs rss
  unfold SeqAt.shaped
  rw [Bool.and_eq_true]
  refine ⟨by simp only [PyData.canLay0, h1], decide_eq_true ?_⟩
  simp only [PyData.depth]
  omega
theorem eqv_rs : ∀ rss : List (List Q2), PyData.eqvAll (rss.map datR) (rss.map datR) = true
  | [] => rfl
  | r :: rss => by
    have h1 := eqv_psL r
    have h2 := eqv_rs rss
    simp only [List.map_cons, PyData.eqvAll, datR, h1, Bool.true_and]
    exact h2
theorem eqv_rsL (rss : List (List Q2)) : PyData.eqv (.list (rss.map datR)) (.list (rss.map datR)) = true := by
  have := eqv_rs rss
  simp only [PyData.eqv]
  exact this
end DT

namespace DT
open PySem PySem.Spec PyProof.Rows L2 TL
def topS (i : Nat) : Stmt := PySem.Challenge.pw_ditchturn_k41_windows_of_turns.main.body.getD i (.Pass ⟨0, 0, 0, 0⟩)
abbrev s_common : Stmt := topS 1
abbrev s_plus : Stmt := topS 2
abbrev s_floor_of : Stmt := topS 3
abbrev s_ceil_of : Stmt := topS 4
abbrev s_gains : Stmt := topS 6
abbrev s_first_hour : Stmt := topS 7
abbrev s_field_windows : Stmt := topS 8
abbrev s_windows : Stmt := topS 9
abbrev s__law_flow : Stmt := topS 11
abbrev s__law_whole : Stmt := topS 12
abbrev s__law_low : Stmt := topS 13
abbrev s__law_add : Stmt := topS 14
abbrev s__law_shares : Stmt := topS 15
abbrev s__law_many_fields : Stmt := topS 16
abbrev s__law_alike : Stmt := topS 17
abbrev s__law_season : Stmt := topS 18
abbrev s__law_gains : Stmt := topS 19
abbrev s__law_windows : Stmt := topS 20
abbrev s_law : Stmt := topS 21
/-- all that the text's top has written, by names -/
structure Env (K : PySem.W.Frag) (mg : Str → Option Value) where
  D_common : Df K mg "common" s_common ["a", "b"]
  D_plus : Df K mg "plus" s_plus ["a", "b"]
  D_floor_of : Df K mg "floor_of" s_floor_of ["a"]
  D_ceil_of : Df K mg "ceil_of" s_ceil_of ["a"]
  D_gains : Df K mg "gains" s_gains ["rows", "place"]
  D_first_hour : Df K mg "first_hour" s_first_hour ["counts", "k"]
  D_field_windows : Df K mg "field_windows" s_field_windows ["rows", "place"]
  D_windows : Df K mg "windows" s_windows ["rows"]
  D__law_flow : Df K mg "_law_flow" s__law_flow ["_law_script", "_law_many"]
  D__law_whole : Df K mg "_law_whole" s__law_whole ["_law_found"]
  D__law_low : Df K mg "_law_low" s__law_low ["_law_top", "_law_bottom"]
  D__law_add : Df K mg "_law_add" s__law_add ["_law_a", "_law_b"]
  D__law_shares : Df K mg "_law_shares" s__law_shares ["_law_row", "_law_n"]
  D__law_many_fields : Df K mg "_law_many_fields" s__law_many_fields ["_law_one", "_law_top"]
  D__law_alike : Df K mg "_law_alike" s__law_alike ["_law_found", "_law_due"]
  D__law_season : Df K mg "_law_season" s__law_season ["_law_row"]
  D__law_gains : Df K mg "_law_gains" s__law_gains ["_law_rows", "_law_n"]
  D__law_windows : Df K mg "_law_windows" s__law_windows ["_law_rows", "_law_n"]
  D_law : Df K mg "law" s_law ["_law_script"]
  m_abs : mg "abs" = none
  m_len : mg "len" = none
  m_range : mg "range" = none
  m_isinstance : mg "isinstance" = none
  m_int : mg "int" = none
  m_bool : mg "bool" = none
  m_tuple : mg "tuple" = none
  m_list : mg "list" = none
  m_all : mg "all" = none
  m_sum : mg "sum" = none
  m_min : mg "min" = none
  m_zip : mg "zip" = none
  m_enumerate : mg "enumerate" = none
  m_str : mg "str" = none
abbrev N_common : List Str := ["a", "b"]
theorem sc_common : FnScope N_common ["a", "b"] (defScope s_common) := ⟨rfl, rfl, rfl, by decide +kernel, rfl, by decide +kernel, by decide +kernel⟩
section
variable {P : Program} {w : World} {K : PySem.W.Frag} {mg : Str → Option Value} {base : Heap}
def sp_common : Sp := fun vs H Q _ => ∃ a b : Int, vs = [.int a, .int b] ∧ 0 < b ∧ Q (.int (gc a b)) H
theorem ok_common {k : Nat} (D : Df K mg "common" s_common ["a", "b"]) : FnOk P w K mg base CX0 (k + 1) D.f D.fd ["a", "b"] sp_common := by
  refine D.F.ok sc_common (fun vs H Q E h => ?_) (fun cdv A outer s H vs Q E hr h => ?_)
  · obtain ⟨a, b, rfl, _⟩ := h
    rfl
  · obtain ⟨a, b, rfl, hb, q⟩ := h
    refine ⟨_, (pss_cons (ps_while PassesOwn.never (pt_cmpR op_gt (pv 1) pe_int (nomark _)) (pss_one (ps_par (i := 0) (j := 1) (by rfl) sc_common.nd rfl rfl (by decide) rfl rfl (pa_cons (pv 1) (pa_cons (pe_op op_mod (pv 0) (pv 1)) pa_nil)) (by rfl))))
      (pss_one (ps_ret (pv 0)))), ?_⟩
    refine while_by (fun σ H' => ∃ x y : Int, σ = [some (.int x), some (.int y)] ∧ H' = H ∧ 0 ≤ y ∧ Int.gcd x y = Int.gcd a b ∧ (y = 0 → 0 ≤ x))
      (fun σ _ => match σ with | [_, some (.int y)] => y.toNat | _ => 0) ⟨a, b, rfl, rfl, by omega, rfl, by omega⟩ ?_ ?_
    · rintro σ H' ⟨x, y, rfl, rfl, h0, hg, hz⟩
      refine ⟨_, rfl, _, _, rfl, rfl, _, rfl, ite2 (fun e => ?_) (fun e => ?_)⟩
      · have e1 : 0 < y := of_decide_eq_true e
        refine ⟨_, rfl, _, rfl, _, rfl, _, _, rfl, rfl, e1, _, _, rfl, ⟨y, x % y, rfl, rfl, Int.emod_nonneg x (by omega), gc_step.trans hg, fun _ => by omega⟩, ?_⟩
        show (x % y).toNat < y.toNat
        have := Int.emod_lt_of_pos x e1
        have := Int.emod_nonneg x (show y ≠ 0 by omega)
        omega
      · have e1 : ¬ 0 < y := fun z => e (decide_eq_true z)
        have e2 : y = 0 := by omega
        subst e2
        refine ⟨_, rfl, ?_⟩
        have e3 : x = gc a b := by
          unfold gc
          rw [← hg, Int.gcd_zero]
          have := hz rfl
          omega
        rw [e3]
        exact q
    · rintro σ H' Q1 Q2 hq ⟨v, e, i, j, e1, e2, c, e3, r⟩
      exact ⟨v, e, i, j, e1, e2, c, e3, hq _ _ r⟩

end
abbrev N_plus : List Str := ["a", "b", "shared", "rest", "top", "again"]
theorem sc_plus : FnScope N_plus ["a", "b"] (defScope s_plus) := ⟨rfl, rfl, rfl, by decide +kernel, rfl, by decide +kernel, by decide +kernel⟩
section
variable {P : Program} {w : World} {K : PySem.W.Frag} {mg : Str → Option Value} {base : Heap}
theorem ok_plus {k : Nat} (D : Df K mg "plus" s_plus ["a", "b"]) (D_common : Df K mg "common" s_common ["a", "b"]) : FnOk P w K mg base CX0 (k + 2) D.f D.fd ["a", "b"] (sp_two K lowC addP) := by
  have G_common : FnOk P w K mg base CX0 1 D_common.f D_common.fd ["a", "b"] sp_common := ok_common D_common
  refine D.F.ok sc_plus (fun vs H Q E h => len_two h) (fun cdv A outer s H vs Q E hr h => ?_)
  obtain ⟨v, u, x, y, n, m, rfl, ⟨p, rfl, hp⟩, ⟨r, rfl, hq⟩, ox, oy, hn, ⟨lx, ly⟩, q⟩ := h
  refine ⟨_, (pss_cons (ps_set (i := 2) sc_plus.nd rfl (.inl rfl) (pe_call G_common (hr.mono (by omega)) (by rfl) D_common.g D_common.F.kp D_common.b .nil pass0 (pa_cons (pe_ix ix_tup (pv 0) pe_int (fun _ _ => rfl)) (pa_cons (pe_ix ix_tup (pv 1) pe_int (fun _ _ => rfl)) pa_nil))))
      (pss_cons (ps_set (i := 3) sc_plus.nd rfl (.inl rfl) (pe_op op_fdivW (pe_ix ix_tup (pv 0) pe_int (fun _ _ => rfl)) (pv 2)))
      (pss_cons (ps_set (i := 4) sc_plus.nd rfl (.inl rfl) (pe_op op_add (pe_op op_mulW (pe_ix ix_tup (pv 0) pe_int (fun _ _ => rfl)) (pe_op op_fdivW (pe_ix ix_tup (pv 1) pe_int (fun _ _ => rfl)) (pv 2))) (pe_op op_mulW (pe_ix ix_tup (pv 1) pe_int (fun _ _ => rfl)) (pv 3))))
      (pss_cons (ps_set (i := 5) sc_plus.nd rfl (.inl rfl) (pe_call G_common (hr.mono (by omega)) (by rfl) D_common.g D_common.F.kp D_common.b .nil pass0 (pa_cons (pv 4) (pa_cons (pv 2) pa_nil))))
      (pss_one (ps_ret (pe_tup (pa_cons (pe_op op_fdivW (pv 4) (pv 5)) (pa_cons (pe_op op_mulW (pv 3) (pe_op op_fdivW (pe_ix ix_tup (pv 1) pe_int (fun _ _ => rfl)) (pv 5))) pa_nil))))))))), ?_⟩
  have hs := gc_pos (a := x.2) oy.pos
  have bs := oy.bot.gc (x := x.2) oy.pos
  have br := ox.bot.div (gc_dl x.2 y.2)
  have bt := (ox.top.mul (oy.bot.div (gc_dr x.2 y.2))).add ((oy.top.mul br).mono (show m + n ≤ n + m by omega))
  have hg := gc_pos (a := x.1 * (y.2 / gc x.2 y.2) + y.1 * (x.2 / gc x.2 y.2)) hs
  have bg := bs.gc (x := x.1 * (y.2 / gc x.2 y.2) + y.1 * (x.2 / gc x.2 y.2)) hs
  have gd : gc (x.1 * (y.2 / gc x.2 y.2) + y.1 * (x.2 / gc x.2 y.2)) (gc x.2 y.2) ∣ y.2 := Int.dvd_trans (gc_dr _ _) (gc_dr _ _)
  refine ⟨_, rfl, p, _, 1, _, rfl, rfl, hp, rfl, _, rfl, r, _, 1, _, rfl, rfl, hq, rfl, _, _, rfl, oy.pos, ?_⟩
  refine ⟨_, rfl, p, _, 1, _, rfl, rfl, hp, rfl, _, rfl, _, _, rfl, rfl, bd_divok hs bs (by omega), ?_⟩
  refine ⟨_, rfl, p, _, 0, _, rfl, rfl, hp, rfl, _, rfl, r, _, 1, _, rfl, rfl, hq, rfl, _, rfl, _, _, rfl, rfl, bd_divok hs bs (by omega), _, _, rfl, rfl, bd_mulok ox.top (oy.bot.div (gc_dr x.2 y.2)) (by omega), _, rfl, r, _, 0, _, rfl, rfl, hq, rfl, _, rfl, _, _, rfl, rfl, bd_mulok oy.top br (by omega), _, _, rfl, rfl, ?_⟩
  refine ⟨_, rfl, _, rfl, _, _, rfl, hs, ?_⟩
  refine ⟨_, rfl, _, rfl, _, _, rfl, rfl, bd_divok hg bg (by omega), _, rfl, _, rfl, r, _, 1, _, rfl, rfl, hq, rfl, _, rfl, _, _, rfl, rfl, bd_divok hg bg (by omega), _, _, rfl, rfl, bd_mulok br (oy.bot.div gd) (by omega), (by show 2 ≤ sizeLine; decide), fun t ht => ?_⟩
  refine q _ _ (same_upd ht) ?_
  obtain ⟨e1, e2⟩ := plus_is lx ly
  show Pr K _ _ (addP x y).1 (addP x y).2
  unfold addP lowP
  dsimp only
  rw [← e1, ← e2]
  exact Pr.new

end
abbrev N_floor_of : List Str := ["a"]
theorem sc_floor_of : FnScope N_floor_of ["a"] (defScope s_floor_of) := ⟨rfl, rfl, rfl, by decide +kernel, rfl, by decide +kernel, by decide +kernel⟩
section
variable {P : Program} {w : World} {K : PySem.W.Frag} {mg : Str → Option Value} {base : Heap}
def sp_floor_of (K : PySem.W.Frag) : Sp := fun vs H Q _ => ∃ (v : V) (a b : Int), vs = [v] ∧ Pr K H v a b ∧ 0 < b ∧ Bd 8000 b ∧ Q (.int (a / b)) H
theorem ok_floor_of {k : Nat} (D : Df K mg "floor_of" s_floor_of ["a"]) : FnOk P w K mg base CX0 (k + 1) D.f D.fd ["a"] (sp_floor_of K) := by
  refine D.F.ok sc_floor_of (fun vs H Q E h => ?_) (fun cdv A outer s H vs Q E hr h => ?_)
  · obtain ⟨v, a, b, rfl, _⟩ := h
    rfl
  · obtain ⟨v, a, b, rfl, ⟨p, rfl, hp⟩, hb, hB, q⟩ := h
    refine ⟨_, (pss_one (ps_ret (pe_op op_fdivW (pe_ix ix_tup (pv 0) pe_int (fun _ _ => rfl)) (pe_ix ix_tup (pv 0) pe_int (fun _ _ => rfl))))), ?_⟩
    exact ⟨_, rfl, p, _, 0, _, rfl, rfl, hp, rfl, _, rfl, p, _, 1, _, rfl, rfl, hp, rfl, _, _, rfl, rfl, bd_divok hb hB (by decide), q⟩

end
abbrev N_ceil_of : List Str := ["a"]
theorem sc_ceil_of : FnScope N_ceil_of ["a"] (defScope s_ceil_of) := ⟨rfl, rfl, rfl, by decide +kernel, rfl, by decide +kernel, by decide +kernel⟩
section
variable {P : Program} {w : World} {K : PySem.W.Frag} {mg : Str → Option Value} {base : Heap}
def sp_ceil_of (K : PySem.W.Frag) : Sp := fun vs H Q _ => ∃ (v : V) (a b : Int), vs = [v] ∧ Pr K H v a b ∧ 0 < b ∧ Bd 8000 b ∧ Q (.int (-(-a / b))) H
theorem ok_ceil_of {k : Nat} (D : Df K mg "ceil_of" s_ceil_of ["a"]) : FnOk P w K mg base CX0 (k + 1) D.f D.fd ["a"] (sp_ceil_of K) := by
  refine D.F.ok sc_ceil_of (fun vs H Q E h => ?_) (fun cdv A outer s H vs Q E hr h => ?_)
  · obtain ⟨v, a, b, rfl, _⟩ := h
    rfl
  · obtain ⟨v, a, b, rfl, ⟨p, rfl, hp⟩, hb, hB, q⟩ := h
    refine ⟨_, (pss_one (ps_ret (pe_un un_neg (pe_op op_fdivW (pe_un un_neg (pe_ix ix_tup (pv 0) pe_int (fun _ _ => rfl))) (pe_ix ix_tup (pv 0) pe_int (fun _ _ => rfl)))))), ?_⟩
    exact ⟨_, rfl, p, _, 0, _, rfl, rfl, hp, rfl, _, rfl, _, rfl, p, _, 1, _, rfl, rfl, hp, rfl, _, _, rfl, rfl, bd_divok hb hB (by decide), _, rfl, q⟩

end
abbrev N_gains : List Str := ["rows", "place", "gain", "sums", "shares"]
theorem sc_gains : FnScope N_gains ["rows", "place"] (defScope s_gains) := ⟨rfl, rfl, rfl, by decide +kernel, rfl, by decide +kernel, by decide +kernel⟩
section
variable {P : Program} {w : World} {K : PySem.W.Frag} {mg : Str → Option Value} {base : Heap}
theorem ok_gains {k : Nat} (T : Env K mg) : FnOk P w K mg base CX0 (k + 3) T.D_gains.f T.D_gains.fd ["rows", "place"] (sp_gains K) := by
  have G_plus : FnOk P w K mg base CX0 2 T.D_plus.f T.D_plus.fd ["a", "b"] (sp_two K lowC addP) := ok_plus T.D_plus T.D_common
  refine T.D_gains.F.ok sc_gains (fun vs H Q E h => ?_) (fun cdv A outer s H vs Q E hr h => ?_)
  · obtain ⟨p, pl, rss, rfl, _⟩ := h
    rfl
  obtain ⟨p, pl, rss, rfl, ⟨us, ep, hA⟩, hl, hb, q⟩ := h
  have co := col_ok hb
  have cl := col_len rss pl
  refine ⟨_, (pss_cons (ps_set (i := 2) sc_gains.nd rfl (.inl rfl) (pe_tup (pa_cons pe_int (pa_cons pe_int pa_nil))))
      (pss_cons (ps_set (i := 3) sc_gains.nd rfl (.inl rfl) (pe_lst pa_nil))
      (pss_cons (ps_for PassesOwn.never rfl (pi_list (pv 0)) (pg_name (i := 4) sc_gains.nd rfl (.inl rfl)) (pss_cons (ps_set (i := 2) sc_gains.nd rfl (.inl rfl) (pe_call G_plus (hr.mono (by omega)) (by rfl) T.D_plus.g T.D_plus.F.kp T.D_plus.b .nil pass0 (pa_cons (pv 2) (pa_cons (pe_ix ix_list (pv 4) (pv 1) (fun _ _ => rfl)) pa_nil))))
      (pss_one (ps_expr (pe_bm PySem.F.plainAttrs_list PySem.F.slot_list_append PySem.F.type_list_append mt_append (pv 3) (pa_cons (pv 2) pa_nil))))))
      (pss_one (ps_ret (pv 3)))))), ?_⟩
  refine ⟨(by show 2 ≤ sizeLine; decide), fun t ht => ?_⟩
  have st := same_upd (o := .tup [.int 0, .int 1]) ht
  refine ⟨Nat.zero_le _, fun Ds hDs => ?_⟩
  have sD := same_upd (o := .lst []) hDs
  have nD : H Ds = none := st.free hDs
  refine ⟨_, rfl, p, rfl, ⟨_, SqL.of (sD _ _ (st _ _ ep))⟩, ?_⟩
  refine for_list (xs := us) (fun i σ H3 => ∃ (v : V) (y4 : Option V) (ws : List V), σ = [some (.ref p), some (.int (pl : Int)), some v, some (.ref Ds), y4] ∧ Pp K H3 v (sumP ((colP rss pl).take i)) ∧ H3 Ds = some (.lst ws) ∧ Pps K H3 ws ((gnM (colP rss pl)).take i) ∧ Same H H3)
    ⟨_, _, _, rfl, (Pr.new (K := K) (H := H) (p := t)).same sD, upd_same, .nil, st.trans sD⟩ (fun i σ H3 _ hW => ?_) (fun i x σ H3 hx hW => ?_) (fun σ H3 hW => ?_)
  · obtain ⟨_, _, _, _, _, _, _, sm⟩ := hW
    exact SqL.of (sm _ _ ep)
  · obtain ⟨v, y4, ws, rfl, hv, eD, hW, sm⟩ := hW
    obtain ⟨r, er, r', rfl, lr⟩ := hA.of hx
    have hi : i < rss.length := (List.getElem?_eq_some_iff.1 er).1
    have hrr := hb r (List.mem_of_getElem? er)
    obtain ⟨zs, ez, hz⟩ := lr.same sm
    obtain ⟨v1, g1, p1⟩ := pps_at hz (item_some hrr.2)
    have o1 := sum_ok co i (by omega)
    have o2 := item_ok hrr.1 hrr.2
    refine ⟨_, rfl, _, rfl, _, rfl, r', zs, _, v1, rfl, rfl, SqL.of ez, atI_nat g1, ?_⟩
    refine ⟨v, v1, _, _, 1 + 27 * i, 26, rfl, hv, p1, o1.1, o2.1, by omega, ⟨o1.2, o2.2⟩, fun H4 v4 s4 p4 => ?_⟩
    have eD4 := s4 _ _ eD
    have wl : ws.length = ((gnM (colP rss pl)).take i).length := hW.len
    rw [List.length_take, gnM_len, cl] at wl
    refine ⟨_, rfl, .inl ⟨rfl, _, SqL.of eD4⟩, _, rfl, Ds, ws, _, rfl, rfl, eD4, small1000 (by omega), ?_⟩
    have es : sumP ((colP rss pl).take (i + 1)) = addP (sumP ((colP rss pl).take i)) (itemP r pl) := sumP_take (col_at er)
    refine ⟨v4, _, _, rfl, ?_, upd_same, ?_, same_at nD (sm.trans s4)⟩
    · rw [es]
      exact p4.off (fun b o e nb => by rw [upd_ne nb]; exact e) eD4
    · rw [gnM_take (by omega), es]
      exact pps_grow eD4 (hW.same s4) p4
  · obtain ⟨v, y4, ws, rfl, hv, eD, hW, sm⟩ := hW
    rw [hA.1, ← cl, gnM_all] at hW
    exact ⟨_, rfl, q _ _ sm nD ⟨_, eD, hW⟩⟩

end
abbrev N_first_hour : List Str := ["counts", "k", "hour", "count"]
theorem sc_first_hour : FnScope N_first_hour ["counts", "k"] (defScope s_first_hour) := ⟨rfl, rfl, rfl, by decide +kernel, rfl, by decide +kernel, by decide +kernel⟩
section
variable {P : Program} {w : World} {K : PySem.W.Frag} {mg : Str → Option Value} {base : Heap}
theorem ok_first_hour {k : Nat} (T : Env K mg) : FnOk P w K mg base CX0 (k + 1) T.D_first_hour.f T.D_first_hour.fd ["counts", "k"] (sp_first_hour K) := by
  refine T.D_first_hour.F.ok sc_first_hour (fun vs H Q E h => ?_) (fun cdv A outer s H vs Q E hr h => ?_)
  · obtain ⟨p, cs, k, rfl, _⟩ := h
    rfl
  obtain ⟨p, cs, k, rfl, ep, q⟩ := h
  refine ⟨_, (pss_cons (ps_for PassesOwn.never rfl (pi_enum (by rfl) T.m_enumerate (pa_cons (pv 0) pa_nil)) (pg_tup rfl (pgs_cons (pg_name (i := 2) sc_first_hour.nd rfl (.inl rfl)) (pgs_cons (pg_name (i := 3) sc_first_hour.nd rfl (.inl rfl)) pgs_nil))) (pss_one (ps_if (pt_cmpR op_ge (pv 3) (pv 1) (nomark _)) (pss_one (ps_ret (pv 2))) pss_nil)))
      (pss_one (ps_ret pe_non))), ?_⟩
  refine ⟨_, rfl, p, _, rfl, SqL.of ep, ?_⟩
  refine for_it (walk_enum (xs := cs.map V.int)) (fun i σ H3 => ∃ y2 y3, σ = [some (.ref p), some (.int k), y2, y3] ∧ (∀ j, j < i → ¬ k ≤ cs.getD j 0) ∧ Same H H3) ⟨_, _, rfl, fun j hj => absurd hj (Nat.not_lt_zero _), Same.refl _⟩ (fun i σ H3 _ hW => ?_) (fun i x σ H3 H4 hi hW hy => ?_) (fun σ H3 hW => ?_)
  · obtain ⟨_, _, _, _, sm⟩ := hW
    exact SqL.of (sm _ _ ep)
  · obtain ⟨y2, y3, rfl, bef, sm⟩ := hW
    obtain ⟨T, x1, x2, rfl, nT, rfl, f1, f2⟩ := hy
    cases f1
    obtain ⟨c, hc, rfl⟩ := int_at f2
    have hil : i < cs.length := (List.getElem?_eq_some_iff.1 hc).1
    have st := same_upd (o := .tup [.int ((i : Nat) : Int), .int c]) nT
    refine ⟨T, _, rfl, SqT.of upd_same, rfl, _, _, rfl, _, _, rfl, rfl, ?_⟩
    refine ⟨_, rfl, _, rfl, _, _, rfl, rfl, _, rfl, ite2 (fun e => ?_) (fun e => ?_)⟩
    · have := q _ (sm.trans st)
      rw [firstK_some hil (by rw [getD_at hc]; simpa using e) bef] at this
      exact ⟨_, rfl, this⟩
    · refine ⟨_, _, rfl, fun j hj => ?_, sm.trans st⟩
      by_cases ej : j = i
      · subst ej
        rw [getD_at hc]
        simpa using e
      · exact bef j (by omega)
  · obtain ⟨y2, y3, rfl, bef, sm⟩ := hW
    rw [List.length_map] at bef
    have := q _ sm
    rw [firstK_none bef] at this
    exact this

end
abbrev N_field_windows : List Str := ["rows", "place", "sums", "may", "must", "gain", "k"]
theorem sc_field_windows : FnScope N_field_windows ["rows", "place"] (defScope s_field_windows) := ⟨rfl, rfl, rfl, by decide +kernel, rfl, by decide +kernel, by decide +kernel⟩
section
variable {P : Program} {w : World} {K : PySem.W.Frag} {mg : Str → Option Value} {base : Heap}
theorem ok_field_windows {k : Nat} (T : Env K mg) : FnOk P w K mg base CX0 (k + 4) T.D_field_windows.f T.D_field_windows.fd ["rows", "place"] (sp_field_windows K) := by
  have G_gains : FnOk P w K mg base CX0 3 T.D_gains.f T.D_gains.fd ["rows", "place"] (sp_gains K) := ok_gains T
  have G_floor_of : FnOk P w K mg base CX0 3 T.D_floor_of.f T.D_floor_of.fd ["a"] (sp_floor_of K) := ok_floor_of T.D_floor_of
  have G_ceil_of : FnOk P w K mg base CX0 3 T.D_ceil_of.f T.D_ceil_of.fd ["a"] (sp_ceil_of K) := ok_ceil_of T.D_ceil_of
  have G_first_hour : FnOk P w K mg base CX0 3 T.D_first_hour.f T.D_first_hour.fd ["counts", "k"] (sp_first_hour K) := ok_first_hour T
  refine T.D_field_windows.F.ok sc_field_windows (fun vs H Q E h => ?_) (fun cdv A outer s H vs Q E hr h => ?_)
  · obtain ⟨p, pl, rss, rfl, _⟩ := h
    rfl
  obtain ⟨p, pl, rss, rfl, lr, h0, hl, hb, hu, q⟩ := h
  have co := col_ok hb
  have cl := col_len rss pl
  have go := gnM_ok co (by omega)
  have gl := gnM_len (colP rss pl)
  refine ⟨_, (pss_cons (ps_set (i := 2) sc_field_windows.nd rfl (.inl rfl) (pe_call G_gains (hr.mono (by omega)) (by rfl) T.D_gains.g T.D_gains.F.kp T.D_gains.b .nil pass0 (pa_cons (pv 0) (pa_cons (pv 1) pa_nil))))
      (pss_cons (ps_set (i := 3) sc_field_windows.nd rfl (.inr rfl) (pe_lc (own := [("gain", 5)]) (g := gName 5) (tt := tYes) rfl sc_field_windows.nd (pi_list (pv 2)) (blkOk_by (N := N_field_windows) (sc := defScope s_field_windows) (by decide +kernel)) (fun _ _ _ _ _ => pg_name (i := 5) sc_field_windows.nd rfl (Or.inl rfl)) (fun _ _ _ _ _ => pts_nil) (fun _ _ _ _ _ => (pe_call G_ceil_of (hr.mono (by omega)) (by rfl) T.D_ceil_of.g T.D_ceil_of.F.kp T.D_ceil_of.b .nil pass0 (pa_cons (pv 5) pa_nil)))))
      (pss_cons (ps_set (i := 4) sc_field_windows.nd rfl (.inr rfl) (pe_lc (own := [("gain", 5)]) (g := gName 5) (tt := tYes) rfl sc_field_windows.nd (pi_list (pv 2)) (blkOk_by (N := N_field_windows) (sc := defScope s_field_windows) (by decide +kernel)) (fun _ _ _ _ _ => pg_name (i := 5) sc_field_windows.nd rfl (Or.inl rfl)) (fun _ _ _ _ _ => pts_nil) (fun _ _ _ _ _ => (pe_call G_floor_of (hr.mono (by omega)) (by rfl) T.D_floor_of.g T.D_floor_of.F.kp T.D_floor_of.b .nil pass0 (pa_cons (pv 5) pa_nil)))))
      (pss_one (ps_ret (pe_lc (own := [("k", 6)]) (g := gName 6) (tt := tYes) rfl sc_field_windows.nd (pi_range2 (by rfl) T.m_range (pa_cons pe_int (pa_cons (pe_op op_add (pe_ix ix_list (pv 3) (pe_un un_neg pe_int) (fun _ _ => rfl)) pe_int) pa_nil))) (blkOk_by (N := N_field_windows) (sc := defScope s_field_windows) (by decide +kernel)) (fun _ _ _ _ _ => pg_name (i := 6) sc_field_windows.nd rfl (Or.inl rfl)) (fun _ _ _ _ _ => pts_nil) (fun _ _ _ _ _ => (pe_tup (pa_cons (pv 1) (pa_cons (pv 6) (pa_cons (pe_call G_first_hour (hr.mono (by omega)) (by rfl) T.D_first_hour.g T.D_first_hour.F.kp T.D_first_hour.b .nil pass0 (pa_cons (pv 3) (pa_cons (pv 6) pa_nil))) (pa_cons (pe_call G_first_hour (hr.mono (by omega)) (by rfl) T.D_first_hour.g T.D_first_hour.F.kp T.D_first_hour.b .nil pass0 (pa_cons (pv 4) (pa_cons (pv 6) pa_nil))) pa_nil)))))))))))), ?_⟩
  refine ⟨_, rfl, _, rfl, p, pl, rss, rfl, lr, hl, hb, fun H1 Dg s1 nDg ⟨gs, eg, hg⟩ => ?_⟩
  have gsl := hg.len
  -- may
  refine ⟨_, rfl, Dg, rfl, ⟨_, SqL.of eg⟩, fun Dm hDm => ?_⟩
  have nDm : H Dm = none := s1.free hDm
  refine lc_list (xs := gs) (fun i H' => H' Dm = some (.lst ((((gnM (colP rss pl)).take i).map ceilP).map V.int)) ∧ Same H1 H') ⟨upd_same, same_upd hDm⟩ (fun i H' _ hW => SqL.of (hW.2 _ _ eg)) (fun i x H' hx hW => ?_) (fun H2 hW => ?_)
  · obtain ⟨eD, sm⟩ := hW
    obtain ⟨y, ey, py⟩ := pps_get hg hx
    have oy := go y (List.mem_of_getElem? ey)
    have hi := (List.getElem?_eq_some_iff.1 ey).1
    refine ⟨rfl, ?_⟩
    dsimp only [tYes]
    rw [if_pos rfl]
    refine ⟨_, rfl, x, y.1, y.2, rfl, py.same sm, oy.1.pos, oy.1.bot.mono (by decide), _, eD, small1000 (by simp; omega), ?_, same_at hDm sm⟩
    rw [upd_same, map_take_succ _ ey, List.map_append]
    rfl
  obtain ⟨em, s2⟩ := hW
  rw [hg.len, List.take_of_length_le (Nat.le_refl _)] at em
  -- must
  refine ⟨_, rfl, Dg, rfl, ⟨_, SqL.of (s2 _ _ eg)⟩, fun Dn hDn => ?_⟩
  refine lc_list (xs := gs) (fun i H' => H' Dn = some (.lst ((((gnM (colP rss pl)).take i).map floorP).map V.int)) ∧ Same H2 H') ⟨upd_same, same_upd hDn⟩ (fun i H' _ hW => SqL.of (hW.2 _ _ (s2 _ _ eg))) (fun i x H' hx hW => ?_) (fun H3 hW => ?_)
  · obtain ⟨eD, sm⟩ := hW
    obtain ⟨y, ey, py⟩ := pps_get hg hx
    have oy := go y (List.mem_of_getElem? ey)
    have hi := (List.getElem?_eq_some_iff.1 ey).1
    refine ⟨rfl, ?_⟩
    dsimp only [tYes]
    rw [if_pos rfl]
    refine ⟨_, rfl, x, y.1, y.2, rfl, (py.same s2).same sm, oy.1.pos, oy.1.bot.mono (by decide), _, eD, small1000 (by simp; omega), ?_, same_at hDn sm⟩
    rw [upd_same, map_take_succ _ ey, List.map_append]
    rfl
  obtain ⟨en, s3⟩ := hW
  rw [hg.len, List.take_of_length_le (Nat.le_refl _)] at en
  have em3 := s3 _ _ em
  -- the windows
  have cn := ceil_nn hu
  have cc := ceil_le hu
  have lastM : ((gnM (colP rss pl)).map ceilP).length - 1 < ((gnM (colP rss pl)).map ceilP).length := by rw [List.length_map]; omega
  have el : atI (((gnM (colP rss pl)).map ceilP).map V.int) (-1) = some (V.int (ceilP (sumP (colP rss pl)))) := by
    apply atI_last
    rw [List.length_map, List.length_map, List.getElem?_map, List.getElem?_map, gnM_last (by omega)]
    rfl
  refine ⟨_, rfl, _, rfl, Dm, _, _, _, rfl, rfl, SqL.of em3, el, _, _, rfl, rfl, 1, ceilP (sumP (colP rss pl)) + 1, rfl, ⟨by decide, by decide, by omega, by omega⟩, fun Dw hDw => ?_⟩
  have nDw : H Dw = none := ((s1.trans s2).trans s3).free hDw
  rw [show (ceilP (sumP (colP rss pl)) + 1 - 1).toNat = (ceilP (sumP (colP rss pl))).toNat by rw [Int.add_sub_cancel]]
  refine lc_range (lo := 1) (n := (ceilP (sumP (colP rss pl))).toNat) (fun i H' => ∃ us, H' Dw = some (.lst us) ∧ Al (WnV K H') us ((winP (colP rss pl) pl).take i) ∧ Same H3 H') ⟨[], upd_same, .nil, same_upd hDw⟩ (fun i H' hi hW => ?_) (fun H4 hW => ?_)
  · obtain ⟨us, eD, hV, sm⟩ := hW
    have wl : (winP (colP rss pl) pl).length = (ceilP (sumP (colP rss pl))).toNat := by unfold winP; simp
    have ul := hV.1
    rw [List.length_take, wl] at ul
    refine ⟨rfl, ?_⟩
    dsimp only [tYes]
    rw [if_pos rfl]
    refine ⟨_, rfl, _, rfl, _, rfl, _, rfl, Dm, _, _, rfl, sm _ _ em3, fun H5 s5 => ?_⟩
    refine ⟨_, rfl, _, rfl, Dn, _, _, rfl, s5 _ _ (sm _ _ en), fun H6 s6 => ?_⟩
    refine ⟨(by show 4 ≤ sizeLine; decide), fun t ht => ?_⟩
    have st := same_upd (o := .tup [.int (pl : Int), .int (1 + (i : Int)), oV (firstK ((gnM (colP rss pl)).map ceilP) (1 + (i : Int))), oV (firstK ((gnM (colP rss pl)).map floorP) (1 + (i : Int)))]) ht
    have sa := (s5.trans s6).trans st
    have eD2 := sa _ _ eD
    have ew : (winP (colP rss pl) pl)[i]? = some (pl, i + 1, firstK ((gnM (colP rss pl)).map ceilP) ((i : Int) + 1), firstK ((gnM (colP rss pl)).map floorP) ((i : Int) + 1)) := by
      unfold winP
      rw [List.getElem?_map, List.getElem?_range hi]
      rfl
    refine ⟨us, eD2, small1000 (by omega), us ++ [.ref t], upd_same, ?_, same_at hDw (sm.trans sa)⟩
    rw [List.take_add_one, ew]
    refine wn_grow eD2 (hV.imp fun _ _ _ => WnV.same sa) ⟨t, rfl, ?_⟩
    have e1 : (((i + 1 : Nat) : Int)) = 1 + (i : Int) := by omega
    rw [show ((i : Int) + 1) = 1 + (i : Int) by omega]
    show SqT K _ t [.int (pl : Int), .int ((i + 1 : Nat) : Int), _, _]
    rw [e1]
    exact SqT.of upd_same
  · obtain ⟨us, eD, hV, sm⟩ := hW
    have wl : (winP (colP rss pl) pl).length = (ceilP (sumP (colP rss pl))).toNat := by unfold winP; simp
    rw [← wl, List.take_of_length_le (Nat.le_refl _)] at hV
    exact q _ _ (((s1.trans s2).trans s3).trans sm) nDw ⟨us, eD, hV⟩

end
abbrev N_windows : List Str := ["rows", "found", "place"]
theorem sc_windows : FnScope N_windows ["rows"] (defScope s_windows) := ⟨rfl, rfl, rfl, by decide +kernel, rfl, by decide +kernel, by decide +kernel⟩
section
variable {P : Program} {w : World} {K : PySem.W.Frag} {mg : Str → Option Value} {base : Heap}
theorem ok_windows {k : Nat} (T : Env K mg) : FnOk P w K mg base CX0 (k + 5) T.D_windows.f T.D_windows.fd ["rows"] (sp_windows K) := by
  have G_field_windows : FnOk P w K mg base CX0 4 T.D_field_windows.f T.D_field_windows.fd ["rows", "place"] (sp_field_windows K) := ok_field_windows T
  refine T.D_windows.F.ok sc_windows (fun vs H Q E h => ?_) (fun cdv A outer s H vs Q E hr h => ?_)
  · obtain ⟨p, n, rss, rfl, _⟩ := h
    rfl
  obtain ⟨p, n, rss, rfl, lr, hl, hn, hb, hu, q⟩ := h
  obtain ⟨us, ep, hA⟩ := id lr
  refine ⟨_, (pss_cons (ps_set (i := 1) sc_windows.nd rfl (.inl rfl) (pe_lst pa_nil))
      (pss_cons (ps_if (pt_truth (pv 0) (by intro _; rfl)) (pss_one (ps_for PassesOwn.never rfl (pi_range1 (by rfl) T.m_range (pa_cons (pe_callB call_len_seq (by rfl) T.m_len PySem.boot_len (pa_cons (pe_ix ix_list (pv 0) pe_int (fun _ _ => rfl)) pa_nil)) pa_nil)) (pg_name (i := 2) sc_windows.nd rfl (.inl rfl)) (pss_one (ps_expr (pe_bm PySem.F.plainAttrs_list PySem.F.slot_list_extend PySem.F.type_list_extend mt_extend (pv 1) (pa_cons (pe_call G_field_windows (hr.mono (by omega)) (by rfl) T.D_field_windows.g T.D_field_windows.F.kp T.D_field_windows.b .nil pass0 (pa_cons (pv 0) (pa_cons (pv 2) pa_nil))) pa_nil)))))) pss_nil)
      (pss_one (ps_ret (pv 1))))), ?_⟩
  refine ⟨Nat.zero_le _, fun Dw hDw => ?_⟩
  have sD := same_upd (o := .lst []) hDw
  refine ⟨_, rfl, !us.isEmpty, .inl ⟨_, SqL.of (sD _ _ ep), rfl⟩, ?_⟩
  cases rss with
  | nil =>
    have e0 : us = [] := List.eq_nil_of_length_eq_zero hA.1
    subst e0
    refine iteF ⟨_, rfl, q _ _ sD hDw ⟨[], upd_same, ?_⟩⟩
    rw [if_pos rfl]
    exact .nil
  | cons r0 rs =>
    have hul : us.length = rs.length + 1 := hA.1
    obtain ⟨v0, e0, q0, rfl, l0⟩ := hA.at (i := 0) (x := r0) rfl
    obtain ⟨zs, ez, hz⟩ := l0.same sD
    have zl := hz.len
    have hr0 := hb r0 (by simp)
    have ne : us.isEmpty = false := by cases us with
      | nil => cases hul
      | cons _ _ => rfl
    rw [ne]
    refine iteT ?_
    refine ⟨_, rfl, p, us, 0, .ref q0, rfl, rfl, SqL.of (sD _ _ ep), atI_nat (j := 0) e0, q0, zs, rfl, .inl (SqL.of ez), (zs.length : Int), rfl, by omega, by omega, ?_⟩
    rw [show ((zs.length : Nat) : Int).toNat = n by rw [Int.toNat_natCast, zl]; exact hr0.2]
    refine for_range (lo := 0) (n := n) (fun i σ H3 => ∃ (y2 : Option V) (ws : List V), σ = [some (.ref p), some (.ref Dw), y2] ∧ H3 Dw = some (.lst ws) ∧ Al (WnV K H3) ws (winA (r0 :: rs) i) ∧ Same H H3) ⟨_, _, rfl, upd_same, .nil, sD⟩ (fun i σ H3 hi hW => ?_) (fun σ H3 hW => ?_)
    · obtain ⟨y2, ws, rfl, eD, hV, sm⟩ := hW
      refine ⟨_, rfl, .inl ⟨rfl, _, SqL.of eD⟩, _, rfl, _, rfl, p, i, r0 :: rs, ?_, lr.same sm, Nat.succ_pos _, hl, fun r hr => ⟨(hb r hr).1, by rw [(hb r hr).2]; exact hi⟩, hu i hi, fun H4 Df s4 nDf ⟨fs, ef, hf⟩ => ?_⟩
      · rw [Int.zero_add]
        rfl
      have eD4 := s4 _ _ eD
      have wl := winA_len hl hu i (by omega)
      have fl := winP_len hl (hu i hi)
      have l1 := hV.1
      have l2 := hf.1
      refine ⟨Dw, Df, ws, fs, rfl, rfl, eD4, ef, Nat.le_trans (show ws.length + fs.length ≤ 2000 by omega) (by decide), _, ws ++ fs, rfl, upd_same, ?_, same_at hDw (sm.trans s4)⟩
      rw [winA_succ]
      exact ((hV.imp fun _ _ _ => WnV.same s4).app hf).imp fun _ _ _ z => z.off eD4
    · obtain ⟨y2, ws, rfl, eD, hV, sm⟩ := hW
      refine ⟨_, rfl, q _ _ sm hDw ⟨ws, eD, ?_⟩⟩
      rw [if_neg (by intro z; cases z)]
      exact hV

end
abbrev N__law_flow : List Str := ["_law_script", "_law_many", "_law_great", "_law_row", "_law_k", "_law_cell", "_law_mixed"]
theorem sc__law_flow : FnScope N__law_flow ["_law_script", "_law_many"] (defScope s__law_flow) := ⟨rfl, rfl, rfl, by decide +kernel, rfl, by decide +kernel, by decide +kernel⟩
section
variable {P : Program} {w : World} {K : PySem.W.Frag} {mg : Str → Option Value} {base : Heap}
def rs0 (rs : List Int) (z : Int) : List Int := rs ++ [z]
def sp__law_flow (K : PySem.W.Frag) : Sp := fun vs H Q _ => ∃ (a : Addr) (ns : List Int) (m : Nat), vs = [.ref a, .int m] ∧ SqL K H a (ns.map V.int) ∧ ns.length ≤ 63 ∧ m ≤ 500 ∧
  ∀ H' v rs, Same H H' → Ls H' v rs → rs.length = m → (∀ r ∈ rs, 0 ≤ r ∧ r < 1000000) → Q v H'
theorem ok__law_flow {k : Nat} (D : Df K mg "_law_flow" s__law_flow ["_law_script", "_law_many"]) (m_abs : mg "abs" = none) (m_len : mg "len" = none) (m_range : mg "range" = none) :
    FnOk P w K mg base CX0 (k + 1) D.f D.fd ["_law_script", "_law_many"] (sp__law_flow K) := by
  refine D.F.ok sc__law_flow (fun vs H Q E h => ?_) (fun cdv A outer s H vs Q E hr h => ?_)
  · obtain ⟨a, ns, m, rfl, _⟩ := h
    rfl
  · obtain ⟨a, ns, m, rfl, hS, hlen, hm, q⟩ := h
    refine ⟨_, (pss_cons (ps_set (i := 2) sc__law_flow.nd rfl (.inl rfl) pe_int)
      (pss_cons (ps_if (PW.pt (pw_and (pt_cmpR op_gt (pe_callB call_len_seq (by rfl) m_len PySem.boot_len (pa_cons (pv 0) pa_nil)) pe_int (nomark _)) (pw_and1 (pt_cmpR op_ge (pe_callB call_abs (by rfl) m_abs boot_abs (pa_cons (pe_ix ix_list (pv 0) pe_int (fun _ _ => rfl)) pa_nil)) (pe_op op_pow pe_int pe_int) (nomark _))))) (pss_one (ps_set (i := 2) sc__law_flow.nd rfl (.inl rfl) (pe_op op_sub (pe_callB call_abs (by rfl) m_abs boot_abs (pa_cons (pe_ix ix_list (pv 0) pe_int (fun _ _ => rfl)) pa_nil)) (pe_op op_pow pe_int pe_int)))) pss_nil)
      (pss_cons (ps_set (i := 3) sc__law_flow.nd rfl (.inl rfl) (pe_lst pa_nil))
      (pss_cons (ps_for PassesOwn.never rfl (pi_range1 (by rfl) m_range (pa_cons (pv 1) pa_nil)) (pg_name (i := 4) sc__law_flow.nd rfl (.inl rfl)) (pss_one (ps_if (pt_cmpR op_gt (pv 2) pe_int (nomark _)) (pss_cons (ps_expr (pe_bm PySem.F.plainAttrs_list PySem.F.slot_list_append PySem.F.type_list_append mt_append (pv 3) (pa_cons (pe_op op_mod (pv 2) pe_int) pa_nil)))
      (pss_one (ps_set (i := 2) sc__law_flow.nd rfl (.inl rfl) (pe_op op_fdivW (pv 2) pe_int)))) (pss_cons (ps_set (i := 5) sc__law_flow.nd rfl (.inl rfl) (pe_op op_add (pv 4) pe_int))
      (pss_cons (ps_if (pt_cmpR op_gt (pe_callB call_len_seq (by rfl) m_len PySem.boot_len (pa_cons (pv 0) pa_nil)) pe_int (nomark _)) (pss_one (ps_set (i := 5) sc__law_flow.nd rfl (.inl rfl) (pe_ix ix_list (pv 0) (pe_op op_mod (pv 4) (pe_callB call_len_seq (by rfl) m_len PySem.boot_len (pa_cons (pv 0) pa_nil))) (fun _ _ => rfl)))) pss_nil)
      (pss_cons (ps_set (i := 6) sc__law_flow.nd rfl (.inl rfl) (pe_op op_mod (pe_op op_add (pe_op op_add (pe_op op_mul (pv 5) pe_int) (pe_op op_mul (pv 4) pe_int)) pe_int) pe_int))
      (pss_cons (ps_set (i := 6) sc__law_flow.nd rfl (.inl rfl) (pe_op op_mod (pe_op op_add (pe_op op_add (pe_op op_mul (pv 6) pe_int) (pe_op op_mul (pv 4) pe_int)) (pe_callB call_len_seq (by rfl) m_len PySem.boot_len (pa_cons (pv 0) pa_nil))) pe_int))
      (pss_one (ps_expr (pe_bm PySem.F.plainAttrs_list PySem.F.slot_list_append PySem.F.type_list_append mt_append (pv 3) (pa_cons (pe_op op_mod (pe_op op_fdivW (pv 6) pe_int) pe_int) pa_nil)))))))))))
      (pss_one (ps_ret (pv 3))))))), ?_⟩
    -- the loop and what follows, for any great
    have c1 : ∀ x : Int, CDivW x 1000000 := fun x => bd_divok (n := 20) (by decide) (by unfold Bd; decide) (by decide)
    have c19 : ∀ x : Int, CDivW x 19 := fun x => bd_divok (n := 20) (by decide) (by unfold Bd; decide) (by decide)
    have mk : ∀ x c : Int, -(2 ^ 64) < c → c < 2 ^ 64 → CMul x c := fun x c h1 h2 => .inr ⟨h1, h2⟩
    refine ⟨_, rfl, a, _, rfl, .inl hS, _, _, rfl, rfl, _, rfl, ite2 (fun e => ?_) (fun e => ?_)⟩
    · have hpos : 0 < ns.length := by
        have := of_decide_eq_true e
        rw [List.length_map] at this
        omega
      have g0 : atI (ns.map V.int) 0 = some (.int (ns.getD 0 0)) := ls_at (j := 0) hpos
      refine ⟨_, rfl, a, _, 0, _, rfl, rfl, hS, g0, _, rfl, _, _, rfl, rfl, ⟨by decide, by decide, by decide⟩, _, _, rfl, rfl, _, rfl, ite2 (fun e2 => ?_) (fun e2 => ?_)⟩
      · refine ⟨_, rfl, a, _, 0, _, rfl, rfl, hS, g0, _, rfl, _, _, rfl, rfl, ⟨by decide, by decide, by decide⟩, _, _, rfl, rfl, ?_⟩
        refine ⟨Nat.zero_le _, fun p hp => ?_⟩
        refine ⟨_, rfl, (m : Int), rfl, (by omega), (by omega), ?_⟩
        refine for_range (n := m) (fun i σ H3 => ∃ (g : Int) (rs : List Int) (y4 y5 y6 : Option V), σ = [some (.ref a), some (.int m), some (.int g), some (.ref p), y4, y5, y6] ∧ Same H H3 ∧ H3 p = some (.lst (rs.map V.int)) ∧ rs.length = i ∧ ∀ r ∈ rs, 0 ≤ r ∧ r < 1000000)
          ⟨_, [], _, _, _, rfl, same_upd hp, upd_same, rfl, fun r hr => nomatch hr⟩ (fun i σ H3 hi hW => ?_) (fun σ H3 hW => ?_)
        · obtain ⟨g, rs, y4, y5, y6, rfl, sm, hL, hl, hb⟩ := hW
          have hS3 := sm.seq hS
          have step : ∀ (z : Int), (0 ≤ z ∧ z < 1000000) →
              Same H (upd H3 p (.lst ((rs0 rs z).map V.int))) ∧ (upd H3 p (.lst ((rs0 rs z).map V.int))) p = some (.lst ((rs0 rs z).map V.int)) ∧ (rs0 rs z).length = i + 1 ∧ ∀ r ∈ rs0 rs z, 0 ≤ r ∧ r < 1000000 := by
            intro z hz
            refine ⟨fun b o eb => ?_, upd_same, ?_, ?_⟩
            · rw [upd_ne (ne_of_none eb hp)]
              exact sm _ _ eb
            · unfold rs0
              rw [List.length_append, hl]
              rfl
            · intro r hr
              unfold rs0 at hr
              rcases List.mem_append.1 hr with h | h
              · exact hb r h
              · rw [List.mem_singleton.1 h]
                exact hz
          have em : ∀ z : Int, (rs.map V.int) ++ [V.int z] = (rs0 rs z).map V.int := fun z => by
            unfold rs0
            rw [List.map_append]
            rfl
          have hsz : (rs.map V.int).length < sizeLine := small1000 (by rw [List.length_map]; omega)
          refine ⟨_, rfl, _, _, rfl, rfl, _, rfl, ite2 (fun e => ?_) (fun e => ?_)⟩
          · refine ⟨_, rfl, .inl ⟨rfl, _, SqL.of hL⟩, _, rfl, _, _, rfl, rfl, (by show (0 : Int) < _; decide), p, _, _, rfl, rfl, hL, hsz, ?_⟩
            rw [em]
            refine ⟨_, rfl, _, _, rfl, rfl, c1 _, ?_⟩
            exact ⟨_, _, _, _, _, rfl, step _ ⟨Int.emod_nonneg _ (by decide), Int.emod_lt_of_pos _ (by decide)⟩⟩
          · refine ⟨_, rfl, _, _, rfl, rfl, ?_⟩
            refine ⟨_, rfl, a, _, rfl, .inl hS3, _, _, rfl, rfl, _, rfl, ite2 (fun e1 => ?_) (fun e1 => ?_)⟩
            · have hpos : 0 < ns.length := by
                have := of_decide_eq_true e1
                rw [List.length_map] at this
                omega
              have hlt : i % ns.length < ns.length := Nat.mod_lt _ hpos
              have gk : atI (ns.map V.int) ((0 + (i : Int)) % ((ns.map V.int).length : Int)) = some (.int (ns.getD (i % ns.length) 0)) := by
                rw [Int.zero_add, List.length_map, ← Int.natCast_emod]
                exact ls_at hlt
              refine ⟨_, rfl, _, rfl, _, rfl, a, _, rfl, .inl hS3, _, _, rfl, rfl, (by rw [List.length_map]; omega), a, _, _, _, rfl, rfl, hS3, gk, ?_⟩
              refine ⟨_, rfl, _, _, rfl, rfl, mk _ _ (by decide) (by decide), _, rfl, _, _, rfl, rfl, mk _ _ (by decide) (by decide), _, _, rfl, rfl, _, _, rfl, rfl, _, _, rfl, rfl, (by show (0 : Int) < _; decide), ?_⟩
              refine ⟨_, rfl, _, _, rfl, rfl, mk _ _ (by decide) (by decide), _, rfl, _, _, rfl, rfl, mk _ _ (by decide) (by decide), _, _, rfl, rfl, _, rfl, a, _, rfl, .inl hS3, _, _, rfl, rfl, _, _, rfl, rfl, (by show (0 : Int) < _; decide), ?_⟩
              refine ⟨_, rfl, .inl ⟨rfl, _, SqL.of hL⟩, _, rfl, _, _, rfl, rfl, c19 _, _, _, rfl, rfl, (by show (0 : Int) < _; decide), p, _, _, rfl, rfl, hL, hsz, ?_⟩
              rw [em]
              exact ⟨_, _, _, _, _, rfl, step _ ⟨Int.emod_nonneg _ (by decide), Int.emod_lt_of_pos _ (by decide)⟩⟩
            · refine ⟨_, rfl, _, _, rfl, rfl, mk _ _ (by decide) (by decide), _, rfl, _, _, rfl, rfl, mk _ _ (by decide) (by decide), _, _, rfl, rfl, _, _, rfl, rfl, _, _, rfl, rfl, (by show (0 : Int) < _; decide), ?_⟩
              refine ⟨_, rfl, _, _, rfl, rfl, mk _ _ (by decide) (by decide), _, rfl, _, _, rfl, rfl, mk _ _ (by decide) (by decide), _, _, rfl, rfl, _, rfl, a, _, rfl, .inl hS3, _, _, rfl, rfl, _, _, rfl, rfl, (by show (0 : Int) < _; decide), ?_⟩
              refine ⟨_, rfl, .inl ⟨rfl, _, SqL.of hL⟩, _, rfl, _, _, rfl, rfl, c19 _, _, _, rfl, rfl, (by show (0 : Int) < _; decide), p, _, _, rfl, rfl, hL, hsz, ?_⟩
              rw [em]
              exact ⟨_, _, _, _, _, rfl, step _ ⟨Int.emod_nonneg _ (by decide), Int.emod_lt_of_pos _ (by decide)⟩⟩
        · obtain ⟨g, rs, y4, y5, y6, rfl, sm, hL, hl, hb⟩ := hW
          exact ⟨_, rfl, q H3 _ rs sm ⟨p, rfl, hL⟩ hl hb⟩
      · refine ⟨Nat.zero_le _, fun p hp => ?_⟩
        refine ⟨_, rfl, (m : Int), rfl, (by omega), (by omega), ?_⟩
        refine for_range (n := m) (fun i σ H3 => ∃ (g : Int) (rs : List Int) (y4 y5 y6 : Option V), σ = [some (.ref a), some (.int m), some (.int g), some (.ref p), y4, y5, y6] ∧ Same H H3 ∧ H3 p = some (.lst (rs.map V.int)) ∧ rs.length = i ∧ ∀ r ∈ rs, 0 ≤ r ∧ r < 1000000)
          ⟨_, [], _, _, _, rfl, same_upd hp, upd_same, rfl, fun r hr => nomatch hr⟩ (fun i σ H3 hi hW => ?_) (fun σ H3 hW => ?_)
        · obtain ⟨g, rs, y4, y5, y6, rfl, sm, hL, hl, hb⟩ := hW
          have hS3 := sm.seq hS
          have step : ∀ (z : Int), (0 ≤ z ∧ z < 1000000) →
              Same H (upd H3 p (.lst ((rs0 rs z).map V.int))) ∧ (upd H3 p (.lst ((rs0 rs z).map V.int))) p = some (.lst ((rs0 rs z).map V.int)) ∧ (rs0 rs z).length = i + 1 ∧ ∀ r ∈ rs0 rs z, 0 ≤ r ∧ r < 1000000 := by
            intro z hz
            refine ⟨fun b o eb => ?_, upd_same, ?_, ?_⟩
            · rw [upd_ne (ne_of_none eb hp)]
              exact sm _ _ eb
            · unfold rs0
              rw [List.length_append, hl]
              rfl
            · intro r hr
              unfold rs0 at hr
              rcases List.mem_append.1 hr with h | h
              · exact hb r h
              · rw [List.mem_singleton.1 h]
                exact hz
          have em : ∀ z : Int, (rs.map V.int) ++ [V.int z] = (rs0 rs z).map V.int := fun z => by
            unfold rs0
            rw [List.map_append]
            rfl
          have hsz : (rs.map V.int).length < sizeLine := small1000 (by rw [List.length_map]; omega)
          refine ⟨_, rfl, _, _, rfl, rfl, _, rfl, ite2 (fun e => ?_) (fun e => ?_)⟩
          · refine ⟨_, rfl, .inl ⟨rfl, _, SqL.of hL⟩, _, rfl, _, _, rfl, rfl, (by show (0 : Int) < _; decide), p, _, _, rfl, rfl, hL, hsz, ?_⟩
            rw [em]
            refine ⟨_, rfl, _, _, rfl, rfl, c1 _, ?_⟩
            exact ⟨_, _, _, _, _, rfl, step _ ⟨Int.emod_nonneg _ (by decide), Int.emod_lt_of_pos _ (by decide)⟩⟩
          · refine ⟨_, rfl, _, _, rfl, rfl, ?_⟩
            refine ⟨_, rfl, a, _, rfl, .inl hS3, _, _, rfl, rfl, _, rfl, ite2 (fun e1 => ?_) (fun e1 => ?_)⟩
            · have hpos : 0 < ns.length := by
                have := of_decide_eq_true e1
                rw [List.length_map] at this
                omega
              have hlt : i % ns.length < ns.length := Nat.mod_lt _ hpos
              have gk : atI (ns.map V.int) ((0 + (i : Int)) % ((ns.map V.int).length : Int)) = some (.int (ns.getD (i % ns.length) 0)) := by
                rw [Int.zero_add, List.length_map, ← Int.natCast_emod]
                exact ls_at hlt
              refine ⟨_, rfl, _, rfl, _, rfl, a, _, rfl, .inl hS3, _, _, rfl, rfl, (by rw [List.length_map]; omega), a, _, _, _, rfl, rfl, hS3, gk, ?_⟩
              refine ⟨_, rfl, _, _, rfl, rfl, mk _ _ (by decide) (by decide), _, rfl, _, _, rfl, rfl, mk _ _ (by decide) (by decide), _, _, rfl, rfl, _, _, rfl, rfl, _, _, rfl, rfl, (by show (0 : Int) < _; decide), ?_⟩
              refine ⟨_, rfl, _, _, rfl, rfl, mk _ _ (by decide) (by decide), _, rfl, _, _, rfl, rfl, mk _ _ (by decide) (by decide), _, _, rfl, rfl, _, rfl, a, _, rfl, .inl hS3, _, _, rfl, rfl, _, _, rfl, rfl, (by show (0 : Int) < _; decide), ?_⟩
              refine ⟨_, rfl, .inl ⟨rfl, _, SqL.of hL⟩, _, rfl, _, _, rfl, rfl, c19 _, _, _, rfl, rfl, (by show (0 : Int) < _; decide), p, _, _, rfl, rfl, hL, hsz, ?_⟩
              rw [em]
              exact ⟨_, _, _, _, _, rfl, step _ ⟨Int.emod_nonneg _ (by decide), Int.emod_lt_of_pos _ (by decide)⟩⟩
            · refine ⟨_, rfl, _, _, rfl, rfl, mk _ _ (by decide) (by decide), _, rfl, _, _, rfl, rfl, mk _ _ (by decide) (by decide), _, _, rfl, rfl, _, _, rfl, rfl, _, _, rfl, rfl, (by show (0 : Int) < _; decide), ?_⟩
              refine ⟨_, rfl, _, _, rfl, rfl, mk _ _ (by decide) (by decide), _, rfl, _, _, rfl, rfl, mk _ _ (by decide) (by decide), _, _, rfl, rfl, _, rfl, a, _, rfl, .inl hS3, _, _, rfl, rfl, _, _, rfl, rfl, (by show (0 : Int) < _; decide), ?_⟩
              refine ⟨_, rfl, .inl ⟨rfl, _, SqL.of hL⟩, _, rfl, _, _, rfl, rfl, c19 _, _, _, rfl, rfl, (by show (0 : Int) < _; decide), p, _, _, rfl, rfl, hL, hsz, ?_⟩
              rw [em]
              exact ⟨_, _, _, _, _, rfl, step _ ⟨Int.emod_nonneg _ (by decide), Int.emod_lt_of_pos _ (by decide)⟩⟩
        · obtain ⟨g, rs, y4, y5, y6, rfl, sm, hL, hl, hb⟩ := hW
          exact ⟨_, rfl, q H3 _ rs sm ⟨p, rfl, hL⟩ hl hb⟩
    · refine ⟨Nat.zero_le _, fun p hp => ?_⟩
      refine ⟨_, rfl, (m : Int), rfl, (by omega), (by omega), ?_⟩
      refine for_range (n := m) (fun i σ H3 => ∃ (g : Int) (rs : List Int) (y4 y5 y6 : Option V), σ = [some (.ref a), some (.int m), some (.int g), some (.ref p), y4, y5, y6] ∧ Same H H3 ∧ H3 p = some (.lst (rs.map V.int)) ∧ rs.length = i ∧ ∀ r ∈ rs, 0 ≤ r ∧ r < 1000000)
        ⟨_, [], _, _, _, rfl, same_upd hp, upd_same, rfl, fun r hr => nomatch hr⟩ (fun i σ H3 hi hW => ?_) (fun σ H3 hW => ?_)
      · obtain ⟨g, rs, y4, y5, y6, rfl, sm, hL, hl, hb⟩ := hW
        have hS3 := sm.seq hS
        have step : ∀ (z : Int), (0 ≤ z ∧ z < 1000000) →
            Same H (upd H3 p (.lst ((rs0 rs z).map V.int))) ∧ (upd H3 p (.lst ((rs0 rs z).map V.int))) p = some (.lst ((rs0 rs z).map V.int)) ∧ (rs0 rs z).length = i + 1 ∧ ∀ r ∈ rs0 rs z, 0 ≤ r ∧ r < 1000000 := by
          intro z hz
          refine ⟨fun b o eb => ?_, upd_same, ?_, ?_⟩
          · rw [upd_ne (ne_of_none eb hp)]
            exact sm _ _ eb
          · unfold rs0
            rw [List.length_append, hl]
            rfl
          · intro r hr
            unfold rs0 at hr
            rcases List.mem_append.1 hr with h | h
            · exact hb r h
            · rw [List.mem_singleton.1 h]
              exact hz
        have em : ∀ z : Int, (rs.map V.int) ++ [V.int z] = (rs0 rs z).map V.int := fun z => by
          unfold rs0
          rw [List.map_append]
          rfl
        have hsz : (rs.map V.int).length < sizeLine := small1000 (by rw [List.length_map]; omega)
        refine ⟨_, rfl, _, _, rfl, rfl, _, rfl, ite2 (fun e => ?_) (fun e => ?_)⟩
        · refine ⟨_, rfl, .inl ⟨rfl, _, SqL.of hL⟩, _, rfl, _, _, rfl, rfl, (by show (0 : Int) < _; decide), p, _, _, rfl, rfl, hL, hsz, ?_⟩
          rw [em]
          refine ⟨_, rfl, _, _, rfl, rfl, c1 _, ?_⟩
          exact ⟨_, _, _, _, _, rfl, step _ ⟨Int.emod_nonneg _ (by decide), Int.emod_lt_of_pos _ (by decide)⟩⟩
        · refine ⟨_, rfl, _, _, rfl, rfl, ?_⟩
          refine ⟨_, rfl, a, _, rfl, .inl hS3, _, _, rfl, rfl, _, rfl, ite2 (fun e1 => ?_) (fun e1 => ?_)⟩
          · have hpos : 0 < ns.length := by
              have := of_decide_eq_true e1
              rw [List.length_map] at this
              omega
            have hlt : i % ns.length < ns.length := Nat.mod_lt _ hpos
            have gk : atI (ns.map V.int) ((0 + (i : Int)) % ((ns.map V.int).length : Int)) = some (.int (ns.getD (i % ns.length) 0)) := by
              rw [Int.zero_add, List.length_map, ← Int.natCast_emod]
              exact ls_at hlt
            refine ⟨_, rfl, _, rfl, _, rfl, a, _, rfl, .inl hS3, _, _, rfl, rfl, (by rw [List.length_map]; omega), a, _, _, _, rfl, rfl, hS3, gk, ?_⟩
            refine ⟨_, rfl, _, _, rfl, rfl, mk _ _ (by decide) (by decide), _, rfl, _, _, rfl, rfl, mk _ _ (by decide) (by decide), _, _, rfl, rfl, _, _, rfl, rfl, _, _, rfl, rfl, (by show (0 : Int) < _; decide), ?_⟩
            refine ⟨_, rfl, _, _, rfl, rfl, mk _ _ (by decide) (by decide), _, rfl, _, _, rfl, rfl, mk _ _ (by decide) (by decide), _, _, rfl, rfl, _, rfl, a, _, rfl, .inl hS3, _, _, rfl, rfl, _, _, rfl, rfl, (by show (0 : Int) < _; decide), ?_⟩
            refine ⟨_, rfl, .inl ⟨rfl, _, SqL.of hL⟩, _, rfl, _, _, rfl, rfl, c19 _, _, _, rfl, rfl, (by show (0 : Int) < _; decide), p, _, _, rfl, rfl, hL, hsz, ?_⟩
            rw [em]
            exact ⟨_, _, _, _, _, rfl, step _ ⟨Int.emod_nonneg _ (by decide), Int.emod_lt_of_pos _ (by decide)⟩⟩
          · refine ⟨_, rfl, _, _, rfl, rfl, mk _ _ (by decide) (by decide), _, rfl, _, _, rfl, rfl, mk _ _ (by decide) (by decide), _, _, rfl, rfl, _, _, rfl, rfl, _, _, rfl, rfl, (by show (0 : Int) < _; decide), ?_⟩
            refine ⟨_, rfl, _, _, rfl, rfl, mk _ _ (by decide) (by decide), _, rfl, _, _, rfl, rfl, mk _ _ (by decide) (by decide), _, _, rfl, rfl, _, rfl, a, _, rfl, .inl hS3, _, _, rfl, rfl, _, _, rfl, rfl, (by show (0 : Int) < _; decide), ?_⟩
            refine ⟨_, rfl, .inl ⟨rfl, _, SqL.of hL⟩, _, rfl, _, _, rfl, rfl, c19 _, _, _, rfl, rfl, (by show (0 : Int) < _; decide), p, _, _, rfl, rfl, hL, hsz, ?_⟩
            rw [em]
            exact ⟨_, _, _, _, _, rfl, step _ ⟨Int.emod_nonneg _ (by decide), Int.emod_lt_of_pos _ (by decide)⟩⟩
      · obtain ⟨g, rs, y4, y5, y6, rfl, sm, hL, hl, hb⟩ := hW
        exact ⟨_, rfl, q H3 _ rs sm ⟨p, rfl, hL⟩ hl hb⟩

end
abbrev N__law_whole : List Str := ["_law_found"]
theorem sc__law_whole : FnScope N__law_whole ["_law_found"] (defScope s__law_whole) := ⟨rfl, rfl, rfl, by decide +kernel, rfl, by decide +kernel, by decide +kernel⟩
section
variable {P : Program} {w : World} {K : PySem.W.Frag} {mg : Str → Option Value} {base : Heap}
def sp__law_whole : Sp := fun vs H Q _ => ∃ i : Int, vs = [.int i] ∧ Q (.bl true) H
theorem ok__law_whole {k : Nat} (D : Df K mg "_law_whole" s__law_whole ["_law_found"]) (m_isinstance : mg "isinstance" = none) (m_int : mg "int" = none) (m_bool : mg "bool" = none) : FnOk P w K mg base CX0 (k + 1) D.f D.fd ["_law_found"] sp__law_whole := by
  refine D.F.ok sc__law_whole (fun vs H Q E h => ?_) (fun cdv A outer s H vs Q E hr h => ?_)
  · obtain ⟨a, rfl, _⟩ := h
    rfl
  · obtain ⟨i, rfl, q⟩ := h
    refine ⟨_, (pss_one (ps_ret (pe_and (pe_callB call_isi (by rfl) m_isinstance PyProof.Rows.boot_isinstance (pa_cons (pv 0) (pa_cons (pe_bltn (v := .ty "int") (by rfl) m_int PyProof.Rows.boot_int rfl) pa_nil))) (pe_one (pe_not (pe_callB call_isi (by rfl) m_isinstance PyProof.Rows.boot_isinstance (pa_cons (pv 0) (pa_cons (pe_bltn (v := .ty "bool") (by rfl) m_bool PyProof.Rows.boot_bool rfl) pa_nil)))))))), ?_⟩
    refine ⟨_, rfl, _, _, _, _, true, rfl, .ty "int", .base (.int i), kit_ty (by decide +kernel), true, rfl, iteT ?_⟩
    exact ⟨_, rfl, _, _, _, _, false, rfl, .ty "bool", .base (.int i), kit_ty (by decide +kernel), false, rfl, q⟩

end
abbrev N__law_low : List Str := ["_law_top", "_law_bottom", "_law_one", "_law_other"]
theorem sc__law_low : FnScope N__law_low ["_law_top", "_law_bottom"] (defScope s__law_low) := ⟨rfl, rfl, rfl, by decide +kernel, rfl, by decide +kernel, by decide +kernel⟩
section
variable {P : Program} {w : World} {K : PySem.W.Frag} {mg : Str → Option Value} {base : Heap}
theorem ok__law_low {k : Nat} (D : Df K mg "_law_low" s__law_low ["_law_top", "_law_bottom"]) (m_abs : mg "abs" = none) : FnOk P w K mg base CX0 (k + 1) D.f D.fd ["_law_top", "_law_bottom"] (sp_lowest K) := by
  refine D.F.ok sc__law_low (fun vs H Q E h => ?_) (fun cdv A outer s H vs Q E hr h => ?_)
  · obtain ⟨a, b, rfl, _⟩ := h
    rfl
  · obtain ⟨a, b, rfl, hb, hB, q⟩ := h
    refine ⟨_, (pss_cons (ps_set (i := 2) sc__law_low.nd rfl (.inl rfl) (pe_callB call_abs (by rfl) m_abs boot_abs (pa_cons (pv 0) pa_nil)))
      (pss_cons (ps_set (i := 3) sc__law_low.nd rfl (.inl rfl) (pv 1))
      (pss_cons (ps_while PassesOwn.never (pt_cmpR op_gt (pv 3) pe_int (nomark _)) (pss_one (ps_par (i := 2) (j := 3) (by rfl) sc__law_low.nd rfl rfl (by decide) rfl rfl (pa_cons (pv 3) (pa_cons (pe_op op_mod (pv 2) (pv 3)) pa_nil)) (by rfl))))
      (pss_one (ps_ret (pe_tup (pa_cons (pe_op op_fdivW (pv 0) (pv 2)) (pa_cons (pe_op op_fdivW (pv 1) (pv 2)) pa_nil)))))))), ?_⟩
    refine ⟨_, rfl, _, rfl, ?_⟩
    refine ⟨_, rfl, ?_⟩
    refine while_by (fun σ H' => ∃ x y : Int, σ = [some (.int a), some (.int b), some (.int x), some (.int y)] ∧ H' = H ∧ 0 ≤ y ∧ Int.gcd x y = Int.gcd a b ∧ (y = 0 → 0 ≤ x))
      (fun σ _ => match σ with | [_, _, _, some (.int y)] => y.toNat | _ => 0) ⟨_, b, rfl, rfl, by omega, gc_abs a b, by omega⟩ ?_ ?_
    · rintro σ H' ⟨x, y, rfl, rfl, h0, hg, hz⟩
      refine ⟨_, rfl, _, _, rfl, rfl, _, rfl, ite2 (fun e => ?_) (fun e => ?_)⟩
      · have e1 : 0 < y := of_decide_eq_true e
        refine ⟨_, rfl, _, rfl, _, rfl, _, _, rfl, rfl, e1, _, _, rfl, ⟨y, x % y, rfl, rfl, Int.emod_nonneg x (by omega), gc_step.trans hg, fun _ => by omega⟩, ?_⟩
        show (x % y).toNat < y.toNat
        have := Int.emod_lt_of_pos x e1
        have := Int.emod_nonneg x (show y ≠ 0 by omega)
        omega
      · have e1 : ¬ 0 < y := fun z => e (decide_eq_true z)
        have e2 : y = 0 := by omega
        subst e2
        have e3 : x = gc a b := by
          unfold gc
          rw [← hg, Int.gcd_zero]
          have := hz rfl
          omega
        subst e3
        have hg := gc_pos (a := a) hb
        have hk := hB.gc (x := a) hb
        refine ⟨_, rfl, _, rfl, _, _, rfl, rfl, bd_divok hg hk (by decide), _, rfl, _, rfl, _, _, rfl, rfl, bd_divok hg hk (by decide), (by show 2 ≤ sizeLine; decide), fun p hp => ?_⟩
        exact q _ _ (same_upd hp) Pr.new
    · rintro σ H' Q1 Q2 hq ⟨v, e, i, j, e1, e2, c, e3, r⟩
      exact ⟨v, e, i, j, e1, e2, c, e3, hq _ _ r⟩

end
abbrev N__law_add : List Str := ["_law_a", "_law_b"]
theorem sc__law_add : FnScope N__law_add ["_law_a", "_law_b"] (defScope s__law_add) := ⟨rfl, rfl, rfl, by decide +kernel, rfl, by decide +kernel, by decide +kernel⟩
section
variable {P : Program} {w : World} {K : PySem.W.Frag} {mg : Str → Option Value} {base : Heap}
theorem ok__law_add {k : Nat} (D : Df K mg "_law_add" s__law_add ["_law_a", "_law_b"]) (D__law_low : Df K mg "_law_low" s__law_low ["_law_top", "_law_bottom"]) (m_abs : mg "abs" = none) : FnOk P w K mg base CX0 (k + 2) D.f D.fd ["_law_a", "_law_b"] (sp_two K anyC addP) := by
  have G__law_low : FnOk P w K mg base CX0 1 D__law_low.f D__law_low.fd ["_law_top", "_law_bottom"] (sp_lowest K) := ok__law_low D__law_low m_abs
  refine D.F.ok sc__law_add (fun vs H Q E h => len_two h) (fun cdv A outer s H vs Q E hr h => ?_)
  obtain ⟨v, u, x, y, n, m, rfl, ⟨p, rfl, hp⟩, ⟨r, rfl, hq⟩, ox, oy, hn, _, q⟩ := h
  refine ⟨_, (pss_one (ps_ret (pe_call G__law_low (hr.mono (by omega)) (by rfl) D__law_low.g D__law_low.F.kp D__law_low.b .nil pass0 (pa_cons (pe_op op_add (pe_op op_mulW (pe_ix ix_tup (pv 0) pe_int (fun _ _ => rfl)) (pe_ix ix_tup (pv 1) pe_int (fun _ _ => rfl))) (pe_op op_mulW (pe_ix ix_tup (pv 1) pe_int (fun _ _ => rfl)) (pe_ix ix_tup (pv 0) pe_int (fun _ _ => rfl)))) (pa_cons (pe_op op_mulW (pe_ix ix_tup (pv 0) pe_int (fun _ _ => rfl)) (pe_ix ix_tup (pv 1) pe_int (fun _ _ => rfl))) pa_nil))))), ?_⟩
  refine ⟨_, rfl, p, _, 0, _, rfl, rfl, hp, rfl, _, rfl, r, _, 1, _, rfl, rfl, hq, rfl, _, _, rfl, rfl, bd_mulok ox.top oy.bot (by omega), ?_⟩
  refine ⟨_, rfl, r, _, 0, _, rfl, rfl, hq, rfl, _, rfl, p, _, 1, _, rfl, rfl, hp, rfl, _, _, rfl, rfl, bd_mulok oy.top ox.bot (by omega), _, _, rfl, rfl, ?_⟩
  refine ⟨_, rfl, p, _, 1, _, rfl, rfl, hp, rfl, _, rfl, r, _, 1, _, rfl, rfl, hq, rfl, _, _, rfl, rfl, bd_mulok ox.bot oy.bot (by omega), ?_⟩
  exact ⟨_, _, rfl, Int.mul_pos ox.pos oy.pos, (ox.bot.mul oy.bot).mono (by omega), fun H' r' sm pr => q _ _ sm pr⟩

end
abbrev N__law_shares : List Str := ["_law_row", "_law_n", "_law_weights", "_law_whole_here", "_law_one", "_law_weight"]
theorem sc__law_shares : FnScope N__law_shares ["_law_row", "_law_n"] (defScope s__law_shares) := ⟨rfl, rfl, rfl, by decide +kernel, rfl, by decide +kernel, by decide +kernel⟩
section
variable {P : Program} {w : World} {K : PySem.W.Frag} {mg : Str → Option Value} {base : Heap}
def sp__law_shares (K : PySem.W.Frag) : Sp := fun vs H Q _ => ∃ (pr : Addr) (rs : List Int) (n : Nat), vs = [.ref pr, .int n] ∧ H pr = some (.lst (rs.map V.int)) ∧ 1 ≤ n ∧ n ≤ 24 ∧ n < rs.length ∧ (∀ r ∈ rs, 0 ≤ r ∧ r < 1000000) ∧
  ∀ H' p ws, Same H H' → H p = none → WsOk n ws → LP K H' p (sharesOf ws) → Q (.ref p) H'
theorem same_free {H H' : Hp} (s : Same H H') {p : Addr} (h : H' p = none) : H p = none := s.free h
theorem ws_in {rs : List Int} {n : Nat} {f : Int → Int} (hb : ∀ r ∈ rs, 0 ≤ r ∧ r < 1000000) (hf : ∀ r : Int, 0 ≤ r → r < 1000000 → 0 ≤ f r ∧ f r < 1000000) : ∀ w ∈ (rs.take n).map f, 0 ≤ w ∧ w < 1000000 := fun w hw => by
  obtain ⟨r, hr, rfl⟩ := List.mem_map.1 hw
  have h := hb r (List.mem_of_mem_take hr)
  exact hf r h.1 h.2
theorem sum_set' {ws : List Int} {j : Nat} {z : Int} (d : Int) (h : ws[j]? = some z) : (ws.set j (z + d)).sum = ws.sum + d := by
  rw [sum_set h]
  omega
theorem ok__law_shares {k : Nat} (D : Df K mg "_law_shares" s__law_shares ["_law_row", "_law_n"]) (D__law_low : Df K mg "_law_low" s__law_low ["_law_top", "_law_bottom"]) (m_abs : mg "abs" = none) (m_int : mg "int" = none) (m_sum : mg "sum" = none) : FnOk P w K mg base CX0 (k + 2) D.f D.fd ["_law_row", "_law_n"] (sp__law_shares K) := by
  have G__law_low : FnOk P w K mg base CX0 1 D__law_low.f D__law_low.fd ["_law_top", "_law_bottom"] (sp_lowest K) := ok__law_low D__law_low m_abs
  refine D.F.ok sc__law_shares (fun vs H Q E h => ?_) (fun cdv A outer s H vs Q E hr h => ?_)
  · obtain ⟨pr, rs, n, rfl, _⟩ := h
    rfl
  obtain ⟨pr, rs, n, rfl, epr, hn1, hn2, hnr, hb, q⟩ := h
  have bn := hb _ (getD_in hnr)
  have c5 : ∀ x : Int, CDivW x 5 := fun x => bd_divok (n := 20) (by decide) (by unfold Bd; decide) (by decide)
  have c131 : ∀ x : Int, CDivW x 131 := fun x => bd_divok (n := 20) (by decide) (by unfold Bd; decide) (by decide)
  refine ⟨_, (pss_cons (ps_setLc (i := 2) (own := [("_law_one", 4)]) (g := gName 4) (tt := tYes) rfl sc__law_shares.nd rfl rfl (sw_true rfl rfl rfl (by decide +kernel)) (pi_list (pe_slice sl_list (pv 0) po_none (po_some (pv 1)))) (blkOk_by (N := N__law_shares) (sc := defScope s__law_shares) (by decide +kernel)) (fun _ _ _ _ _ => pg_name (i := 4) sc__law_shares.nd rfl (Or.inl rfl)) (fun _ _ _ _ _ => pts_nil) (fun _ _ _ _ _ => (pe_op op_mod (pv 4) pe_int)))
      (C8.pss_cut (ps_if (pt_cmpR op_eq (pe_op op_mod (pe_ix ix_list (pv 0) (pv 1) (fun _ _ => rfl)) pe_int) pe_int (nomark _)) (pss_one (ps_setLc (i := 2) (own := [("_law_one", 4)]) (g := gName 4) (tt := tYes) rfl sc__law_shares.nd rfl rfl (sw_true rfl rfl rfl (by decide +kernel)) (pi_list (pe_slice sl_list (pv 0) po_none (po_some (pv 1)))) (blkOk_by (N := N__law_shares) (sc := defScope s__law_shares) (by decide +kernel)) (fun _ _ _ _ _ => pg_name (i := 4) sc__law_shares.nd rfl (Or.inl rfl)) (fun _ _ _ _ _ => pts_nil) (fun _ _ _ _ _ => (pe_op op_mod (pv 4) pe_int)))) pss_nil)
      (C8.pss_cut (ps_if (pt_cmpR op_eq (pe_op op_mod (pe_ix ix_list (pv 0) (pv 1) (fun _ _ => rfl)) pe_int) pe_int (nomark _)) (pss_one (ps_setLc (i := 2) (own := [("_law_one", 4)]) (g := gName 4) (tt := tYes) rfl sc__law_shares.nd rfl rfl (sw_true rfl rfl rfl (by decide +kernel)) (pi_list (pe_slice sl_list (pv 0) po_none (po_some (pv 1)))) (blkOk_by (N := N__law_shares) (sc := defScope s__law_shares) (by decide +kernel)) (fun _ _ _ _ _ => pg_name (i := 4) sc__law_shares.nd rfl (Or.inl rfl)) (fun _ _ _ _ _ => pts_nil) (fun _ _ _ _ _ => (pe_op op_mul (pv 4) (pe_callTy call_int1 (by rfl) m_int PyProof.Rows.boot_int (pa_cons (pe_cmpR op_eq (pe_op op_mod (pv 4) pe_int) pe_int (nomark _)) pa_nil)))))) pss_nil)
      (C8.pss_cut (ps_if (pt_cmpR op_eq (pe_op op_mod (pe_ix ix_list (pv 0) (pv 1) (fun _ _ => rfl)) pe_int) pe_int (nomark _)) (pss_one (ps_setLc (i := 2) (own := [("_law_one", 4)]) (g := gName 4) (tt := tYes) rfl sc__law_shares.nd rfl rfl (sw_true rfl rfl rfl (by decide +kernel)) (pi_list (pe_slice sl_list (pv 0) po_none (po_some (pv 1)))) (blkOk_by (N := N__law_shares) (sc := defScope s__law_shares) (by decide +kernel)) (fun _ _ _ _ _ => pg_name (i := 4) sc__law_shares.nd rfl (Or.inl rfl)) (fun _ _ _ _ _ => pts_nil) (fun _ _ _ _ _ => pe_int))) pss_nil)
      (pss_cons (ps_augS (pv 2) (pe_op op_mod (pe_op op_fdivW (pe_ix ix_list (pv 0) (pv 1) (fun _ _ => rfl)) pe_int) (pv 1)) get_list (pe_op op_add pe_int (pe_op op_mod (pe_op op_fdivW (pe_ix ix_list (pv 0) (pv 1) (fun _ _ => rfl)) pe_int) pe_int)) ip_add set_list)
      (pss_cons (ps_set (i := 3) sc__law_shares.nd rfl (.inr rfl) (pe_callB (cr_sum rfl) (by rfl) m_sum (by decide +kernel) (pa_cons (pv 2) pa_nil)))
      (pss_one (ps_ret (pe_lc (own := [("_law_weight", 5)]) (g := gName 5) (tt := tYes) rfl sc__law_shares.nd (pi_list (pv 2)) (blkOk_by (N := N__law_shares) (sc := defScope s__law_shares) (by decide +kernel)) (fun _ _ _ _ _ => pg_name (i := 5) sc__law_shares.nd rfl (Or.inl rfl)) (fun _ _ _ _ _ => pts_nil) (fun _ _ _ _ _ => (pe_call G__law_low (hr.mono (by omega)) (by rfl) D__law_low.g D__law_low.F.kp D__law_low.b .nil pass0 (pa_cons (pv 5) (pa_cons (pv 3) pa_nil))))))))))))), ?_⟩
  -- the first weights
  refine ⟨_, rfl, _, rfl, _, rfl, pr, _, rfl, SqL.of epr, fun pc hc => ?_⟩
  rw [cut_to rs n (by omega)]
  refine ⟨pc, rfl, ⟨_, SqL.of upd_same⟩, fun Dd hD => ?_⟩
  have nD : H Dd = none := same_free (same_upd hc) hD
  refine lc_list (xs := (rs.take n).map V.int) (fun i H' => H' Dd = some (.lst ((((rs.take n).take i).map (fun r => r % 12)).map V.int)) ∧ Same (upd H pc (.lst ((rs.take n).map V.int))) H') ⟨upd_same, same_upd hD⟩ (fun i H' _ hW => SqL.of (hW.2 _ _ upd_same)) (fun i x H' hx hW => ?_) (fun H6 hW => ?_)
  · obtain ⟨eD, sm⟩ := hW
    obtain ⟨r, hr', rfl⟩ := int_at hx
    refine ⟨rfl, ?_⟩
    dsimp only [tYes]
    rw [if_pos rfl]
    refine ⟨_, rfl, _, _, rfl, rfl, (by show (0 : Int) < _; decide), _, eD, small1000 (by rw [List.length_map, List.length_map, List.length_take, List.length_take]; omega), ?_, same_at hD sm⟩
    rw [upd_same]
    exact congrArg (fun z => some (HO.lst z)) (take_map hr' (fun r => r % 12))
  obtain ⟨eD0, sm0⟩ := hW
  rw [List.length_map, List.take_of_length_le (Nat.le_refl _)] at eD0
  have mid0 : ∃ (pw : Addr) (ws : List Int), H6 pw = some (.lst (ws.map V.int)) ∧ ws.length = n ∧ (∀ w ∈ ws, 0 ≤ w ∧ w < 1000000) ∧ H pw = none ∧ Same H H6 ∧ Dd = pw :=
    ⟨Dd, _, eD0, by rw [List.length_map, List.length_take]; omega, ws_in hb fun r h1 h2 => ⟨Int.emod_nonneg _ (by decide), Int.lt_of_lt_of_le (Int.emod_lt_of_pos _ (by decide)) (by decide)⟩, nD, (same_upd hc).trans sm0, rfl⟩
  obtain ⟨pw, ws, eW, lW, bW, nW, s6, rfl⟩ := mid0
  refine ⟨fun σ H' => ∃ (pw : Addr) (ws : List Int) (y3 y4 y5 : Option V), σ = [some (.ref pr), some (.int n), some (.ref pw), y3, y4, y5] ∧ H' pw = some (.lst (ws.map V.int)) ∧ ws.length = n ∧ (∀ w ∈ ws, 0 ≤ w ∧ w < 1000000) ∧ H pw = none ∧ Same H H', ?_, fun H7σ H7 hm => ?_⟩
  · refine ⟨_, rfl, _, rfl, pr, _, _, _, rfl, rfl, SqL.of (s6 _ _ epr), ls_at hnr, _, _, rfl, rfl, (by show (0 : Int) < _; decide), rfl, _, rfl, ite2 (fun e => ?_) (fun e => ?_)⟩
    · refine ⟨_, rfl, _, rfl, _, rfl, pr, _, rfl, (SqL.of (s6 _ _ epr)), fun pc hc => ?_⟩
      rw [cut_to rs n (by omega)]
      refine ⟨pc, rfl, ⟨_, SqL.of upd_same⟩, fun Dd hD => ?_⟩
      have nD : H6 Dd = none := same_free (same_upd hc) hD
      refine lc_list (xs := (rs.take n).map V.int) (fun i H' => H' Dd = some (.lst ((((rs.take n).take i).map (fun r => r % 2)).map V.int)) ∧ Same (upd H6 pc (.lst ((rs.take n).map V.int))) H') ⟨upd_same, same_upd hD⟩ (fun i H' _ hW => SqL.of (hW.2 _ _ upd_same)) (fun i x H' hx hW => ?_) (fun H' hW => ?_)
      · obtain ⟨eD, sm⟩ := hW
        obtain ⟨r, hr', rfl⟩ := int_at hx
        refine ⟨rfl, ?_⟩
        dsimp only [tYes]
        rw [if_pos rfl]
        refine ⟨_, rfl, _, _, rfl, rfl, (by show (0 : Int) < _; decide), _, eD, small1000 (by rw [List.length_map, List.length_map, List.length_take, List.length_take]; omega), ?_, same_at hD sm⟩
        rw [upd_same]
        exact congrArg (fun z => some (HO.lst z)) (take_map hr' (fun r => r % 2))
      · obtain ⟨eD, sm⟩ := hW
        rw [List.length_map, List.take_of_length_le (Nat.le_refl _)] at eD
        exact ⟨Dd, _, _, _, _, rfl, eD, (by rw [List.length_map, List.length_take]; omega), ws_in hb (fun r h1 h2 => ⟨Int.emod_nonneg _ (by decide), Int.lt_of_lt_of_le (Int.emod_lt_of_pos _ (by decide)) (by decide)⟩), same_free s6 nD, s6.trans ((same_upd hc).trans sm)⟩
    · exact ⟨Dd, ws, _, _, _, rfl, eW, lW, bW, nW, s6⟩
  obtain ⟨pw, ws, y3, y4, y5, rfl, eW, lW, bW, nW, sM⟩ := hm
  refine ⟨fun σ H' => ∃ (pw : Addr) (ws : List Int) (y3 y4 y5 : Option V), σ = [some (.ref pr), some (.int n), some (.ref pw), y3, y4, y5] ∧ H' pw = some (.lst (ws.map V.int)) ∧ ws.length = n ∧ (∀ w ∈ ws, 0 ≤ w ∧ w < 1000000) ∧ H pw = none ∧ Same H H', ?_, fun H8σ H8 hm => ?_⟩
  · refine ⟨_, rfl, _, rfl, pr, _, _, _, rfl, rfl, SqL.of (sM _ _ epr), ls_at hnr, _, _, rfl, rfl, (by show (0 : Int) < _; decide), rfl, _, rfl, ite2 (fun e => ?_) (fun e => ?_)⟩
    · refine ⟨_, rfl, _, rfl, _, rfl, pr, _, rfl, (SqL.of (sM _ _ epr)), fun pc hc => ?_⟩
      rw [cut_to rs n (by omega)]
      refine ⟨pc, rfl, ⟨_, SqL.of upd_same⟩, fun Dd hD => ?_⟩
      have nD : H7 Dd = none := same_free (same_upd hc) hD
      refine lc_list (xs := (rs.take n).map V.int) (fun i H' => H' Dd = some (.lst ((((rs.take n).take i).map (fun r => r * (if decide (V.int (r % 3) = V.int 0) = true then 1 else 0))).map V.int)) ∧ Same (upd H7 pc (.lst ((rs.take n).map V.int))) H') ⟨upd_same, same_upd hD⟩ (fun i H' _ hW => SqL.of (hW.2 _ _ upd_same)) (fun i x H' hx hW => ?_) (fun H' hW => ?_)
      · obtain ⟨eD, sm⟩ := hW
        obtain ⟨r, hr', rfl⟩ := int_at hx
        refine ⟨rfl, ?_⟩
        dsimp only [tYes]
        rw [if_pos rfl]
        refine ⟨_, rfl, _, rfl, _, _, rfl, rfl, (by show (0 : Int) < _; decide), rfl, .inr ⟨_, rfl, _, _, rfl, rfl, .inr ⟨by split <;> decide, by split <;> decide⟩, _, eD, small1000 (by rw [List.length_map, List.length_map, List.length_take, List.length_take]; omega), ?_, same_at hD sm⟩⟩
        rw [upd_same]
        exact congrArg (fun z => some (HO.lst z)) (take_map hr' (fun r => r * (if decide (V.int (r % 3) = V.int 0) = true then 1 else 0)))
      · obtain ⟨eD, sm⟩ := hW
        rw [List.length_map, List.take_of_length_le (Nat.le_refl _)] at eD
        exact ⟨Dd, _, _, _, _, rfl, eD, (by rw [List.length_map, List.length_take]; omega), ws_in hb (fun r h1 h2 => by split <;> omega), same_free sM nD, sM.trans ((same_upd hc).trans sm)⟩
    · exact ⟨pw, ws, _, _, _, rfl, eW, lW, bW, nW, sM⟩
  obtain ⟨pw, ws, y3, y4, y5, rfl, eW, lW, bW, nW, sM⟩ := hm
  refine ⟨fun σ H' => ∃ (pw : Addr) (ws : List Int) (y3 y4 y5 : Option V), σ = [some (.ref pr), some (.int n), some (.ref pw), y3, y4, y5] ∧ H' pw = some (.lst (ws.map V.int)) ∧ ws.length = n ∧ (∀ w ∈ ws, 0 ≤ w ∧ w < 1000000) ∧ H pw = none ∧ Same H H', ?_, fun H9σ H9 hm => ?_⟩
  · refine ⟨_, rfl, _, rfl, pr, _, _, _, rfl, rfl, SqL.of (sM _ _ epr), ls_at hnr, _, _, rfl, rfl, (by show (0 : Int) < _; decide), rfl, _, rfl, ite2 (fun e => ?_) (fun e => ?_)⟩
    · refine ⟨_, rfl, _, rfl, _, rfl, pr, _, rfl, (SqL.of (sM _ _ epr)), fun pc hc => ?_⟩
      rw [cut_to rs n (by omega)]
      refine ⟨pc, rfl, ⟨_, SqL.of upd_same⟩, fun Dd hD => ?_⟩
      have nD : H8 Dd = none := same_free (same_upd hc) hD
      refine lc_list (xs := (rs.take n).map V.int) (fun i H' => H' Dd = some (.lst ((((rs.take n).take i).map (fun _ => 0)).map V.int)) ∧ Same (upd H8 pc (.lst ((rs.take n).map V.int))) H') ⟨upd_same, same_upd hD⟩ (fun i H' _ hW => SqL.of (hW.2 _ _ upd_same)) (fun i x H' hx hW => ?_) (fun H' hW => ?_)
      · obtain ⟨eD, sm⟩ := hW
        obtain ⟨r, hr', rfl⟩ := int_at hx
        refine ⟨rfl, ?_⟩
        dsimp only [tYes]
        rw [if_pos rfl]
        refine ⟨_, eD, small1000 (by rw [List.length_map, List.length_map, List.length_take, List.length_take]; omega), ?_, same_at hD sm⟩
        rw [upd_same]
        exact congrArg (fun z => some (HO.lst z)) (take_map hr' (fun _ => 0))
      · obtain ⟨eD, sm⟩ := hW
        rw [List.length_map, List.take_of_length_le (Nat.le_refl _)] at eD
        exact ⟨Dd, _, _, _, _, rfl, eD, (by rw [List.length_map, List.length_take]; omega), ws_in hb (fun r h1 h2 => ⟨by decide, by decide⟩), same_free sM nD, sM.trans ((same_upd hc).trans sm)⟩
    · exact ⟨pw, ws, _, _, _, rfl, eW, lW, bW, nW, sM⟩
  obtain ⟨pw, ws, y3, y4, y5, rfl, eW, lW, bW, nW, sM⟩ := hm
  -- one of them raised
  have hL9 : SqL K H9 pr (rs.map V.int) := SqL.of (sM _ _ epr)
  have j1 := Int.emod_nonneg (rs.getD n 0 / 5) (show (n : Int) ≠ 0 by omega)
  have j2 := Int.emod_lt_of_pos (rs.getD n 0 / 5) (show (0 : Int) < n by omega)
  obtain ⟨j, hj, hjn⟩ : ∃ j : Nat, rs.getD n 0 / 5 % (n : Int) = (j : Int) ∧ j < n := ⟨(rs.getD n 0 / 5 % (n : Int)).toNat, by omega, by omega⟩
  have hwj : ws[j]? = some (ws.getD j 0) := by
    rw [List.getElem?_eq_getElem (by omega)]
    simp [List.getD, List.getElem?_eq_getElem (show j < ws.length by omega)]
  have bj := bW _ (getD_in (show j < ws.length by omega))
  have d1 := Int.emod_nonneg (rs.getD n 0 / 131) (show (4 : Int) ≠ 0 by decide)
  have d2 := Int.emod_lt_of_pos (rs.getD n 0 / 131) (show (0 : Int) < 4 by decide)
  refine ⟨_, rfl, _, rfl, _, rfl, pr, _, _, _, rfl, rfl, hL9, ls_at hnr, _, _, rfl, rfl, c5 _, _, rfl, _, _, rfl, rfl, (by show (0 : Int) < n; omega), ?_⟩
  refine ⟨pw, _, j, .int (ws.getD j 0), rfl, congrArg V.int hj, SqL.of eW, by rw [List.getElem?_map, hwj]; rfl, ?_⟩
  refine ⟨_, rfl, _, rfl, pr, _, _, _, rfl, rfl, hL9, ls_at hnr, _, _, rfl, rfl, c131 _, _, _, rfl, rfl, (by show (0 : Int) < _; decide), _, _, rfl, rfl, _, _, rfl, rfl, ?_⟩
  refine ⟨pw, _, _, j, rfl, rfl, eW, ?_, ?_⟩
  · rw [hj, List.length_map]
    unfold ixN
    rw [if_pos (by omega), if_pos (by omega), Int.toNat_natCast]
  rw [show (ws.map V.int).set j (V.int (ws.getD j 0 + (1 + rs.getD n 0 / 131 % 4))) = (ws.set j (ws.getD j 0 + (1 + rs.getD n 0 / 131 % 4))).map V.int from by rw [List.map_set]]
  obtain ⟨vs, evs⟩ : ∃ vs, vs = ws.set j (ws.getD j 0 + (1 + rs.getD n 0 / 131 % 4)) := ⟨_, rfl⟩
  rw [← evs]
  have hvs : WsOk n vs := by
    have hb2 : ∀ w ∈ vs, 0 ≤ w ∧ w < 1000005 := by
      intro w hw
      rw [evs] at hw
      rcases List.mem_or_eq_of_mem_set hw with h | h
      · have := bW w h
        omega
      · omega
    have hl : vs.length = n := by rw [evs, List.length_set, lW]
    have hs : vs.sum = ws.sum + (1 + rs.getD n 0 / 131 % 4) := by
      rw [evs]
      exact sum_set' _ hwj
    have h0 := sum_bound (ws := ws) fun w hw => by have := bW w hw; omega
    have h1 := sum_bound hb2
    rw [hl] at h1
    exact ⟨hl, hb2, by omega, h1.2⟩
  obtain ⟨hl, hb2, hs1, hs2⟩ := hvs
  -- their sum
  have s10 : Same H (upd H9 pw (.lst (vs.map V.int))) := same_at nW sM
  refine ⟨_, rfl, pw, vs, rfl, SqL.of upd_same, ?_⟩
  refine ⟨_, rfl, pw, rfl, ⟨_, SqL.of upd_same⟩, fun Dd' hD => ?_⟩
  have nD' : H Dd' = none := same_free s10 hD
  refine lc_list (xs := vs.map V.int) (fun i H' => ∃ us, H' Dd' = some (.lst us) ∧ Pps K H' us ((sharesOf vs).take i) ∧ Same (upd H9 pw (.lst (vs.map V.int))) H') ⟨[], upd_same, .nil, same_upd hD⟩ (fun i H' _ hW => ?_) (fun i x H' hx hW => ?_) (fun H' hW => ?_)
  · obtain ⟨us, _, _, sm⟩ := hW
    exact SqL.of (sm _ _ upd_same)
  · obtain ⟨us, eD, hP, sm⟩ := hW
    obtain ⟨r, hr', rfl⟩ := int_at hx
    have br := hb2 r (List.mem_of_getElem? hr')
    have hi := (List.getElem?_eq_some_iff.1 hr').1
    refine ⟨rfl, ?_⟩
    dsimp only [tYes]
    rw [if_pos rfl]
    refine ⟨_, rfl, _, rfl, r, vs.sum, rfl, hs1, Bd.of (m := 30000000) (by omega) (by omega) (by decide +kernel), fun H11 v11 s11 p11 => ?_⟩
    have eD11 := s11 _ _ eD
    refine ⟨us, eD11, small1000 (by rw [hP.len, List.length_take, shares_len]; omega), us ++ [v11], upd_same, ?_, same_at hD (sm.trans s11)⟩
    have et : (sharesOf vs).take (i + 1) = (sharesOf vs).take i ++ [lowP r vs.sum] := by
      rw [List.take_add_one]
      unfold sharesOf
      rw [List.getElem?_map, hr']
      rfl
    rw [et]
    exact pps_grow eD11 (hP.same s11) p11
  · obtain ⟨us, eD, hP, sm⟩ := hW
    rw [List.length_map, List.take_of_length_le (by rw [shares_len]; omega)] at hP
    exact q _ _ vs (s10.trans sm) nD' ⟨hl, hb2, hs1, hs2⟩ ⟨us, eD, hP⟩

end
abbrev N__law_many_fields : List Str := ["_law_one", "_law_top"]
theorem sc__law_many_fields : FnScope N__law_many_fields ["_law_one", "_law_top"] (defScope s__law_many_fields) := ⟨rfl, rfl, rfl, by decide +kernel, rfl, by decide +kernel, by decide +kernel⟩
section
variable {P : Program} {w : World} {K : PySem.W.Frag} {mg : Str → Option Value} {base : Heap}
def sp__law_many_fields : Sp := fun vs H Q _ => ∃ x t : Int, vs = [.int x, .int t] ∧ 1 ≤ t ∧ ∀ n : Int, 1 ≤ n → n ≤ t → Q (.int n) H
theorem ok__law_many_fields {k : Nat} (D : Df K mg "_law_many_fields" s__law_many_fields ["_law_one", "_law_top"]) (m_min : mg "min" = none) : FnOk P w K mg base CX0 (k + 1) D.f D.fd ["_law_one", "_law_top"] sp__law_many_fields := by
  refine D.F.ok sc__law_many_fields (fun vs H Q E h => ?_) (fun cdv A outer s H vs Q E hr h => ?_)
  · obtain ⟨x, t, rfl, _⟩ := h
    rfl
  obtain ⟨x, t, rfl, ht, q⟩ := h
  refine ⟨_, (pss_cons (ps_if (pt_cmpR op_eq (pe_op op_mod (pv 0) pe_int) pe_int (nomark _)) (pss_one (ps_ret (pe_op op_add pe_int (pe_op op_mod (pe_op op_fdivW (pv 0) pe_int) (pv 1))))) pss_nil)
      (pss_one (ps_ret (pe_op op_add pe_int (pe_op op_mod (pe_op op_fdivW (pv 0) pe_int) (pe_callB (call_min2 rfl) (by rfl) m_min (by decide +kernel) (pa_cons (pv 1) (pa_cons pe_int pa_nil)))))))), ?_⟩
  have c4 : ∀ x : Int, CDivW x 4 := fun x => bd_divok (n := 20) (by decide) (by unfold Bd; decide) (by decide)
  refine ⟨_, rfl, _, _, rfl, rfl, (by show (0 : Int) < _; decide), rfl, _, rfl, ite2 (fun e => ?_) (fun e => ?_)⟩
  · have h1 := Int.emod_nonneg (x / 4) (show t ≠ 0 by omega)
    have h2 := Int.emod_lt_of_pos (x / 4) (show 0 < t by omega)
    exact ⟨_, rfl, _, _, rfl, rfl, c4 _, _, rfl, _, _, rfl, rfl, (show 0 < t by omega), _, _, rfl, rfl, q _ (by omega) (by omega)⟩
  · have hm : 0 < (if (5 : Int) < t then 5 else t) := by split <;> omega
    have hm2 : (if (5 : Int) < t then 5 else t) ≤ t := by split <;> omega
    have h1 := Int.emod_nonneg (x / 4) (show (if (5 : Int) < t then 5 else t) ≠ 0 by omega)
    have h2 := Int.emod_lt_of_pos (x / 4) hm
    exact ⟨_, rfl, _, _, rfl, rfl, c4 _, _, rfl, _, _, rfl, _, _, rfl, rfl, hm, _, _, rfl, rfl, q _ (by omega) (by omega)⟩

end
abbrev N__law_alike : List Str := ["_law_found", "_law_due", "_law_one", "_law_other"]
theorem sc__law_alike : FnScope N__law_alike ["_law_found", "_law_due"] (defScope s__law_alike) := ⟨rfl, rfl, rfl, by decide +kernel, rfl, by decide +kernel, by decide +kernel⟩
section
variable {P : Program} {w : World} {K : PySem.W.Frag} {mg : Str → Option Value} {base : Heap}
theorem alike_step {k n : Nat} (T : Env K mg) (sp' : Sp) (G__law_alike : FnOk P w K mg base CX0 (k + 1) T.D__law_alike.f T.D__law_alike.fd ["_law_found", "_law_due"] sp') (hn : n = 0 ∨ ∃ m, n = m + 1 ∧ sp' = sp_alike K m) : FnOk P w K mg base CX0 (k + 2) T.D__law_alike.f T.D__law_alike.fd ["_law_found", "_law_due"] (sp_alike K n) := by
  have G__law_whole : FnOk P w K mg base CX0 1 T.D__law_whole.f T.D__law_whole.fd ["_law_found"] sp__law_whole := ok__law_whole T.D__law_whole T.m_isinstance T.m_int T.m_bool
  refine T.D__law_alike.F.ok sc__law_alike (fun vs H Q E h => ?_) (fun cdv A outer s H vs Q E hr h => ?_)
  · obtain ⟨v, u, d, rfl, _⟩ := h
    rfl
  obtain ⟨v, u, d, rfl, dv, du, pd, q⟩ := h
  refine ⟨_, (pss_cons (ps_if (pt_val (pe_callB call_isiT (by rfl) T.m_isinstance PyProof.Rows.boot_isinstance (pa_cons (pv 1) (pa_cons (pe_tup (pa_cons (pe_bltn (v := .ty "list") (by rfl) T.m_list PyProof.Rows.boot_list rfl) (pa_cons (pe_bltn (v := .ty "tuple") (by rfl) T.m_tuple PyProof.Rows.boot_tuple rfl) pa_nil))) pa_nil)))) (pss_cons (ps_if (PW.pt (pw_or (pt_cmpR op_ne (pe_callB call_isi (by rfl) T.m_isinstance PyProof.Rows.boot_isinstance (pa_cons (pv 1) (pa_cons (pe_bltn (v := .ty "list") (by rfl) T.m_list PyProof.Rows.boot_list rfl) pa_nil))) (pe_callB call_isi (by rfl) T.m_isinstance PyProof.Rows.boot_isinstance (pa_cons (pv 0) (pa_cons (pe_bltn (v := .ty "list") (by rfl) T.m_list PyProof.Rows.boot_list rfl) pa_nil))) (nomark _)) (pw_or1 (pt_cmpR op_ne (pe_callB call_isi (by rfl) T.m_isinstance PyProof.Rows.boot_isinstance (pa_cons (pv 1) (pa_cons (pe_bltn (v := .ty "tuple") (by rfl) T.m_tuple PyProof.Rows.boot_tuple rfl) pa_nil))) (pe_callB call_isi (by rfl) T.m_isinstance PyProof.Rows.boot_isinstance (pa_cons (pv 0) (pa_cons (pe_bltn (v := .ty "tuple") (by rfl) T.m_tuple PyProof.Rows.boot_tuple rfl) pa_nil))) (nomark _))))) (pss_one (ps_ret pe_bl)) pss_nil)
      (pss_one (ps_ret (pe_and (pe_cmpR op_eq (pe_callB call_len_seq (by rfl) T.m_len PySem.boot_len (pa_cons (pv 0) pa_nil)) (pe_callB call_len_seq (by rfl) T.m_len PySem.boot_len (pa_cons (pv 1) pa_nil)) (nomark _)) (pe_one (pe_callB (cr_all rfl) (by rfl) T.m_all PyProof.Rows.boot_all (pa_cons (pe_lc (own := [("_law_one", 2), ("_law_other", 3)]) (g := gTup K 2 (gCons (gName 2) (gCons (gName 3) gNil))) (tt := tYes) rfl sc__law_alike.nd (RZ.pi_zipA (by rfl) T.m_zip (pa_cons (pv 0) (pa_cons (pv 1) pa_nil))) (blkOk_by (N := N__law_alike) (sc := defScope s__law_alike) (by decide +kernel)) (fun _ _ _ _ _ => pg_tup rfl (pgs_cons (pg_name (i := 2) sc__law_alike.nd rfl (Or.inl rfl)) (pgs_cons (pg_name (i := 3) sc__law_alike.nd rfl (Or.inl rfl)) pgs_nil))) (fun _ _ _ _ _ => pts_nil) (fun _ _ _ _ _ => (pe_call G__law_alike (hr.mono (by omega)) (by rfl) T.D__law_alike.g T.D__law_alike.F.kp T.D__law_alike.b .nil pass0 (pa_cons (pv 2) (pa_cons (pv 3) pa_nil))))) pa_nil))))))) pss_nil)
      (pss_cons (ps_if (PW.pt (pw_or (pt_val (pe_callB call_isi (by rfl) T.m_isinstance PyProof.Rows.boot_isinstance (pa_cons (pv 1) (pa_cons (pe_bltn (v := .ty "str") (by rfl) T.m_str PyProof.Rows.boot_str rfl) pa_nil)))) (pw_or1 (pt_cmpR op_isN (pv 1) pe_non (nomark _))))) (pss_one (ps_ret (pe_cmpR op_eq (pv 0) (pv 1) (nomark _)))) pss_nil)
      (pss_one (ps_ret (pe_and (pe_call G__law_whole (hr.mono (by omega)) (by rfl) T.D__law_whole.g T.D__law_whole.F.kp T.D__law_whole.b .nil pass0 (pa_cons (pv 0) pa_nil)) (pe_one (pe_cmpR op_eq (pv 0) (pv 1) (nomark _)))))))), ?_⟩
  refine ⟨_, rfl, (by show 2 ≤ sizeLine; decide), fun tp htp => ?_⟩
  have st := same_upd (o := .tup [.ty "list", .ty "tuple"]) htp
  have dv1 := dp_same st dv
  have du1 := dp_same st du
  have kd : PySem.W.kitAny K (.type "list") [.type "list", .type "tuple"] = some true := kitAny_cons (b := true) (kit_ty (by decide +kernel)) (fun z => nomatch z) (fun _ => rfl)
  have kt : PySem.W.kitAny K (.type "tuple") [.type "list", .type "tuple"] = some true := kitAny_cons (b := false) (kit_ty (by decide +kernel)) (fun _ => kitAny_cons (b := true) (kit_ty (by decide +kernel)) (fun z => nomatch z) (fun _ => rfl)) (fun z => nomatch z)
  have ki : ∀ s, kitB s "list" = some false → kitB s "tuple" = some false → PySem.W.kitAny K (.type s) [.type "list", .type "tuple"] = some false := fun s h1 h2 => kitAny_cons (b := false) (kit_ty h1) (fun _ => kitAny_cons (b := false) (kit_ty h2) (fun _ => kitAny_nil) (fun z => nomatch z)) (fun z => nomatch z)
  have pc : Paired ClsV [.ty "list", .ty "tuple"] [.type "list", .type "tuple"] := .cons (.ty "list") (.cons (.ty "tuple") .nil)
  have all_true : ∀ i : Nat, ((List.replicate i true).all id) = true := fun i => by simp
  cases d with
  | int i =>
    cases dv1
    cases du1
    refine ⟨_, tp, _, _, _, _, rfl, upd_same, pc, .base (.int i), ki _ (by decide +kernel) (by decide +kernel), _, rfl, iteF ?_⟩
    refine ⟨_, rfl, _, _, _, _, false, rfl, .ty "str", .base (.int i), kit_ty (by decide +kernel), _, rfl, iteF ?_⟩
    refine ⟨_, rfl, rfl, _, rfl, iteF ?_⟩
    refine ⟨_, rfl, _, rfl, true, rfl, iteT ?_⟩
    refine ⟨_, rfl, _, rfl, rfl, ?_⟩
    rw [decide_eq_true rfl]
    exact q _ st
  | str z =>
    cases dv1
    cases du1
    refine ⟨_, tp, _, _, _, _, rfl, upd_same, pc, .base (.str z), ki _ (by decide +kernel) (by decide +kernel), _, rfl, iteF ?_⟩
    refine ⟨_, rfl, _, _, _, _, true, rfl, .ty "str", .base (.str z), kit_ty (by decide +kernel), _, rfl, iteT ?_⟩
    refine ⟨_, rfl, _, rfl, rfl, ?_⟩
    rw [decide_eq_true rfl]
    exact q _ st
  | none =>
    cases dv1
    cases du1
    refine ⟨_, tp, _, _, _, _, rfl, upd_same, pc, .base .non, ki _ (by decide +kernel) (by decide +kernel), _, rfl, iteF ?_⟩
    refine ⟨_, rfl, _, _, _, _, false, rfl, .ty "str", .base .non, kit_ty (by decide +kernel), _, rfl, iteF ?_⟩
    refine ⟨_, rfl, rfl, _, rfl, iteT ?_⟩
    refine ⟨_, rfl, _, rfl, rfl, ?_⟩
    rw [decide_eq_true rfl]
    exact q _ st
  | list ds =>
    obtain ⟨m, rfl, rfl⟩ : ∃ m, n = m + 1 ∧ sp' = sp_alike K m := by
      rcases hn with rfl | h
      · exact pd.elim
      · exact h
    obtain ⟨hl, hp⟩ := pd
    cases dv1 with
    | @lst a xs _ sa da =>
    cases du1 with
    | @lst b ys _ sb db =>
    have la := dps_len da
    have lb := dps_len db
    refine ⟨_, tp, _, _, _, _, rfl, upd_same, pc, sqL_ty sb, kd, _, rfl, iteT ?_⟩
    refine ⟨_, rfl, _, _, _, _, true, rfl, .ty "list", sqL_ty sb, kit_ty (by decide +kernel), _, rfl, _, _, _, _, true, rfl, .ty "list", sqL_ty sa, kit_ty (by decide +kernel), rfl, _, rfl, iteNS rfl ?_⟩
    refine ⟨_, rfl, _, _, _, _, false, rfl, .ty "tuple", sqL_ty sb, kit_ty (by decide +kernel), _, rfl, _, _, _, _, false, rfl, .ty "tuple", sqL_ty sa, kit_ty (by decide +kernel), rfl, _, rfl, iteNS rfl ?_⟩
    refine ⟨_, rfl, a, xs, rfl, .inl sa, _, rfl, b, ys, rfl, .inl sb, rfl, _, rfl, ?_⟩
    rw [show decide (V.int ((xs.length : Nat) : Int) = V.int ((ys.length : Nat) : Int)) = true from decide_eq_true (by rw [la, lb])]
    refine iteT ?_
    refine ⟨_, rfl, _, rfl, a, b, xs, ys, rfl, .inl ⟨sa, sb, fun Dd hD => ?_⟩⟩
    refine lc_it (walk_zip (xs := xs) (ys := ys) (n := ds.length) (by rw [la, lb, Nat.min_self])) (fun i H' => H' Dd = some (.lst ((List.replicate i true).map V.bl)) ∧ Same (upd H tp (.tup [.ty "list", .ty "tuple"])) H') ⟨upd_same, same_upd hD⟩ (fun i H' _ hW => ⟨hW.2.seq sa, hW.2.seq sb⟩) (fun i x H' H'' hi hW hy => ?_) (fun H' hW => ?_)
    · obtain ⟨eD, sm⟩ := hW
      obtain ⟨t, x1, x2, rfl, nT, rfl, f1, f2⟩ := hy
      obtain ⟨d1, g1, p1⟩ := dps_get da f1
      obtain ⟨d2, g2, p2⟩ := dps_get db f2
      obtain rfl : d1 = d2 := Option.some.inj (g1.symm.trans g2)
      have sT := same_upd (o := .tup [x1, x2]) nT
      refine ⟨t, [x1, x2], rfl, SqT.of upd_same, rfl, x1, [x2], rfl, x2, [], rfl, rfl, ?_⟩
      refine ⟨rfl, ?_⟩
      dsimp only [tYes]
      rw [if_pos rfl]
      refine ⟨_, rfl, _, rfl, x1, x2, d1, rfl, dp_same (sm.trans sT) p1, dp_same (sm.trans sT) p2, hp d1 (List.mem_of_getElem? g1), fun H3 s3 => ?_⟩
      refine ⟨_, s3 _ _ (sT _ _ eD), small1000 (by rw [List.length_map, List.length_replicate]; omega), ?_, same_at hD (sm.trans (sT.trans s3))⟩
      rw [upd_same, List.replicate_succ', List.map_append]
      rfl
    · obtain ⟨eD, sm⟩ := hW
      refine ⟨Dd, _, rfl, SqL.of eD, ?_⟩
      rw [all_true]
      exact q _ (st.trans sm)
  | tuple ds =>
    obtain ⟨m, rfl, rfl⟩ : ∃ m, n = m + 1 ∧ sp' = sp_alike K m := by
      rcases hn with rfl | h
      · exact pd.elim
      · exact h
    obtain ⟨hl, hp⟩ := pd
    cases dv1 with
    | @tup a xs _ sa da =>
    cases du1 with
    | @tup b ys _ sb db =>
    have la := dps_len da
    have lb := dps_len db
    refine ⟨_, tp, _, _, _, _, rfl, upd_same, pc, sqT_ty sb, kt, _, rfl, iteT ?_⟩
    refine ⟨_, rfl, _, _, _, _, false, rfl, .ty "list", sqT_ty sb, kit_ty (by decide +kernel), _, rfl, _, _, _, _, false, rfl, .ty "list", sqT_ty sa, kit_ty (by decide +kernel), rfl, _, rfl, iteNS rfl ?_⟩
    refine ⟨_, rfl, _, _, _, _, true, rfl, .ty "tuple", sqT_ty sb, kit_ty (by decide +kernel), _, rfl, _, _, _, _, true, rfl, .ty "tuple", sqT_ty sa, kit_ty (by decide +kernel), rfl, _, rfl, iteNS rfl ?_⟩
    refine ⟨_, rfl, a, xs, rfl, .inr sa, _, rfl, b, ys, rfl, .inr sb, rfl, _, rfl, ?_⟩
    rw [show decide (V.int ((xs.length : Nat) : Int) = V.int ((ys.length : Nat) : Int)) = true from decide_eq_true (by rw [la, lb])]
    refine iteT ?_
    refine ⟨_, rfl, _, rfl, a, b, xs, ys, rfl, .inr ⟨sa, sb, fun Dd hD => ?_⟩⟩
    refine lc_it (walk_zipT (xs := xs) (ys := ys) (n := ds.length) (by rw [la, lb, Nat.min_self])) (fun i H' => H' Dd = some (.lst ((List.replicate i true).map V.bl)) ∧ Same (upd H tp (.tup [.ty "list", .ty "tuple"])) H') ⟨upd_same, same_upd hD⟩ (fun i H' _ hW => ⟨same_seqT hW.2 sa, same_seqT hW.2 sb⟩) (fun i x H' H'' hi hW hy => ?_) (fun H' hW => ?_)
    · obtain ⟨eD, sm⟩ := hW
      obtain ⟨t, x1, x2, rfl, nT, rfl, f1, f2⟩ := hy
      obtain ⟨d1, g1, p1⟩ := dps_get da f1
      obtain ⟨d2, g2, p2⟩ := dps_get db f2
      obtain rfl : d1 = d2 := Option.some.inj (g1.symm.trans g2)
      have sT := same_upd (o := .tup [x1, x2]) nT
      refine ⟨t, [x1, x2], rfl, SqT.of upd_same, rfl, x1, [x2], rfl, x2, [], rfl, rfl, ?_⟩
      refine ⟨rfl, ?_⟩
      dsimp only [tYes]
      rw [if_pos rfl]
      refine ⟨_, rfl, _, rfl, x1, x2, d1, rfl, dp_same (sm.trans sT) p1, dp_same (sm.trans sT) p2, hp d1 (List.mem_of_getElem? g1), fun H3 s3 => ?_⟩
      refine ⟨_, s3 _ _ (sT _ _ eD), small1000 (by rw [List.length_map, List.length_replicate]; omega), ?_, same_at hD (sm.trans (sT.trans s3))⟩
      rw [upd_same, List.replicate_succ', List.map_append]
      rfl
    · obtain ⟨eD, sm⟩ := hW
      refine ⟨Dd, _, rfl, SqL.of eD, ?_⟩
      rw [all_true]
      exact q _ (st.trans sm)
  | bool b => cases n <;> exact (show False from pd).elim
  | dict kvs => cases n <;> exact (show False from pd).elim
theorem ok__law_alike (T : Env K mg) : ∀ n k : Nat, FnOk P w K mg base CX0 (k + n + 2) T.D__law_alike.f T.D__law_alike.fd ["_law_found", "_law_due"] (sp_alike K n)
  | 0, k => alike_step (k := k) T (fun _ _ _ _ => False) ⟨fun _ _ _ _ h => h.elim, fun _ _ _ _ _ _ _ _ _ _ _ _ _ h => h.elim⟩ (.inl rfl)
  | n + 1, k => by
    have ih := ok__law_alike T n k
    exact alike_step (k := k + n + 1) T (sp_alike K n) ih (.inr ⟨n, rfl, rfl⟩)

end
abbrev N__law_season : List Str := ["_law_row", "_law_n", "_law_hours", "_law_step", "_law_rows", "_law_k"]
theorem sc__law_season : FnScope N__law_season ["_law_row"] (defScope s__law_season) := ⟨rfl, rfl, rfl, by decide +kernel, rfl, by decide +kernel, by decide +kernel⟩
section
variable {P : Program} {w : World} {K : PySem.W.Frag} {mg : Str → Option Value} {base : Heap}
theorem ok__law_season {k : Nat} (T : Env K mg) : FnOk P w K mg base CX0 (k + 3) T.D__law_season.f T.D__law_season.fd ["_law_row"] (sp_season K) := by
  have G__law_many_fields : FnOk P w K mg base CX0 2 T.D__law_many_fields.f T.D__law_many_fields.fd ["_law_one", "_law_top"] sp__law_many_fields := ok__law_many_fields T.D__law_many_fields T.m_min
  have G__law_shares : FnOk P w K mg base CX0 2 T.D__law_shares.f T.D__law_shares.fd ["_law_row", "_law_n"] (sp__law_shares K) := ok__law_shares T.D__law_shares T.D__law_low T.m_abs T.m_int T.m_sum
  refine T.D__law_season.F.ok sc__law_season (fun vs H Q E h => ?_) (fun cdv A outer s H vs Q E hr h => ?_)
  · obtain ⟨pr, rs, rfl, _⟩ := h
    rfl
  obtain ⟨pr, rs, rfl, epr, hrl, hb, q⟩ := h
  have c15 : ∀ x : Int, CDivW x 15 := fun x => bd_divok (n := 20) (by decide) (by unfold Bd; decide) (by decide)
  have hS := fun {H' : Hp} (sm : Same H H') => (SqL.of (sm _ _ epr) : SqL K H' pr (rs.map V.int))
  refine ⟨_, (pss_cons (ps_set (i := 1) sc__law_season.nd rfl (.inr rfl) (pe_call G__law_many_fields (hr.mono (by omega)) (by rfl) T.D__law_many_fields.g T.D__law_many_fields.F.kp T.D__law_many_fields.b .nil pass0 (pa_cons (pe_ix ix_list (pv 0) pe_int (fun _ _ => rfl)) (pa_cons pe_int pa_nil))))
      (pss_cons (ps_set (i := 2) sc__law_season.nd rfl (.inl rfl) (pe_op op_mod (pe_ix ix_list (pv 0) pe_int (fun _ _ => rfl)) pe_int))
      (C8.pss_cut (ps_if (pt_cmpR op_eq (pe_op op_mod (pe_ix ix_list (pv 0) pe_int (fun _ _ => rfl)) pe_int) pe_int (nomark _)) (pss_one (ps_set (i := 2) sc__law_season.nd rfl (.inl rfl) (pe_op op_mod (pe_ix ix_list (pv 0) pe_int (fun _ _ => rfl)) pe_int))) pss_nil)
      (C8.pss_cut (ps_if (PW.pt (pw_and (pt_cmpR op_eq (pe_op op_mod (pe_ix ix_list (pv 0) pe_int (fun _ _ => rfl)) pe_int) pe_int (nomark _)) (pw_and1 (pt_cmpR op_lt (pv 1) pe_int (nomark _))))) (pss_one (ps_set (i := 2) sc__law_season.nd rfl (.inl rfl) (pe_op op_mod (pe_ix ix_list (pv 0) pe_int (fun _ _ => rfl)) pe_int))) pss_nil)
      (pss_cons (ps_set (i := 3) sc__law_season.nd rfl (.inr rfl) (pe_op op_add (pv 1) pe_int))
      (C8.pss_cut (ps_if (pt_cmpR op_eq (pe_op op_mod (pe_ix ix_list (pv 0) pe_int (fun _ _ => rfl)) pe_int) pe_int (nomark _)) (pss_one (ps_set (i := 3) sc__law_season.nd rfl (.inr rfl) pe_int)) pss_nil)
      (C8.pss_cut (ps_if (pt_cmpR op_gt (pe_op op_mul (pv 2) (pv 3)) pe_int (nomark _)) (pss_one (ps_set (i := 2) sc__law_season.nd rfl (.inl rfl) (pe_op op_fdivW pe_int (pv 3)))) pss_nil)
      (pss_cons (ps_set (i := 4) sc__law_season.nd rfl (.inr rfl) (pe_lc (own := [("_law_k", 5)]) (g := gName 5) (tt := tYes) rfl sc__law_season.nd (pi_range1 (by rfl) T.m_range (pa_cons (pv 2) pa_nil)) (blkOk_by (N := N__law_season) (sc := defScope s__law_season) (by decide +kernel)) (fun _ _ _ _ _ => pg_name (i := 5) sc__law_season.nd rfl (Or.inl rfl)) (fun _ _ _ _ _ => pts_nil) (fun _ _ _ _ _ => (pe_call G__law_shares (hr.mono (by omega)) (by rfl) T.D__law_shares.g T.D__law_shares.F.kp T.D__law_shares.b .nil pass0 (pa_cons (pe_slice (r := rSlL K) sl_list (pv 0) (po_some (pe_op op_add pe_int (pe_op op_mul (pv 5) (pv 3)))) po_none) (pa_cons (pv 1) pa_nil))))))
      (C8.pss_cut (ps_if (pt_cmpR op_eq (pe_op op_mod (pe_op op_fdivW (pe_ix ix_list (pv 0) pe_int (fun _ _ => rfl)) pe_int) pe_int) pe_int (nomark _)) (pss_one (ps_set (i := 4) sc__law_season.nd rfl (.inr rfl) (pe_lc (own := [("_law_k", 5)]) (g := gName 5) (tt := tYes) rfl sc__law_season.nd (pi_range1 (by rfl) T.m_range (pa_cons (pv 2) pa_nil)) (blkOk_by (N := N__law_season) (sc := defScope s__law_season) (by decide +kernel)) (fun _ _ _ _ _ => pg_name (i := 5) sc__law_season.nd rfl (Or.inl rfl)) (fun _ _ _ _ _ => pts_nil) (fun _ _ _ _ _ => (pe_ifExp (pt_cmpR op_lt (pe_op op_mod (pv 5) pe_int) pe_int (nomark _)) (pe_ix (r := rIxL K) ix_list (pv 4) pe_int (fun _ _ => rfl)) (pe_ix (r := rIxL K) ix_list (pv 4) (pv 5) (fun _ _ => rfl))))))) pss_nil)
      (pss_one (ps_ret (pe_tup (pa_cons (pv 1) (pa_cons (pv 4) pa_nil)))))))))))))), ?_⟩
  refine ⟨_, rfl, pr, _, _, _, rfl, rfl, hS (Same.refl _), ls_z 0 rfl (by omega), _, 12, rfl, by decide, fun n' hn1 hn2 => ?_⟩
  obtain ⟨n, rfl⟩ : ∃ n : Nat, n' = (n : Int) := ⟨n'.toNat, by omega⟩
  have mb : ∀ (x m : Int), 0 < m → 0 ≤ x % m ∧ x % m < m := fun x m hm => ⟨Int.emod_nonneg _ (by omega), Int.emod_lt_of_pos _ hm⟩
  refine ⟨_, rfl, pr, _, _, _, rfl, rfl, hS (Same.refl _), ls_z 1 rfl (by omega), _, _, rfl, rfl, (by show (0 : Int) < 13; decide), ?_⟩
  refine ⟨fun σ H' => ∃ (h : Nat), σ = [some (.ref pr), some (.int (n : Int)), some (.int (h : Int)), none, none, none] ∧ h ≤ 60 ∧ Same H H', ?_, fun σ1 H1 hm => ?_⟩
  · refine ⟨_, rfl, pr, _, _, _, rfl, rfl, hS (Same.refl _), ls_z 2 rfl (by omega), _, _, rfl, rfl, (by show (0 : Int) < 5; decide), rfl, _, rfl, ite2 (fun e => ?_) (fun e => ?_)⟩
    · refine ⟨_, rfl, pr, _, _, _, rfl, rfl, hS (Same.refl _), ls_z 1 rfl (by omega), _, _, rfl, rfl, (by show (0 : Int) < 61; decide), ?_⟩
      have := mb (rs.getD 1 0) 61 (by decide)
      exact ⟨(rs.getD 1 0 % 61).toNat, by rw [Int.toNat_of_nonneg this.1]; rfl, by omega, Same.refl _⟩
    · have := mb (rs.getD 1 0) 13 (by decide)
      exact ⟨(rs.getD 1 0 % 13).toNat, by rw [Int.toNat_of_nonneg this.1]; rfl, by omega, Same.refl _⟩
  obtain ⟨h1, rfl, hh1, s1⟩ := hm
  refine ⟨fun σ H' => ∃ (h : Nat), σ = [some (.ref pr), some (.int (n : Int)), some (.int (h : Int)), none, none, none] ∧ h ≤ 60 ∧ Same H H', ?_, fun σ2 H2 hm => ?_⟩
  · refine ⟨_, rfl, pr, _, _, _, rfl, rfl, hS s1, ls_z 2 rfl (by omega), _, _, rfl, rfl, (by show (0 : Int) < 5; decide), rfl, _, rfl, ite2 (fun e => ?_) (fun e => ?_)⟩
    · refine ⟨_, rfl, _, _, rfl, rfl, _, rfl, ite2 (fun e => ?_) (fun e => ?_)⟩
      · refine ⟨_, rfl, pr, _, _, _, rfl, rfl, hS s1, ls_z 1 rfl (by omega), _, _, rfl, rfl, (by show (0 : Int) < 41; decide), ?_⟩
        have := mb (rs.getD 1 0) 41 (by decide)
        exact ⟨(rs.getD 1 0 % 41).toNat, by rw [Int.toNat_of_nonneg this.1]; rfl, by omega, s1⟩
      · exact ⟨h1, rfl, hh1, s1⟩
    · exact iteF ⟨h1, rfl, hh1, s1⟩
  obtain ⟨h2, rfl, hh2, s2⟩ := hm
  refine ⟨_, rfl, _, _, rfl, rfl, ?_⟩
  refine ⟨fun σ H' => ∃ (st : Nat), σ = [some (.ref pr), some (.int (n : Int)), some (.int (h2 : Int)), some (.int (st : Int)), none, none] ∧ (st = 0 ∨ st = n + 1) ∧ Same H H', ?_, fun σ3 H3 hm => ?_⟩
  · refine ⟨_, rfl, pr, _, _, _, rfl, rfl, hS s2, ls_z 2 rfl (by omega), _, _, rfl, rfl, (by show (0 : Int) < 3; decide), rfl, _, rfl, ite2 (fun e => ?_) (fun e => ?_)⟩
    · exact ⟨0, rfl, .inl rfl, s2⟩
    · exact ⟨n + 1, rfl, .inr rfl, s2⟩
  obtain ⟨st, rfl, hst, s3⟩ := hm
  refine ⟨fun σ H' => ∃ (h : Nat), σ = [some (.ref pr), some (.int (n : Int)), some (.int (h : Int)), some (.int (st : Int)), none, none] ∧ h ≤ 60 ∧ h * st ≤ 420 ∧ Same H H', ?_, fun σ4 H4 hm => ?_⟩
  · have stn : st ≤ 13 := by omega
    have m1 : ((h2 * st : Nat) : Int) = (h2 : Int) * (st : Int) := by rw [Int.natCast_mul]
    refine ⟨_, rfl, _, rfl, _, _, rfl, rfl, .inr ⟨by omega, by omega⟩, _, _, rfl, rfl, _, rfl, ite2 (fun e => ?_) (fun e => ?_)⟩
    · have e : (420 : Int) < (h2 : Int) * (st : Int) := by simpa using e
      have sp : 0 < st := Nat.pos_of_ne_zero fun z => by rw [z] at e; simp at e
      refine ⟨_, rfl, _, _, rfl, rfl, bd_divok (n := 20) (by omega) (Bd.of (m := 100) (by omega) (by omega) (by decide)) (by decide), ?_⟩
      have e1 := Nat.div_mul_le_self 420 st
      have e2 : 420 / st < h2 := by
        apply Nat.lt_of_mul_lt_mul_right (a := st)
        omega
      exact ⟨420 / st, rfl, by omega, e1, s3⟩
    · have e : (h2 : Int) * (st : Int) ≤ 420 := by
        have := e
        simp at this
        omega
      exact ⟨h2, rfl, hh2, by omega, s3⟩
  obtain ⟨h4, rfl, hh4, hm4, s4⟩ := hm
  refine ⟨_, rfl, (h4 : Int), rfl, by omega, by omega, fun Dr hDr => ?_⟩
  have nDr : H Dr = none := s4.free hDr
  refine lc_range (lo := 0) (n := h4) (fun i H' => ∃ (us : List V) (wss : List (List Int)), H' Dr = some (.lst us) ∧ wss.length = i ∧ (∀ ws ∈ wss, WsOk n ws) ∧ Al (RowV K H') us (wss.map sharesOf) ∧ (∀ u ∈ us, u ≠ .ref Dr) ∧ Same H4 H') ⟨[], [], upd_same, rfl, (fun _ z => nomatch z), .nil, (fun _ z => nomatch z), same_upd hDr⟩ (fun i H' hi hW => ?_) (fun H5 hW => ?_)
  · obtain ⟨us, wss, eD, wl, wo, hV, nd, sm⟩ := hW
    have pk : (i + 1) * st ≤ 420 := Nat.le_trans (Nat.mul_le_mul_right st hi) hm4
    have pk2 : (i + 1) * st = i * st + st := Nat.succ_mul i st
    have m1 : ((i * st : Nat) : Int) = (i : Int) * (st : Int) := by rw [Int.natCast_mul]
    have room : 3 + i * st + n < 440 := by omega
    refine ⟨rfl, ?_⟩
    dsimp only [tYes]
    rw [if_pos rfl]
    refine ⟨_, rfl, _, rfl, _, rfl, _, _, rfl, rfl, .inr ⟨by omega, by omega⟩, _, _, rfl, rfl, ((3 + i * st : Nat) : Int), ?_, ?_⟩
    · rw [Int.zero_add, Int.natCast_add, m1]
      rfl
    refine ⟨pr, _, rfl, hS (s4.trans sm), fun pc hc => ?_⟩
    rw [cut_from rs (3 + i * st) (by omega)]
    have sc := same_upd (o := .lst ((rs.drop (3 + i * st)).map V.int)) hc
    refine ⟨_, rfl, pc, rs.drop (3 + i * st), n, rfl, upd_same, by omega, by omega, by rw [List.length_drop]; omega, fun r hr => hb r (List.mem_of_mem_drop hr), fun H6 p6 ws s6 n6 wk l6 => ?_⟩
    have sa := sc.trans s6
    have eD6 := sa _ _ eD
    have ul := hV.1
    rw [List.length_map, wl] at ul
    have n6' : V.ref p6 ≠ V.ref Dr := fun z => by
      injection z with z
      rw [z, sc _ _ eD] at n6
      cases n6
    obtain ⟨g1, g2⟩ := rows_grow eD6 (hV.imp fun _ _ _ => RowV.same sa) nd ⟨p6, rfl, l6⟩ n6'
    refine ⟨us, eD6, small1000 (by omega), _, wss ++ [ws], upd_same, by rw [List.length_append, wl]; rfl, fun x hx => ?_, ?_, g2, same_at hDr (sm.trans sa)⟩
    · rcases List.mem_append.1 hx with hx | hx
      · exact wo x hx
      · rw [List.mem_singleton.1 hx]; exact wk
    · rw [List.map_append]
      exact g1
  obtain ⟨us, wss, eD, wl, wo, hV, nd, s5⟩ := hW
  have sH5 := s4.trans s5
  refine ⟨fun σ H' => ∃ (pR : Addr) (wss : List (List Int)) (y5 : Option V), σ = [some (.ref pr), some (.int (n : Int)), some (.int (h4 : Int)), some (.int (st : Int)), some (.ref pR), y5] ∧ wss.length ≤ 60 ∧ (∀ ws ∈ wss, WsOk n ws) ∧ LR K H' pR (wss.map sharesOf) ∧ Same H H', ?_, fun σ6 H6 hm => ?_⟩
  · refine ⟨_, rfl, pr, _, _, _, rfl, rfl, hS sH5, ls_z 2 rfl (by omega), _, _, rfl, rfl, c15 _, _, _, rfl, rfl, (by show (0 : Int) < 4; decide), rfl, _, rfl, ite2 (fun e => ?_) (fun e => ?_)⟩
    · refine ⟨_, rfl, (h4 : Int), rfl, by omega, by omega, fun Dn hDn => ?_⟩
      refine lc_range (lo := 0) (n := h4) (fun i H' => ∃ (vs : List V) (xss : List (List Int)), H' Dn = some (.lst vs) ∧ xss.length = i ∧ (∀ ws ∈ xss, WsOk n ws) ∧ Al (RowV K H') vs (xss.map sharesOf) ∧ (∀ u ∈ vs, u ≠ .ref Dn) ∧ Same H5 H') ⟨[], [], upd_same, rfl, (fun _ z => nomatch z), .nil, (fun _ z => nomatch z), same_upd hDn⟩ (fun i H' hi hW => ?_) (fun H7 hW => ?_)
      · obtain ⟨vs, xss, eN, xl, xo, hX, nx, sm⟩ := hW
        have ul := hX.1
        rw [List.length_map, xl] at ul
        have put : ∀ j, j < h4 → ∃ v ws, us[j]? = some v ∧ WsOk n ws ∧ RowV K H' v (sharesOf ws) ∧ v ≠ .ref Dn := fun j hj => by
          have ej : wss[j]? = some wss[j] := List.getElem?_eq_getElem (by omega)
          obtain ⟨v, ev, q', rfl, l'⟩ := hV.at (i := j) (x := sharesOf wss[j]) (by rw [List.getElem?_map, ej]; rfl)
          refine ⟨_, _, ev, wo _ (List.mem_of_getElem? ej), ⟨q', rfl, l'.same sm⟩, fun z => ?_⟩
          injection z with z
          obtain ⟨_, e', _⟩ := l'
          rw [z, hDn] at e'
          cases e'
        have fin : ∀ v ws, WsOk n ws → RowV K H' v (sharesOf ws) → v ≠ .ref Dn → ∃ acc, H' Dn = some (.lst acc) ∧ acc.length < sizeLine ∧ ∃ (vs : List V) (xss : List (List Int)), upd H' Dn (.lst (acc ++ [v])) Dn = some (.lst vs) ∧ xss.length = i + 1 ∧ (∀ ws ∈ xss, WsOk n ws) ∧ Al (RowV K (upd H' Dn (.lst (acc ++ [v])))) vs (xss.map sharesOf) ∧ (∀ u ∈ vs, u ≠ .ref Dn) ∧ Same H5 (upd H' Dn (.lst (acc ++ [v]))) := fun v ws wk hv nv => by
          obtain ⟨g1, g2⟩ := rows_grow eN hX nx hv nv
          refine ⟨vs, eN, small1000 (by omega), _, xss ++ [ws], upd_same, by rw [List.length_append, xl]; rfl, fun x hx => ?_, ?_, g2, same_at hDn sm⟩
          · rcases List.mem_append.1 hx with hx | hx
            · exact xo x hx
            · rw [List.mem_singleton.1 hx]; exact wk
          · rw [List.map_append]
            exact g1
        refine ⟨rfl, ?_⟩
        dsimp only [tYes]
        rw [if_pos rfl]
        refine ⟨_, rfl, _, _, rfl, rfl, (by show (0 : Int) < 3; decide), _, _, rfl, rfl, _, rfl, ite2 (fun e => ?_) (fun e => ?_)⟩
        · obtain ⟨v, ws, ev, wk, hv, nv⟩ := put 0 (by omega)
          exact ⟨_, rfl, Dr, us, 0, v, rfl, rfl, SqL.of (sm _ _ eD), atI_nat (j := 0) ev, fin v ws wk hv nv⟩
        · obtain ⟨v, ws, ev, wk, hv, nv⟩ := put i hi
          exact ⟨_, rfl, _, rfl, Dr, us, _, v, rfl, rfl, SqL.of (sm _ _ eD), by rw [Int.zero_add]; exact atI_nat ev, fin v ws wk hv nv⟩
      · obtain ⟨vs, xss, eN, xl, xo, hX, nx, sm⟩ := hW
        exact ⟨Dn, xss, _, rfl, by omega, xo, ⟨vs, eN, hX⟩, sH5.trans sm⟩
    · exact ⟨Dr, wss, _, rfl, by omega, wo, ⟨us, eD, hV⟩, sH5⟩
  obtain ⟨pR, xss, y5, rfl, xl, xo, lR, s6⟩ := hm
  refine ⟨_, rfl, _, rfl, (by show 2 ≤ sizeLine; decide), fun t ht => ?_⟩
  have st' := same_upd (o := .tup [.int (n : Int), .ref pR]) ht
  exact q _ t pR n xss (s6.trans st') (SqT.of upd_same) (by omega) (by omega) xl xo (lR.same st')

end
abbrev N__law_gains : List Str := ["_law_rows", "_law_n", "_law_now", "_law_found", "_law_shares_here", "_law_place", "_law_a", "_law_b"]
theorem sc__law_gains : FnScope N__law_gains ["_law_rows", "_law_n"] (defScope s__law_gains) := ⟨rfl, rfl, rfl, by decide +kernel, rfl, by decide +kernel, by decide +kernel⟩
section
variable {P : Program} {w : World} {K : PySem.W.Frag} {mg : Str → Option Value} {base : Heap}
theorem ok__law_gains {k : Nat} (T : Env K mg) : FnOk P w K mg base CX0 (k + 3) T.D__law_gains.f T.D__law_gains.fd ["_law_rows", "_law_n"] (sp_lgains K) := by
  have G__law_add : FnOk P w K mg base CX0 2 T.D__law_add.f T.D__law_add.fd ["_law_a", "_law_b"] (sp_two K anyC addP) := ok__law_add T.D__law_add T.D__law_low T.m_abs
  refine T.D__law_gains.F.ok sc__law_gains (fun vs H Q E h => ?_) (fun cdv A outer s H vs Q E hr h => ?_)
  · obtain ⟨p, n, rss, rfl, _⟩ := h
    rfl
  obtain ⟨p, n, rss, rfl, lr, hl, hn, hb, q⟩ := h
  obtain ⟨us, ep, hA⟩ := id lr
  refine ⟨_, (pss_cons (ps_setLc (i := 2) (own := [("_law_place", 5)]) (g := gName 5) (tt := tYes) rfl sc__law_gains.nd rfl rfl (sw_true rfl rfl rfl (by decide +kernel)) (pi_range1 (by rfl) T.m_range (pa_cons (pv 1) pa_nil)) (blkOk_by (N := N__law_gains) (sc := defScope s__law_gains) (by decide +kernel)) (fun _ _ _ _ _ => pg_name (i := 5) sc__law_gains.nd rfl (Or.inl rfl)) (fun _ _ _ _ _ => pts_nil) (fun _ _ _ _ _ => (pe_tup (pa_cons pe_int (pa_cons pe_int pa_nil)))))
      (pss_cons (ps_set (i := 3) sc__law_gains.nd rfl (.inl rfl) (pe_lst pa_nil))
      (pss_cons (ps_for PassesOwn.never rfl (pi_list (pv 0)) (pg_name (i := 4) sc__law_gains.nd rfl (.inl rfl)) (pss_cons (ps_setLc (i := 2) (own := [("_law_a", 6), ("_law_b", 7)]) (g := gTup K 2 (gCons (gName 6) (gCons (gName 7) gNil))) (tt := tYes) rfl sc__law_gains.nd rfl rfl (sw_true rfl rfl rfl (by decide +kernel)) (pi_zip (by rfl) T.m_zip (pa_cons (pv 2) (pa_cons (pv 4) pa_nil))) (blkOk_by (N := N__law_gains) (sc := defScope s__law_gains) (by decide +kernel)) (fun _ _ _ _ _ => pg_tup rfl (pgs_cons (pg_name (i := 6) sc__law_gains.nd rfl (Or.inl rfl)) (pgs_cons (pg_name (i := 7) sc__law_gains.nd rfl (Or.inl rfl)) pgs_nil))) (fun _ _ _ _ _ => pts_nil) (fun _ _ _ _ _ => (pe_call G__law_add (hr.mono (by omega)) (by rfl) T.D__law_add.g T.D__law_add.F.kp T.D__law_add.b .nil pass0 (pa_cons (pv 6) (pa_cons (pv 7) pa_nil)))))
      (pss_one (ps_expr (pe_bm PySem.F.plainAttrs_list PySem.F.slot_list_append PySem.F.type_list_append mt_append (pv 3) (pa_cons (pv 2) pa_nil))))))
      (pss_one (ps_ret (pv 3)))))), ?_⟩
  refine ⟨_, rfl, (n : Int), rfl, by omega, by omega, fun D0 hD0 => ?_⟩
  refine lc_range (lo := 0) (n := n) (fun i H' => ∃ us, H' D0 = some (.lst us) ∧ Pps K H' us (List.replicate i (0, 1)) ∧ Same H H') ⟨[], upd_same, .nil, same_upd hD0⟩ (fun i H' hi hW => ?_) (fun H1 hW => ?_)
  · obtain ⟨us, eD, hV, sm⟩ := hW
    have hvl := hV.len
    rw [List.length_replicate] at hvl
    refine ⟨rfl, ?_⟩
    dsimp only [tYes]
    rw [if_pos rfl]
    refine ⟨(by show 2 ≤ sizeLine; decide), fun t ht => ?_⟩
    have st := same_upd (o := .tup [.int 0, .int 1]) ht
    have eD2 := st _ _ eD
    refine ⟨us, eD2, small1000 (by omega), us ++ [.ref t], upd_same, ?_, same_at hD0 (sm.trans st)⟩
    rw [rep1]
    exact pps_grow eD2 (hV.same st) (x := (0, 1)) Pr.new
  obtain ⟨vs, eD, hV, s1⟩ := hW
  refine ⟨Nat.zero_le _, fun Df hDf => ?_⟩
  have sF := same_upd (o := .lst []) hDf
  have nDf : H Df = none := s1.free hDf
  refine ⟨_, rfl, p, rfl, ⟨_, SqL.of (sF _ _ (s1 _ _ ep))⟩, ?_⟩
  have n0 : D0 ≠ Df := fun z => by rw [← z, eD] at hDf; cases hDf
  refine for_list (xs := us) (fun i σ H3 => ∃ (q : Addr) (y4 y5 y6 y7 : Option V) (ws : List V), σ = [some (.ref p), some (.int (n : Int)), some (.ref q), some (.ref Df), y4, y5, y6, y7] ∧ q ≠ Df ∧ LP K H3 q (nowM rss n i) ∧ H3 Df = some (.lst ws) ∧ Al (RowV K H3) ws ((gnR rss n).take i) ∧ (∀ u ∈ ws, u ≠ .ref Df) ∧ Same H H3)
    ⟨D0, _, _, _, _, [], rfl, n0, ⟨vs, sF _ _ eD, by rw [nowM_zero]; exact hV.same sF⟩, upd_same, .nil, (fun _ z => nomatch z), s1.trans sF⟩ (fun i σ H3 _ hW => ?_) (fun i x σ H3 hx hW => ?_) (fun σ H3 hW => ?_)
  · obtain ⟨_, _, _, _, _, _, _, _, _, _, _, _, sm⟩ := hW
    exact SqL.of (sm _ _ ep)
  · obtain ⟨q, y4, y5, y6, y7, ws, rfl, nq, lq, eF, hG, nd, sm⟩ := hW
    obtain ⟨r, er, r', rfl, lr'⟩ := hA.of hx
    have hi : i < rss.length := (List.getElem?_eq_some_iff.1 er).1
    have hrr := hb r (List.mem_of_getElem? er)
    obtain ⟨as, ea, ha⟩ := id lq
    obtain ⟨bs, eb, hbs⟩ := lr'.same sm
    have ok1 := nowM_ok hb (show i ≤ rss.length by omega)
    have nl := nowM_len rss n i
    have al := ha.len
    have bl := hbs.len
    refine ⟨_, rfl, _, rfl, q, r', as, bs, rfl, SqL.of ea, SqL.of eb, fun Dn hDn => ?_⟩
    refine lc_it (walk_zip (xs := as) (ys := bs) (n := n) (by rw [al, bl, nl, hrr.2, Nat.min_self])) (fun j H' => ∃ vs, H' Dn = some (.lst vs) ∧ Pps K H' vs ((List.zipWith addP (nowM rss n i) r).take j) ∧ Same H3 H') ⟨[], upd_same, .nil, same_upd hDn⟩ (fun j H' _ hW => ?_) (fun j x H' H'' hj hW hy' => ?_) (fun H4 hW => ?_)
    · obtain ⟨vs, _, _, sm'⟩ := hW
      exact ⟨SqL.of (sm' _ _ ea), SqL.of (sm' _ _ eb)⟩
    · obtain ⟨vs, eD', hV', sm'⟩ := hW
      obtain ⟨T, x1, x2, rfl, nT, rfl, f1, f2⟩ := hy'
      obtain ⟨a, ha', pa⟩ := pps_get ha f1
      obtain ⟨b, hb', pb⟩ := pps_get hbs f2
      have oa := ok1 a (List.mem_of_getElem? ha')
      have ob := hrr.1 b (List.mem_of_getElem? hb')
      have st := same_upd (o := .tup [x1, x2]) nT
      have sm2 := sm'.trans st
      refine ⟨T, [x1, x2], rfl, SqT.of upd_same, rfl, x1, [x2], rfl, x2, [], rfl, rfl, ?_⟩
      refine ⟨rfl, ?_⟩
      dsimp only [tYes]
      rw [if_pos rfl]
      refine ⟨_, rfl, _, rfl, x1, x2, a, b, 1 + 27 * i, 26, rfl, pa.same sm2, pb.same sm2, oa.1, ob.1, by omega, trivial, fun H5 v5 s5 p5 => ?_⟩
      have eD5 := s5 _ _ (st _ _ eD')
      refine ⟨vs, eD5, small1000 ?_, vs ++ [v5], upd_same, ?_, same_at hDn (sm2.trans s5)⟩
      · rw [hV'.len, List.length_take]
        omega
      · rw [zip_at ha' hb']
        exact pps_grow eD5 ((hV'.same st).same s5) p5
    · obtain ⟨vs, eD', hV', sm'⟩ := hW
      rw [List.take_of_length_le (by rw [List.length_zipWith, nl]; omega), nowM_succ er hrr.2] at hV'
      have eF4 := sm' _ _ eF
      have nn : Dn ≠ Df := fun z => by rw [z, eF] at hDn; cases hDn
      have gl := hG.1
      rw [List.length_take, gnR_len] at gl
      refine ⟨_, rfl, .inl ⟨rfl, _, SqL.of eF4⟩, _, rfl, Df, ws, _, rfl, rfl, eF4, small1000 (by omega), ?_⟩
      obtain ⟨g1, g2⟩ := rows_grow (v := .ref Dn) (r := nowM rss n (i + 1)) eF4 (hG.imp fun _ _ _ => RowV.same sm') nd ⟨Dn, rfl, vs, eD', hV'⟩ (fun z => nn (by injection z))
      refine ⟨Dn, _, _, _, _, _, rfl, nn, LP.off ⟨vs, eD', hV'⟩ eF4 nn, upd_same, ?_, g2, same_at nDf (sm.trans sm')⟩
      rw [gnR_take hi]
      exact g1
  · obtain ⟨q', y4, y5, y6, y7, ws, rfl, nq, lq, eF, hG, nd, sm⟩ := hW
    rw [hA.1, ← gnR_len rss n, List.take_of_length_le (Nat.le_refl _)] at hG
    exact ⟨_, rfl, q _ _ sm nDf ⟨ws, eF, hG⟩⟩

end
abbrev N__law_windows : List Str := ["_law_rows", "_law_n", "_law_found", "_law_gains_here", "_law_place", "_law_k", "_law_mine", "_law_first", "_law_last", "_law_row", "_law_t"]
theorem sc__law_windows : FnScope N__law_windows ["_law_rows", "_law_n"] (defScope s__law_windows) := ⟨rfl, rfl, rfl, by decide +kernel, rfl, by decide +kernel, by decide +kernel⟩
section
variable {P : Program} {w : World} {K : PySem.W.Frag} {mg : Str → Option Value} {base : Heap}
theorem ok__law_windows {k : Nat} (T : Env K mg) : FnOk P w K mg base CX0 (k + 4) T.D__law_windows.f T.D__law_windows.fd ["_law_rows", "_law_n"] (sp_lwindows K) := by
  have G__law_gains : FnOk P w K mg base CX0 3 T.D__law_gains.f T.D__law_gains.fd ["_law_rows", "_law_n"] (sp_lgains K) := ok__law_gains T
  refine T.D__law_windows.F.ok sc__law_windows (fun vs H Q E h => ?_) (fun cdv A outer s H vs Q E hr h => ?_)
  · obtain ⟨p, n, rss, rfl, _⟩ := h
    rfl
  obtain ⟨p, n, rss, rfl, lr, hl, hn1, hn, hb, hu, q⟩ := h
  obtain ⟨us, ep, hA⟩ := id lr
  refine ⟨_, (pss_cons (ps_set (i := 2) sc__law_windows.nd rfl (.inl rfl) (pe_lst pa_nil))
      (pss_cons (ps_set (i := 3) sc__law_windows.nd rfl (.inl rfl) (pe_call G__law_gains (hr.mono (by omega)) (by rfl) T.D__law_gains.g T.D__law_gains.F.kp T.D__law_gains.b .nil pass0 (pa_cons (pv 0) (pa_cons (pv 1) pa_nil))))
      (pss_cons (ps_for PassesOwn.never rfl (pi_range1 (by rfl) T.m_range (pa_cons (pv 1) pa_nil)) (pg_name (i := 4) sc__law_windows.nd rfl (.inr rfl)) (pss_one (ps_for PassesOwn.never rfl (pi_range2 (by rfl) T.m_range (pa_cons pe_int (pa_cons (pe_op op_add (pe_callB call_len_seq (by rfl) T.m_len PySem.boot_len (pa_cons (pv 0) pa_nil)) pe_int) pa_nil))) (pg_name (i := 5) sc__law_windows.nd rfl (.inr rfl)) (pss_cons (ps_set (i := 6) sc__law_windows.nd rfl (.inr rfl) (pe_lc (own := [("_law_row", 9)]) (g := gName 9) (tt := tYes) rfl sc__law_windows.nd (pi_list (pv 3)) (blkOk_by (N := N__law_windows) (sc := defScope s__law_windows) (by decide +kernel)) (fun _ _ _ _ _ => pg_name (i := 9) sc__law_windows.nd rfl (Or.inl rfl)) (fun _ _ _ _ _ => pts_nil) (fun _ _ _ _ _ => (pe_ix (r := rIxL K) ix_list (pv 9) (pv 4) (fun _ _ => rfl)))))
      (pss_cons (ps_set (i := 7) sc__law_windows.nd rfl (.inl rfl) (pe_slice sl_list (pe_lc (own := [("_law_t", 10)]) (g := gName 10) (tt := _) rfl sc__law_windows.nd (pi_range1 (by rfl) T.m_range (pa_cons (pe_callB call_len_seq (by rfl) T.m_len PySem.boot_len (pa_cons (pv 0) pa_nil)) pa_nil)) (blkOk_by (N := N__law_windows) (sc := defScope s__law_windows) (by decide +kernel)) (fun _ _ _ _ _ => pg_name (i := 10) sc__law_windows.nd rfl (Or.inl rfl)) (fun _ _ _ _ _ => (pts_one (pt_cmpR op_gt (pe_ix (r := rIxT K) ix_tup (pe_ix (r := rIxL K) ix_list (pv 6) (pv 10) (fun _ _ => rfl)) pe_int (fun _ _ => rfl)) (pe_op op_mulW (pe_op op_sub (pv 5) pe_int) (pe_ix (r := rIxT K) ix_tup (pe_ix (r := rIxL K) ix_list (pv 6) (pv 10) (fun _ _ => rfl)) pe_int (fun _ _ => rfl))) (nomark _)))) (fun _ _ _ _ _ => (pv 10))) po_none (po_some pe_int)))
      (pss_cons (ps_set (i := 8) sc__law_windows.nd rfl (.inl rfl) (pe_slice sl_list (pe_lc (own := [("_law_t", 10)]) (g := gName 10) (tt := _) rfl sc__law_windows.nd (pi_range1 (by rfl) T.m_range (pa_cons (pe_callB call_len_seq (by rfl) T.m_len PySem.boot_len (pa_cons (pv 0) pa_nil)) pa_nil)) (blkOk_by (N := N__law_windows) (sc := defScope s__law_windows) (by decide +kernel)) (fun _ _ _ _ _ => pg_name (i := 10) sc__law_windows.nd rfl (Or.inl rfl)) (fun _ _ _ _ _ => (pts_one (pt_cmpR op_ge (pe_ix (r := rIxT K) ix_tup (pe_ix (r := rIxL K) ix_list (pv 6) (pv 10) (fun _ _ => rfl)) pe_int (fun _ _ => rfl)) (pe_op op_mulW (pv 5) (pe_ix (r := rIxT K) ix_tup (pe_ix (r := rIxL K) ix_list (pv 6) (pv 10) (fun _ _ => rfl)) pe_int (fun _ _ => rfl))) (nomark _)))) (fun _ _ _ _ _ => (pv 10))) po_none (po_some pe_int)))
      (pss_cons (ps_if (pt_cmpR (op_eqD hr.units) (pv 7) (pe_lst pa_nil) (nomark _)) (pss_one ps_break) pss_nil)
      (pss_one (ps_expr (pe_bm PySem.F.plainAttrs_list PySem.F.slot_list_append PySem.F.type_list_append mt_append (pv 2) (pa_cons (pe_tup (pa_cons (pv 4) (pa_cons (pv 5) (pa_cons (pe_ix ix_list (pv 7) pe_int (fun _ _ => rfl)) (pa_cons (pe_ifExp (pt_cmpR (op_neD hr.units) (pv 8) (pe_lst pa_nil) (nomark _)) (pe_ix ix_list (pv 8) pe_int (fun _ _ => rfl)) pe_non) pa_nil))))) pa_nil)))))))))))
      (pss_one (ps_ret (pv 2)))))), ?_⟩
  refine ⟨Nat.zero_le _, fun Df hDf => ?_⟩
  have sF := same_upd (o := .lst []) hDf
  refine ⟨_, rfl, _, rfl, p, n, rss, rfl, lr.same sF, hl, hn, hb, fun H1 Dg s1 nDg ⟨gs, eg, hG⟩ => ?_⟩
  have eF1 : H1 Df = some (.lst []) := s1 _ _ upd_same
  have ep1 := s1 _ _ (sF _ _ ep)
  have pne : p ≠ Df := fun z => by rw [z, hDf] at ep; cases ep
  have gne : Dg ≠ Df := fun z => by rw [z, upd_same] at nDg; cases nDg
  have gsl : gs.length = rss.length := by rw [hG.1, gnR_len]
  -- a field's row of gains
  have rowAt : ∀ {H3 : Hp}, Sb Df H1 H3 → ∀ (j : Nat) (v : V), gs[j]? = some v → ∃ b, v = .ref b ∧ LP K H3 b (nowM rss n (j + 1)) := fun {H3} sb j v ev => by
    obtain ⟨row, er, b, rfl, lb⟩ := hG.of ev
    have hj : j < rss.length := by rw [← gsl]; exact (List.getElem?_eq_some_iff.1 ev).1
    have e2 : row = nowM rss n (j + 1) := by
      unfold gnR at er
      rw [List.getElem?_map, List.getElem?_range hj] at er
      exact (Option.some.inj er).symm
    subst e2
    refine ⟨b, rfl, lb.sb sb eF1 fun z => ?_⟩
    obtain ⟨ws, ew, hw⟩ := lb
    rw [z, eF1] at ew
    have : ws = [] := by injection ew with ew; injection ew with ew; exact ew.symm
    subst this
    have := hw.len
    rw [nowM_len] at this
    simp at this
    omega
  refine ⟨_, rfl, (n : Int), rfl, by omega, by omega, ?_⟩
  refine for_range (lo := 0) (n := n) (fun i σ H3 => ∃ (y4 y5 y6 y7 y8 y9 y10 : Option V) (ws : List V), σ = [some (.ref p), some (.int (n : Int)), some (.ref Df), some (.ref Dg), y4, y5, y6, y7, y8, y9, y10] ∧ H3 Df = some (.lst ws) ∧ Al (WnV K H3) ws (winA rss i) ∧ Sb Df H1 H3)
    ⟨_, _, _, _, _, _, _, [], rfl, eF1, .nil, Sb.of (Same.refl _)⟩ (fun pl σ H3 hpl hW => ?_) (fun σ H3 hW => ?_)
  · obtain ⟨y4, y5, y6, y7, y8, y9, y10, ws, rfl, eF, hV, sb⟩ := hW
    have cu := hu pl hpl
    have co := col_ok (pl := pl) (rss := rss) fun r hr => ⟨(hb r hr).1, by rw [(hb r hr).2]; exact hpl⟩
    have cl := col_len rss pl
    obtain ⟨xs, exs⟩ : ∃ xs, xs = colP rss pl := ⟨_, rfl⟩
    rw [← exs] at cu co cl
    have cc := ceil_le cu
    have cn := ceil_nn cu
    have go := gnM_ok co (by omega)
    refine ⟨_, rfl, p, us, rfl, .inl (SqL.of (sb _ _ ep1 pne)), _, _, rfl, rfl, 1, (us.length : Int) + 1, rfl, ⟨by decide, by decide, by omega, by rw [hA.1]; omega⟩, ?_⟩
    rw [show ((us.length : Int) + 1 - 1).toNat = rss.length by rw [Int.add_sub_cancel, Int.toNat_natCast, hA.1]]
    refine for_range (lo := 1) (n := rss.length) (fun i σ H4 => ∃ (y5 y6 y7 y8 y9 y10 : Option V) (ws : List V), σ = [some (.ref p), some (.int (n : Int)), some (.ref Df), some (.ref Dg), some (.int (0 + (pl : Int))), y5, y6, y7, y8, y9, y10] ∧ i ≤ (ceilP (sumP xs)).toNat ∧ H4 Df = some (.lst ws) ∧ Al (WnV K H4) ws (winA rss pl ++ (winP xs pl).take i) ∧ Sb Df H1 H4)
      ⟨_, _, _, _, _, _, ws, rfl, Nat.zero_le _, eF, by rw [List.take_zero, List.append_nil]; exact hV, sb⟩ (fun i σ H4 hi hW => ?_) (fun σ H4 hW => ?_)
    · obtain ⟨y5, y6, y7, y8, y9, y10, ws, rfl, hic, eF, hV, sb⟩ := hW
      have m0 : 0 < xs.length := by omega
      -- mine
      refine ⟨_, rfl, Dg, rfl, ⟨_, SqL.of (sb _ _ eg gne)⟩, fun Dm hDm => ?_⟩
      refine lc_list (xs := gs) (fun j H' => ∃ ms, H' Dm = some (.lst ms) ∧ Pps K H' ms ((gnM xs).take j) ∧ Same H4 H') ⟨[], upd_same, .nil, same_upd hDm⟩ (fun j H' _ hW => ?_) (fun j x H' hx hW => ?_) (fun H5 hW => ?_)
      · obtain ⟨_, _, _, sm⟩ := hW
        exact SqL.of (sm _ _ (sb _ _ eg gne))
      · obtain ⟨ms, eM, hM, sm⟩ := hW
        obtain ⟨b, rfl, lb⟩ := rowAt sb j x hx
        have hj : j < rss.length := by rw [← gsl]; exact (List.getElem?_eq_some_iff.1 hx).1
        obtain ⟨zs, ez, hz⟩ := lb.same sm
        obtain ⟨v1, g1, p1⟩ := pps_at hz (nowM_at hpl)
        refine ⟨rfl, ?_⟩
        dsimp only [tYes]
        rw [if_pos rfl]
        have ml := hM.len
        rw [List.length_take, gnM_len] at ml
        refine ⟨_, rfl, _, rfl, b, zs, _, v1, rfl, rfl, SqL.of ez, by rw [Int.zero_add]; exact atI_nat g1, ms, eM, small1000 (by omega), ms ++ [v1], upd_same, ?_, same_at hDm sm⟩
        rw [gnM_take (by omega)]
        rw [exs]
        rw [exs] at hM
        exact pps_grow eM hM p1
      obtain ⟨ms, eM, hM, s5⟩ := hW
      rw [gsl, ← cl, gnM_all] at hM
      have ml := hM.len
      rw [gnM_len] at ml
      have s5x : Same H5 H5 := Same.refl _
      have sM : ∀ H', Same H5 H' → H' Dm = some (.lst ms) := fun H' s' => s' _ _ eM
      have lC : ((gnM xs).map ceilP).length = xs.length := by rw [List.length_map, gnM_len]
      have lF : ((gnM xs).map floorP).length = xs.length := by rw [List.length_map, gnM_len]
      refine ⟨_, rfl, p, us, rfl, .inl (SqL.of (s5x _ _ (s5 _ _ (sb _ _ ep1 pne)))), (us.length : Int), rfl, by omega, by rw [hA.1]; omega, fun Dq hDq => ?_⟩
      rw [show ((us.length : Nat) : Int).toNat = xs.length by rw [Int.toNat_natCast, hA.1, cl]]
      refine lc_range (lo := 0) (n := xs.length) (fun j H' => H' Dq = some (.lst (ntV (fsK ((gnM xs).map ceilP) (1 + (i : Int)) j))) ∧ Same H5 H') ⟨upd_same, same_upd hDq⟩ (fun j H' hj hW => ?_) (fun H6 hW => ?_)
      · obtain ⟨eQ, sm⟩ := hW
        have sMj := s5x.trans sm
        have eM' := sM _ sMj
        obtain ⟨v1, g1, p1⟩ := pps_at hM (gnM_at hj)
        obtain ⟨b1, rfl, qT⟩ := p1.same sMj
        have o1 := (go _ (List.mem_of_getElem? (gnM_at hj))).1
        have aI : atI ms (0 + (j : Int)) = some (V.ref b1) := by rw [Int.zero_add]; exact atI_nat g1
        have fl := fsK_len ((gnM xs).map ceilP) (1 + (i : Int)) j
        have up := le_ceil o1.pos (1 + (i : Int))
        refine ⟨rfl, ?_⟩
        refine ⟨_, rfl, _, rfl, Dm, ms, _, _, rfl, rfl, SqL.of eM', aI, b1, _, 0, _, rfl, rfl, qT, rfl, _, rfl, _, _, rfl, rfl, _, rfl, _, rfl, Dm, ms, _, _, rfl, rfl, SqL.of eM', aI, b1, _, 1, _, rfl, rfl, qT, rfl, _, _, rfl, rfl, bd_mulok (n := 20) (m := 1700) (Bd.of (m := 100) (by omega) (by omega) (by decide)) o1.bot (by decide), _, _, rfl, rfl, _, rfl, ite2 (fun e => ?_) (fun e => ?_)⟩
        · have hp : upK ((gnM xs).map ceilP) (1 + (i : Int)) j = true := by
            unfold upK
            rw [gn_getD hj, decide_eq_true_eq, up]
            simpa using e
          refine ⟨_, rfl, _, eQ, small1000 (by unfold ntV; rw [List.length_map]; omega), ?_, same_at hDq sm⟩
          rw [upd_same, fsK_succ, if_pos hp, nt_snoc, Int.zero_add]
        · have hp : ¬ upK ((gnM xs).map ceilP) (1 + (i : Int)) j = true := by
            unfold upK
            rw [gn_getD hj, decide_eq_true_eq, up]
            simpa using e
          exact ⟨by rw [fsK_succ, if_neg hp]; exact eQ, sm⟩
      obtain ⟨eDq, s6⟩ := hW
      refine ⟨1, rfl, Dq, _, rfl, SqL.of eDq, fun pa hpa => ?_⟩
      rw [cut_one, nt_take lC]
      have sa := same_upd (o := .lst (oL (firstK ((gnM xs).map ceilP) (1 + (i : Int))))) hpa
      have s6a := s6.trans sa
      refine ⟨_, rfl, p, us, rfl, .inl (SqL.of (s6a _ _ (s5 _ _ (sb _ _ ep1 pne)))), (us.length : Int), rfl, by omega, by rw [hA.1]; omega, fun Dl hDl => ?_⟩
      rw [show ((us.length : Nat) : Int).toNat = xs.length by rw [Int.toNat_natCast, hA.1, cl]]
      refine lc_range (lo := 0) (n := xs.length) (fun j H' => H' Dl = some (.lst (ntV (fsK ((gnM xs).map floorP) (1 + (i : Int)) j))) ∧ Same (upd H6 pa (.lst (oL (firstK ((gnM xs).map ceilP) (1 + (i : Int)))))) H') ⟨upd_same, same_upd hDl⟩ (fun j H' hj hW => ?_) (fun H7 hW => ?_)
      · obtain ⟨eQ, sm⟩ := hW
        have sMj := s6a.trans sm
        have eM' := sM _ sMj
        obtain ⟨v1, g1, p1⟩ := pps_at hM (gnM_at hj)
        obtain ⟨b1, rfl, qT⟩ := p1.same sMj
        have o1 := (go _ (List.mem_of_getElem? (gnM_at hj))).1
        have aI : atI ms (0 + (j : Int)) = some (V.ref b1) := by rw [Int.zero_add]; exact atI_nat g1
        have fl := fsK_len ((gnM xs).map floorP) (1 + (i : Int)) j
        have up := le_floor o1.pos (1 + (i : Int))
        refine ⟨rfl, ?_⟩
        refine ⟨_, rfl, _, rfl, Dm, ms, _, _, rfl, rfl, SqL.of eM', aI, b1, _, 0, _, rfl, rfl, qT, rfl, _, rfl, _, rfl, _, rfl, Dm, ms, _, _, rfl, rfl, SqL.of eM', aI, b1, _, 1, _, rfl, rfl, qT, rfl, _, _, rfl, rfl, bd_mulok (n := 20) (m := 1700) (Bd.of (m := 100) (by omega) (by omega) (by decide)) o1.bot (by decide), _, _, rfl, rfl, _, rfl, ite2 (fun e => ?_) (fun e => ?_)⟩
        · have hp : upK ((gnM xs).map floorP) (1 + (i : Int)) j = true := by
            unfold upK
            rw [gn_getD hj, decide_eq_true_eq, up]
            simpa using e
          refine ⟨_, rfl, _, eQ, small1000 (by unfold ntV; rw [List.length_map]; omega), ?_, same_at hDl sm⟩
          rw [upd_same, fsK_succ, if_pos hp, nt_snoc, Int.zero_add]
        · have hp : ¬ upK ((gnM xs).map floorP) (1 + (i : Int)) j = true := by
            unfold upK
            rw [gn_getD hj, decide_eq_true_eq, up]
            simpa using e
          exact ⟨by rw [fsK_succ, if_neg hp]; exact eQ, sm⟩
      obtain ⟨eDl, s7⟩ := hW
      refine ⟨1, rfl, Dl, _, rfl, SqL.of eDl, fun pb hpb => ?_⟩
      rw [cut_one, nt_take lF]
      have sb' := same_upd (o := .lst (oL (firstK ((gnM xs).map floorP) (1 + (i : Int))))) hpb
      have ea : upd H7 pb (.lst (oL (firstK ((gnM xs).map floorP) (1 + (i : Int))))) pa = some (.lst (oL (firstK ((gnM xs).map ceilP) (1 + (i : Int))))) := sb' _ _ (s7 _ _ upd_same)
      have eb : upd H7 pb (.lst (oL (firstK ((gnM xs).map floorP) (1 + (i : Int))))) pb = some (.lst (oL (firstK ((gnM xs).map floorP) (1 + (i : Int))))) := upd_same
      have s8 := (s5.trans (s6a.trans s7)).trans sb'
      generalize upd H7 pb (.lst (oL (firstK ((gnM xs).map floorP) (1 + (i : Int))))) = H8 at ea eb s8 ⊢
      have fi := first_is cu (1 + (i : Int)) m0
      -- is there a first hour
      refine ⟨_, rfl, Nat.zero_le _, fun De hDe => ?_⟩
      have sE := same_upd (o := .lst []) hDe
      refine ⟨_, _, oL_dp (sE _ _ ea), .lst (SqL.of upd_same) .nil, oL_shp _, rfl, _, rfl, ?_⟩
      rw [oL_eqv]
      have s9 := s8.trans sE
      have eF9 := s9 _ _ eF
      by_cases hk : i < (ceilP (sumP xs)).toNat
      · obtain ⟨t1, e1⟩ : ∃ t1, firstK ((gnM xs).map ceilP) (1 + (i : Int)) = some t1 := Option.isSome_iff_exists.1 (by rw [fi]; exact decide_eq_true (by omega))
        have wl := winA_len hl hu pl (by omega)
        have wsl : ws.length ≤ 2000 := by
          rw [hV.1, List.length_append, List.length_take, winP_all]
          omega
        rw [e1] at ea ⊢
        refine iteF ?_
        refine ⟨_, rfl, .inl ⟨rfl, _, SqL.of eF9⟩, _, rfl, _, rfl, _, rfl, pa, [.int (t1 : Int)], 0, _, rfl, rfl, SqL.of (sE _ _ ea), rfl, ?_⟩
        refine ⟨_, rfl, Nat.zero_le _, fun D2 hD2 => ?_⟩
        have s10 := same_upd (o := .lst []) hD2
        refine ⟨_, _, oL_dp (s10 _ _ (sE _ _ eb)), .lst (SqL.of upd_same) .nil, oL_shp _, rfl, _, rfl, ?_⟩
        rw [oL_eqv]
        cases e2 : firstK ((gnM xs).map floorP) (1 + (i : Int)) with
        | none =>
          refine iteF ?_
          refine ⟨(by show 4 ≤ sizeLine; decide), fun t ht => ?_⟩
          have sT := same_upd (o := .tup [.int (0 + (pl : Int)), .int (1 + (i : Int)), .int (t1 : Int), .non]) ht
          have sAll := (s9.trans s10).trans sT
          have eFt := sAll _ _ eF
          refine ⟨Df, ws, _, rfl, rfl, eFt, Nat.lt_of_le_of_lt wsl (by decide), ?_⟩
          refine ⟨_, _, _, _, _, _, ws ++ [.ref t], rfl, by omega, upd_same, ?_, (sb.trans (Sb.of sAll)).trans Sb.put⟩
          rw [List.take_add_one, winP_at hk, ← List.append_assoc]
          refine wn_grow eFt (hV.imp fun _ _ _ => WnV.same sAll) ⟨t, rfl, ?_⟩
          rw [show ((i : Int) + 1) = 1 + (i : Int) by omega, e1, e2]
          show SqT K _ t [.int (pl : Int), .int ((i + 1 : Nat) : Int), .int (t1 : Int), .non]
          rw [show ((i + 1 : Nat) : Int) = 1 + (i : Int) by omega, Int.zero_add]
          exact SqT.of upd_same
        | some t2 =>
          rw [e2] at eb
          refine iteT ?_
          refine ⟨_, rfl, pb, [.int (t2 : Int)], 0, _, rfl, rfl, SqL.of (s10 _ _ (sE _ _ eb)), rfl, ?_⟩
          refine ⟨(by show 4 ≤ sizeLine; decide), fun t ht => ?_⟩
          have sT := same_upd (o := .tup [.int (0 + (pl : Int)), .int (1 + (i : Int)), .int (t1 : Int), .int (t2 : Int)]) ht
          have sAll := (s9.trans s10).trans sT
          have eFt := sAll _ _ eF
          refine ⟨Df, ws, _, rfl, rfl, eFt, Nat.lt_of_le_of_lt wsl (by decide), ?_⟩
          refine ⟨_, _, _, _, _, _, ws ++ [.ref t], rfl, by omega, upd_same, ?_, (sb.trans (Sb.of sAll)).trans Sb.put⟩
          rw [List.take_add_one, winP_at hk, ← List.append_assoc]
          refine wn_grow eFt (hV.imp fun _ _ _ => WnV.same sAll) ⟨t, rfl, ?_⟩
          rw [show ((i : Int) + 1) = 1 + (i : Int) by omega, e1, e2]
          show SqT K _ t [.int (pl : Int), .int ((i + 1 : Nat) : Int), .int (t1 : Int), .int (t2 : Int)]
          rw [show ((i + 1 : Nat) : Int) = 1 + (i : Int) by omega, Int.zero_add]
          exact SqT.of upd_same
      · have e1 : firstK ((gnM xs).map ceilP) (1 + (i : Int)) = none := Option.isNone_iff_eq_none.1 (by
          cases h : firstK ((gnM xs).map ceilP) (1 + (i : Int)) with
          | none => rfl
          | some t => rw [h, decide_eq_false (by omega)] at fi; cases fi)
        rw [e1]
        refine iteT ?_
        rw [List.take_of_length_le (by rw [winP_all]; omega), exs, ← winA_succ] at hV
        exact ⟨_, _, _, _, _, _, _, ws, rfl, eF9, hV.imp fun _ _ _ => WnV.same s9, sb.trans (Sb.of s9)⟩
    · obtain ⟨y5, y6, y7, y8, y9, y10, ws, rfl, hic, eF, hV, sb⟩ := hW
      rw [List.take_of_length_le (by rw [winP_all]; omega), exs, ← winA_succ] at hV
      exact ⟨_, _, _, _, _, _, _, ws, rfl, eF, hV, sb⟩
  · obtain ⟨y4, y5, y6, y7, y8, y9, y10, ws, rfl, eF, hV, sb⟩ := hW
    refine ⟨_, rfl, q _ Df (fun b o e => ?_) hDf ⟨ws, eF, hV⟩⟩
    exact sb _ _ (s1 _ _ (sF _ _ e)) fun z => by rw [z, hDf] at e; cases e

end
abbrev N_law : List Str := ["_law_script", "_law_row", "_law_n", "_law_rows", "_law_handed", "_law_due", "_law_turn", "_law_found", "_law_shares_here"]
theorem sc_law : FnScope N_law ["_law_script"] (defScope s_law) := ⟨rfl, rfl, rfl, by decide +kernel, rfl, by decide +kernel, by decide +kernel⟩
section
variable {P : Program} {w : World} {K : PySem.W.Frag} {mg : Str → Option Value} {base : Heap}
theorem ok_law (T : Env K mg) : FnOk P w K mg base CX0 8 T.D_law.f T.D_law.fd ["_law_script"] (sp_law K) := by
  have G__law_flow : FnOk P w K mg base CX0 7 T.D__law_flow.f T.D__law_flow.fd ["_law_script", "_law_many"] (sp__law_flow K) := ok__law_flow T.D__law_flow T.m_abs T.m_len T.m_range
  have G__law_season : FnOk P w K mg base CX0 7 T.D__law_season.f T.D__law_season.fd ["_law_row"] (sp_season K) := ok__law_season T
  have G__law_windows : FnOk P w K mg base CX0 7 T.D__law_windows.f T.D__law_windows.fd ["_law_rows", "_law_n"] (sp_lwindows K) := ok__law_windows T
  have G_windows : FnOk P w K mg base CX0 7 T.D_windows.f T.D_windows.fd ["rows"] (sp_windows K) := ok_windows T
  have G__law_alike : FnOk P w K mg base CX0 7 T.D__law_alike.f T.D__law_alike.fd ["_law_found", "_law_due"] (sp_alike K 2) := ok__law_alike T 2 3
  refine T.D_law.F.ok sc_law (fun vs H Q E h => ?_) (fun cdv A outer s H vs Q E hr h => ?_)
  · obtain ⟨a, ns, rfl, _⟩ := h
    rfl
  obtain ⟨a, ns, rfl, hL, hn, q⟩ := h
  refine ⟨_, (pss_cons (ps_set (i := 1) sc_law.nd rfl (.inl rfl) (pe_call G__law_flow (hr.mono (by omega)) (by rfl) T.D__law_flow.g T.D__law_flow.F.kp T.D__law_flow.b .nil pass0 (pa_cons (pv 0) (pa_cons pe_int pa_nil))))
      (pss_cons (ps_asg (pe_call G__law_season (hr.mono (by omega)) (by rfl) T.D__law_season.g T.D__law_season.F.kp T.D__law_season.b .nil pass0 (pa_cons (pv 1) pa_nil)) (pg_tup rfl (pgs_cons (pg_name (i := 2) sc_law.nd rfl (.inl rfl)) (pgs_cons (pg_name (i := 3) sc_law.nd rfl (.inl rfl)) pgs_nil))))
      (pss_cons (ps_setLc (i := 4) (own := [("_law_shares_here", 8)]) (g := gName 8) (tt := tYes) rfl sc_law.nd rfl rfl (sw_true rfl rfl rfl (by decide +kernel)) (pi_list (pv 3)) (blkOk_by (N := N_law) (sc := defScope s_law) (by decide +kernel)) (fun _ _ _ _ _ => pg_name (i := 8) sc_law.nd rfl (Or.inl rfl)) (fun _ _ _ _ _ => pts_nil) (fun _ _ _ _ _ => (pe_callTy (r := rLo K) call_list_of (by rfl) T.m_list PyProof.Rows.boot_list (pa_cons (pv 8) pa_nil))))
      (pss_cons (ps_set (i := 5) sc_law.nd rfl (.inl rfl) (pe_call G__law_windows (hr.mono (by omega)) (by rfl) T.D__law_windows.g T.D__law_windows.F.kp T.D__law_windows.b .nil pass0 (pa_cons (pv 3) (pa_cons (pv 2) pa_nil))))
      (pss_cons (ps_for PassesOwn.never rfl (pi_range1 (by rfl) T.m_range (pa_cons pe_int pa_nil)) (pg_name (i := 6) sc_law.nd rfl (.inl rfl)) (pss_cons (ps_set (i := 7) sc_law.nd rfl (.inl rfl) (pe_call G_windows (hr.mono (by omega)) (by rfl) T.D_windows.g T.D_windows.F.kp T.D_windows.b .nil pass0 (pa_cons (pv 4) pa_nil)))
      (pss_cons (ps_if (PW.pt (pw_or (pt_not (pt_val (pe_call G__law_alike (hr.mono (by omega)) (by rfl) T.D__law_alike.g T.D__law_alike.F.kp T.D__law_alike.b .nil pass0 (pa_cons (pv 7) (pa_cons (pv 5) pa_nil))))) (pw_or1 (pt_cmpR (op_neD hr.units) (pv 4) (pv 3) (nomark _))))) (pss_one (ps_ret pe_bl)) pss_nil)
      (pss_one (ps_expr (pe_bm PySem.F.plainAttrs_list PySem.F.slot_list_append PySem.F.type_list_append mt_append (pv 7) (pa_cons (pe_tup (pa_cons pe_int (pa_cons pe_int (pa_cons pe_int (pa_cons pe_non pa_nil))))) pa_nil)))))))
      (pss_one (ps_ret pe_bl))))))), ?_⟩
  refine ⟨_, rfl, a, ns, 440, rfl, hL, hn, by decide, fun H1 v1 rs s1 ⟨pr, ev, epr⟩ hrl hb => ?_⟩
  subst ev
  refine ⟨_, rfl, pr, rs, rfl, epr, hrl, hb, fun H2 pt pR n wss s2 qT hn1 hn2 wl wo lR => ?_⟩
  refine ⟨pt, _, rfl, qT, rfl, _, _, rfl, _, _, rfl, rfl, ?_⟩
  have hok : ∀ r ∈ wss.map sharesOf, AllOk 26 r ∧ r.length = n := fun r hr => by
    obtain ⟨ws, hw, rfl⟩ := List.mem_map.1 hr
    exact ⟨shares_ok (wo ws hw) (by omega), by rw [shares_len, (wo ws hw).1]⟩
  have hu : ∀ pl, pl < n → Unit01 (colP (wss.map sharesOf) pl) := fun pl hp => col_unit wo hp
  have hrl : (wss.map sharesOf).length ≤ 61 := by rw [List.length_map]; omega
  generalize wss.map sharesOf = rss at lR hok hu hrl
  obtain ⟨us, eR, hR⟩ := id lR
  -- the copy that is handed in
  refine ⟨_, rfl, pR, rfl, ⟨_, SqL.of eR⟩, fun Dh hDh => ?_⟩
  refine lc_list (xs := us) (fun j H' => ∃ vs, H' Dh = some (.lst vs) ∧ Al (RowV K H') vs (rss.take j) ∧ (∀ u ∈ vs, u ≠ .ref Dh) ∧ Same H2 H') ⟨[], upd_same, .nil, (fun _ z => nomatch z), same_upd hDh⟩ (fun j H' _ hW => ?_) (fun j x H' hx hW => ?_) (fun H3 hW => ?_)
  · obtain ⟨_, _, _, _, sm⟩ := hW
    exact SqL.of (sm _ _ eR)
  · obtain ⟨vs, eV, hV, nd, sm⟩ := hW
    obtain ⟨r, er, b, rfl, lb⟩ := hR.of hx
    have hj : j < rss.length := (List.getElem?_eq_some_iff.1 er).1
    obtain ⟨zs, ez, hz⟩ := lb.same sm
    refine ⟨rfl, ?_⟩
    dsimp only [tYes]
    rw [if_pos rfl]
    refine ⟨_, rfl, b, zs, rfl, .inl (SqL.of ez), fun l hl => ?_⟩
    have sl := same_upd (o := .lst zs) hl
    have eV2 := sl _ _ eV
    have nl : l ≠ Dh := fun z => by rw [z, eV] at hl; cases hl
    have vl := hV.1
    rw [List.length_take] at vl
    obtain ⟨g1, g2⟩ := rows_grow (v := .ref l) (r := r) eV2 (hV.imp fun _ _ _ => RowV.same sl) nd ⟨l, rfl, zs, upd_same, hz.same sl⟩ (fun z => nl (by injection z))
    refine ⟨vs, eV2, small1000 (by omega), _, upd_same, ?_, g2, same_at hDh (sm.trans sl)⟩
    rw [List.take_add_one, er]
    exact g1
  obtain ⟨vs, eV, hV, nd, s3⟩ := hW
  rw [hR.1, List.take_of_length_le (Nat.le_refl _)] at hV
  have lH : LR K H3 Dh rss := ⟨vs, eV, hV⟩
  have lR3 := lR.same s3
  refine ⟨_, rfl, _, rfl, pR, n, rss, rfl, lR3, hrl, hn1, by omega, hok, hu, fun H4 Du s4 nDu lU => ?_⟩
  have wA := winA_len hrl hu n (Nat.le_refl _)
  refine ⟨2, rfl, by decide, by decide, ?_⟩
  refine for_range (lo := 0) (n := 2) (fun i σ H5 => ∃ (y6 y7 : Option V), σ = [some (.ref a), some (.ref pr), some (.int (n : Int)), some (.ref pR), some (.ref Dh), some (.ref Du), y6, y7, none] ∧ Same H4 H5) ⟨_, _, rfl, Same.refl _⟩ (fun i σ H5 hi hW => ?_) (fun σ H5 hW => ?_)
  · obtain ⟨y6, y7, rfl, s5⟩ := hW
    have lH5 := (lH.same s4).same s5
    refine ⟨_, rfl, Dh, n, rss, rfl, lH5, hrl, by omega, hok, hu, fun H6 Dw s6 nDw lW => ?_⟩
    rw [show (if rss = [] then [] else winA rss n) = winA rss n by
      by_cases h : rss = []
      · rw [if_pos h, h, winA_nil]
      · rw [if_neg h]] at lW
    have s46 := s5.trans s6
    refine ⟨_, rfl, _, rfl, .ref Dw, .ref Du, _, rfl, lW.dp, (lU.same s46).dp, plain_ws (by omega), fun H7 s7 => ?_⟩
    have s47 := s46.trans s7
    refine ⟨true, rfl, ?_⟩
    refine iteF ?_
    have lW7 := lW.same s7
    refine ⟨_, rfl, _, rfl, _, _, ((lH.same s4).same s47).dp, ((lR3.same s4).same s47).dp, shp_rs _, shp_rs _, _, rfl, ?_⟩
    rw [eqv_rsL]
    refine iteF ?_
    obtain ⟨fs, ef, hf⟩ := lW7
    have fl := hf.1
    refine ⟨_, rfl, .inl ⟨rfl, _, SqL.of ef⟩, (by show 4 ≤ sizeLine; decide), fun t ht => ?_⟩
    have st := same_upd (o := .tup [.int 0, .int 0, .int 0, .non]) ht
    refine ⟨Dw, fs, _, rfl, rfl, st _ _ ef, small1000 (by omega), _, _, rfl, ?_⟩
    exact same_at (s5.free nDw) (s47.trans st)
  · exact q _

end
end DT
namespace DT
open PySem PySem.Spec PyProof.Rows L2
/-! ### a look at what the module's names reach, level by level, nothing dropped -/
def refsM (o : Obj) : List Addr := match o.data with
  | .func fd => He.refV fd.code
  | .cls cd => [cd.ns]
  | .dict es _ => es.toList.flatMap fun e => He.refV e.val
  | _ => []
def stepM (g : Addr → Option Obj) (as : List Addr) : List Addr := as.flatMap fun a => match g a with
  | some o => refsM o
  | none => []
def lev4 (g : Addr → Option Obj) (l1 l2 l3 : List Addr) : List Addr := mainGlobals :: (l1 ++ (l2 ++ (l3 ++ stepM g l3)))
def lev3 (g : Addr → Option Obj) (l1 l2 : List Addr) : List Addr := lev4 g l1 l2 (stepM g l2)
def lev2 (g : Addr → Option Obj) (l1 : List Addr) : List Addr := lev3 g l1 (stepM g l1)
def asM (g : Addr → Option Obj) : List Addr := lev2 g (stepM g [mainGlobals])
abbrev AlM : Type := He.AlT × Bool
def obsK (fa : List He.Fa) (fn : List He.DefD) (ts : List He.Tab) (ex : PySem.W.Frag → Bool) (K : PySem.W.Frag) : AlM := (He.obsT fa fn ts K, ex K)
def obsM (fa : List He.Fa) (fn : List He.DefD) (ts : List He.Tab) (ex : PySem.W.Frag → Bool) (g : Addr → Option Obj) : AlM := obsK fa fn ts ex (He.frG g (asM g))
def valM (fn : List He.DefD) (ts : List He.Tab) (w : World) : AlM := (He.valT fn ts w, true)
structure SaysM (fa : List He.Fa) (fn : List He.DefD) (ts : List He.Tab) (ex : PySem.W.Frag → Bool) (w : World) (K : PySem.W.Frag) : Prop where
  t : He.SaysT fa fn ts w K
  more : ex K = true
def hookM (fa : List He.Fa) (fn : List He.DefD) (ts : List He.Tab) (ex : PySem.W.Frag → Bool) : PySem.W.Hook where
  α := AlM
  obs := fun s => obsM fa fn ts ex s.heap.get?
  val := fun w => valM fn ts w
  says := fun w h => ∃ K : PySem.W.Frag, K.In h ∧ SaysM fa fn ts ex w K
  of := fun _ _ e => ⟨_, He.frG_in, ⟨congrArg (fun z : AlM => z.1) e, congrArg (fun z : AlM => z.2) e⟩⟩
  keeps := fun _ _ _ ⟨K, hK, c⟩ k => ⟨K, PySem.W.Frag.In.keeps hK k, c⟩
theorem obsM_eq {fa : List He.Fa} {fn : List He.DefD} {ts : List He.Tab} {ex : PySem.W.Frag → Bool} {g : Addr → Option Obj} {s : Shared} (h : ∀ a, g a = s.heap.get? a) : obsM fa fn ts ex g = (hookM fa fn ts ex).obs s := by
  have e : g = s.heap.get? := funext h
  rw [e] <;> rfl
end DT

namespace DT
open PySem PySem.Spec PyProof.Rows L2
def d_common : He.DefD := ⟨("common", none), "common", "common", defArgs s_common, defBody s_common, defScope s_common, [], []⟩
def d_plus : He.DefD := ⟨("plus", none), "plus", "plus", defArgs s_plus, defBody s_plus, defScope s_plus, [], []⟩
def d_floor_of : He.DefD := ⟨("floor_of", none), "floor_of", "floor_of", defArgs s_floor_of, defBody s_floor_of, defScope s_floor_of, [], []⟩
def d_ceil_of : He.DefD := ⟨("ceil_of", none), "ceil_of", "ceil_of", defArgs s_ceil_of, defBody s_ceil_of, defScope s_ceil_of, [], []⟩
def d_gains : He.DefD := ⟨("gains", none), "gains", "gains", defArgs s_gains, defBody s_gains, defScope s_gains, [], []⟩
def d_first_hour : He.DefD := ⟨("first_hour", none), "first_hour", "first_hour", defArgs s_first_hour, defBody s_first_hour, defScope s_first_hour, [], []⟩
def d_field_windows : He.DefD := ⟨("field_windows", none), "field_windows", "field_windows", defArgs s_field_windows, defBody s_field_windows, defScope s_field_windows, [], []⟩
def d_windows : He.DefD := ⟨("windows", none), "windows", "windows", defArgs s_windows, defBody s_windows, defScope s_windows, [], []⟩
def d__law_flow : He.DefD := ⟨("_law_flow", none), "_law_flow", "_law_flow", defArgs s__law_flow, defBody s__law_flow, defScope s__law_flow, [], []⟩
def d__law_whole : He.DefD := ⟨("_law_whole", none), "_law_whole", "_law_whole", defArgs s__law_whole, defBody s__law_whole, defScope s__law_whole, [], []⟩
def d__law_low : He.DefD := ⟨("_law_low", none), "_law_low", "_law_low", defArgs s__law_low, defBody s__law_low, defScope s__law_low, [], []⟩
def d__law_add : He.DefD := ⟨("_law_add", none), "_law_add", "_law_add", defArgs s__law_add, defBody s__law_add, defScope s__law_add, [], []⟩
def d__law_shares : He.DefD := ⟨("_law_shares", none), "_law_shares", "_law_shares", defArgs s__law_shares, defBody s__law_shares, defScope s__law_shares, [], []⟩
def d__law_many_fields : He.DefD := ⟨("_law_many_fields", none), "_law_many_fields", "_law_many_fields", defArgs s__law_many_fields, defBody s__law_many_fields, defScope s__law_many_fields, [], []⟩
def d__law_alike : He.DefD := ⟨("_law_alike", none), "_law_alike", "_law_alike", defArgs s__law_alike, defBody s__law_alike, defScope s__law_alike, [], []⟩
def d__law_season : He.DefD := ⟨("_law_season", none), "_law_season", "_law_season", defArgs s__law_season, defBody s__law_season, defScope s__law_season, [], []⟩
def d__law_gains : He.DefD := ⟨("_law_gains", none), "_law_gains", "_law_gains", defArgs s__law_gains, defBody s__law_gains, defScope s__law_gains, [], []⟩
def d__law_windows : He.DefD := ⟨("_law_windows", none), "_law_windows", "_law_windows", defArgs s__law_windows, defBody s__law_windows, defScope s__law_windows, [], []⟩
def d_law : He.DefD := ⟨("law", none), "law", "law", defArgs s_law, defBody s_law, defScope s_law, [], []⟩
def fn0 : List He.DefD := [d_common, d_plus, d_floor_of, d_ceil_of, d_gains, d_first_hour, d_field_windows, d_windows, d__law_flow, d__law_whole, d__law_low, d__law_add, d__law_shares, d__law_many_fields, d__law_alike, d__law_season, d__law_gains, d__law_windows, d_law]
def fnL : List He.DefD := fn0
def fa0 : List He.Fa := [.glo "common", .glo "plus", .glo "floor_of", .glo "ceil_of", .glo "gains", .glo "first_hour", .glo "field_windows", .glo "windows", .glo "_law_flow", .glo "_law_whole", .glo "_law_low", .glo "_law_add", .glo "_law_shares", .glo "_law_many_fields", .glo "_law_alike", .glo "_law_season", .glo "_law_gains", .glo "_law_windows", .glo "law", .free "abs", .free "len", .free "range", .free "isinstance", .free "int", .free "bool", .free "tuple", .free "list", .free "all", .free "sum", .free "min"]
def fa1 : List He.Fa := [.free "zip", .free "enumerate", .free "str"]
def faL : List He.Fa := fa0 ++ (fa1)
def ls0 : List PySem.Str := ["common", "plus", "floor_of", "ceil_of", "gains", "first_hour", "field_windows", "windows", "_law_flow", "_law_whole", "_law_low", "_law_add", "_law_shares", "_law_many_fields", "_law_alike", "_law_season", "_law_gains", "_law_windows"]
def looseL : List PySem.Str := ls0
def tsL : List He.Tab := []
def exL (K : PySem.W.Frag) : Bool := true
abbrev R : PySem.W.OpenRow := PySem.W.OpenLaw.row PySem.Challenge.rw_ditchturn_k41_windows_of_turns
abbrev hk : PySem.W.Hook := hookM faL fnL tsL exL
def ob (s : PySem.W.SharedT) : AlM := obsM faL fnL tsL exL (HandSHeadRun.getT s)
theorem ob_eq (s : PySem.W.SharedT) : ob s = hk.obs s.abs := obsM_eq (HandSHeadRun.getT_eq s)
theorem run0 (w : World) : HandSHeadRun.RunEq R (PySem.W.view R.prog [21]) hk ob 30000 looseL (w.withFollow "special-get-raises" false) := by
  intro os; kernel_rfl
theorem run1 (w : World) : HandSHeadRun.RunEq R (PySem.W.view R.prog [21]) hk ob 30000 looseL (w.withFollow "special-get-raises" true) := by
  intro os; kernel_rfl
theorem run (w : World) : HandSHeadRun.RunEq R (PySem.W.view R.prog [21]) hk ob 30000 looseL w :=
  PySem.W.byRow2 "special-get-raises" (P := fun w => HandSHeadRun.RunEq R (PySem.W.view R.prog [21]) hk ob 30000 looseL w) run0 run1 w
end DT

namespace DT
open PySem PySem.Spec PyProof.Rows L2 TL
theorem facts {P : Program} {w : World} {K : PySem.W.Frag} {h : Heap} {mg : Str → Option Value} {f : Addr} (X : K.In h) (G : h.Ns mainGlobals mg) (hfa : mg ("law" : Str) = some (.ref f)) (c : SaysM faL fnL tsL exL w K) :
    ∃ fd : FuncData, (∀ (s : Shared) (v : Value), BindsTo s fd ⟨[v], []⟩ [("_law_script", v)]) ∧ ∀ base : Heap, K.In base → base.Ns mainGlobals mg → FnOk P w K mg base CX0 8 f fd ["_law_script"] (sp_law K) := by
  have hm := c.more
  unfold exL at hm
  obtain ⟨fd_common, F_common⟩ := c.t.d.def_ 0 (d := d_common) rfl
  obtain ⟨fd_plus, F_plus⟩ := c.t.d.def_ 1 (d := d_plus) rfl
  obtain ⟨fd_floor_of, F_floor_of⟩ := c.t.d.def_ 2 (d := d_floor_of) rfl
  obtain ⟨fd_ceil_of, F_ceil_of⟩ := c.t.d.def_ 3 (d := d_ceil_of) rfl
  obtain ⟨fd_gains, F_gains⟩ := c.t.d.def_ 4 (d := d_gains) rfl
  obtain ⟨fd_first_hour, F_first_hour⟩ := c.t.d.def_ 5 (d := d_first_hour) rfl
  obtain ⟨fd_field_windows, F_field_windows⟩ := c.t.d.def_ 6 (d := d_field_windows) rfl
  obtain ⟨fd_windows, F_windows⟩ := c.t.d.def_ 7 (d := d_windows) rfl
  obtain ⟨fd__law_flow, F__law_flow⟩ := c.t.d.def_ 8 (d := d__law_flow) rfl
  obtain ⟨fd__law_whole, F__law_whole⟩ := c.t.d.def_ 9 (d := d__law_whole) rfl
  obtain ⟨fd__law_low, F__law_low⟩ := c.t.d.def_ 10 (d := d__law_low) rfl
  obtain ⟨fd__law_add, F__law_add⟩ := c.t.d.def_ 11 (d := d__law_add) rfl
  obtain ⟨fd__law_shares, F__law_shares⟩ := c.t.d.def_ 12 (d := d__law_shares) rfl
  obtain ⟨fd__law_many_fields, F__law_many_fields⟩ := c.t.d.def_ 13 (d := d__law_many_fields) rfl
  obtain ⟨fd__law_alike, F__law_alike⟩ := c.t.d.def_ 14 (d := d__law_alike) rfl
  obtain ⟨fd__law_season, F__law_season⟩ := c.t.d.def_ 15 (d := d__law_season) rfl
  obtain ⟨fd__law_gains, F__law_gains⟩ := c.t.d.def_ 16 (d := d__law_gains) rfl
  obtain ⟨fd__law_windows, F__law_windows⟩ := c.t.d.def_ 17 (d := d__law_windows) rfl
  obtain ⟨fd_law, F_law⟩ := c.t.d.def_ 18 (d := d_law) rfl
  obtain ⟨T, eF⟩ : ∃ T : Env K mg, T.D_law.fd = fd_law := ⟨{
    D_common := ⟨_, fd_common, fun_ofD F_common, F_common.bindsN (ps := ["a", "b"]) fun _ _ _ _ _ _ us hl => match us, hl with | [_, _], _ => rfl, He.glo_ok X G (c.t.d.fact 0 (f := (He.Fa.glo "common" : He.Fa)) rfl)⟩
    D_plus := ⟨_, fd_plus, fun_ofD F_plus, F_plus.bindsN (ps := ["a", "b"]) fun _ _ _ _ _ _ us hl => match us, hl with | [_, _], _ => rfl, He.glo_ok X G (c.t.d.fact 1 (f := (He.Fa.glo "plus" : He.Fa)) rfl)⟩
    D_floor_of := ⟨_, fd_floor_of, fun_ofD F_floor_of, F_floor_of.bindsN (ps := ["a"]) fun _ _ _ _ _ _ us hl => match us, hl with | [_], _ => rfl, He.glo_ok X G (c.t.d.fact 2 (f := (He.Fa.glo "floor_of" : He.Fa)) rfl)⟩
    D_ceil_of := ⟨_, fd_ceil_of, fun_ofD F_ceil_of, F_ceil_of.bindsN (ps := ["a"]) fun _ _ _ _ _ _ us hl => match us, hl with | [_], _ => rfl, He.glo_ok X G (c.t.d.fact 3 (f := (He.Fa.glo "ceil_of" : He.Fa)) rfl)⟩
    D_gains := ⟨_, fd_gains, fun_ofD F_gains, F_gains.bindsN (ps := ["rows", "place"]) fun _ _ _ _ _ _ us hl => match us, hl with | [_, _], _ => rfl, He.glo_ok X G (c.t.d.fact 4 (f := (He.Fa.glo "gains" : He.Fa)) rfl)⟩
    D_first_hour := ⟨_, fd_first_hour, fun_ofD F_first_hour, F_first_hour.bindsN (ps := ["counts", "k"]) fun _ _ _ _ _ _ us hl => match us, hl with | [_, _], _ => rfl, He.glo_ok X G (c.t.d.fact 5 (f := (He.Fa.glo "first_hour" : He.Fa)) rfl)⟩
    D_field_windows := ⟨_, fd_field_windows, fun_ofD F_field_windows, F_field_windows.bindsN (ps := ["rows", "place"]) fun _ _ _ _ _ _ us hl => match us, hl with | [_, _], _ => rfl, He.glo_ok X G (c.t.d.fact 6 (f := (He.Fa.glo "field_windows" : He.Fa)) rfl)⟩
    D_windows := ⟨_, fd_windows, fun_ofD F_windows, F_windows.bindsN (ps := ["rows"]) fun _ _ _ _ _ _ us hl => match us, hl with | [_], _ => rfl, He.glo_ok X G (c.t.d.fact 7 (f := (He.Fa.glo "windows" : He.Fa)) rfl)⟩
    D__law_flow := ⟨_, fd__law_flow, fun_ofD F__law_flow, F__law_flow.bindsN (ps := ["_law_script", "_law_many"]) fun _ _ _ _ _ _ us hl => match us, hl with | [_, _], _ => rfl, He.glo_ok X G (c.t.d.fact 8 (f := (He.Fa.glo "_law_flow" : He.Fa)) rfl)⟩
    D__law_whole := ⟨_, fd__law_whole, fun_ofD F__law_whole, F__law_whole.bindsN (ps := ["_law_found"]) fun _ _ _ _ _ _ us hl => match us, hl with | [_], _ => rfl, He.glo_ok X G (c.t.d.fact 9 (f := (He.Fa.glo "_law_whole" : He.Fa)) rfl)⟩
    D__law_low := ⟨_, fd__law_low, fun_ofD F__law_low, F__law_low.bindsN (ps := ["_law_top", "_law_bottom"]) fun _ _ _ _ _ _ us hl => match us, hl with | [_, _], _ => rfl, He.glo_ok X G (c.t.d.fact 10 (f := (He.Fa.glo "_law_low" : He.Fa)) rfl)⟩
    D__law_add := ⟨_, fd__law_add, fun_ofD F__law_add, F__law_add.bindsN (ps := ["_law_a", "_law_b"]) fun _ _ _ _ _ _ us hl => match us, hl with | [_, _], _ => rfl, He.glo_ok X G (c.t.d.fact 11 (f := (He.Fa.glo "_law_add" : He.Fa)) rfl)⟩
    D__law_shares := ⟨_, fd__law_shares, fun_ofD F__law_shares, F__law_shares.bindsN (ps := ["_law_row", "_law_n"]) fun _ _ _ _ _ _ us hl => match us, hl with | [_, _], _ => rfl, He.glo_ok X G (c.t.d.fact 12 (f := (He.Fa.glo "_law_shares" : He.Fa)) rfl)⟩
    D__law_many_fields := ⟨_, fd__law_many_fields, fun_ofD F__law_many_fields, F__law_many_fields.bindsN (ps := ["_law_one", "_law_top"]) fun _ _ _ _ _ _ us hl => match us, hl with | [_, _], _ => rfl, He.glo_ok X G (c.t.d.fact 13 (f := (He.Fa.glo "_law_many_fields" : He.Fa)) rfl)⟩
    D__law_alike := ⟨_, fd__law_alike, fun_ofD F__law_alike, F__law_alike.bindsN (ps := ["_law_found", "_law_due"]) fun _ _ _ _ _ _ us hl => match us, hl with | [_, _], _ => rfl, He.glo_ok X G (c.t.d.fact 14 (f := (He.Fa.glo "_law_alike" : He.Fa)) rfl)⟩
    D__law_season := ⟨_, fd__law_season, fun_ofD F__law_season, F__law_season.bindsN (ps := ["_law_row"]) fun _ _ _ _ _ _ us hl => match us, hl with | [_], _ => rfl, He.glo_ok X G (c.t.d.fact 15 (f := (He.Fa.glo "_law_season" : He.Fa)) rfl)⟩
    D__law_gains := ⟨_, fd__law_gains, fun_ofD F__law_gains, F__law_gains.bindsN (ps := ["_law_rows", "_law_n"]) fun _ _ _ _ _ _ us hl => match us, hl with | [_, _], _ => rfl, He.glo_ok X G (c.t.d.fact 16 (f := (He.Fa.glo "_law_gains" : He.Fa)) rfl)⟩
    D__law_windows := ⟨_, fd__law_windows, fun_ofD F__law_windows, F__law_windows.bindsN (ps := ["_law_rows", "_law_n"]) fun _ _ _ _ _ _ us hl => match us, hl with | [_, _], _ => rfl, He.glo_ok X G (c.t.d.fact 17 (f := (He.Fa.glo "_law_windows" : He.Fa)) rfl)⟩
    D_law := ⟨_, fd_law, fun_ofD F_law, F_law.bindsN (ps := ["_law_script"]) fun _ _ _ _ _ _ us hl => match us, hl with | [_], _ => rfl, He.glo_ok X G (c.t.d.fact 18 (f := (He.Fa.glo "law" : He.Fa)) rfl)⟩
    m_abs := He.free_ok X G (c.t.d.fact 19 (f := (He.Fa.free "abs" : He.Fa)) rfl)
    m_len := He.free_ok X G (c.t.d.fact 20 (f := (He.Fa.free "len" : He.Fa)) rfl)
    m_range := He.free_ok X G (c.t.d.fact 21 (f := (He.Fa.free "range" : He.Fa)) rfl)
    m_isinstance := He.free_ok X G (c.t.d.fact 22 (f := (He.Fa.free "isinstance" : He.Fa)) rfl)
    m_int := He.free_ok X G (c.t.d.fact 23 (f := (He.Fa.free "int" : He.Fa)) rfl)
    m_bool := He.free_ok X G (c.t.d.fact 24 (f := (He.Fa.free "bool" : He.Fa)) rfl)
    m_tuple := He.free_ok X G (c.t.d.fact 25 (f := (He.Fa.free "tuple" : He.Fa)) rfl)
    m_list := He.free_ok X G (c.t.d.fact 26 (f := (He.Fa.free "list" : He.Fa)) rfl)
    m_all := He.free_ok X G (c.t.d.fact 27 (f := (He.Fa.free "all" : He.Fa)) rfl)
    m_sum := He.free_ok X G (c.t.d.fact 28 (f := (He.Fa.free "sum" : He.Fa)) rfl)
    m_min := He.free_ok X G (c.t.d.fact 29 (f := (He.Fa.free "min" : He.Fa)) rfl)
    m_zip := He.free_ok X G (c.t.d.fact 30 (f := (He.Fa.free "zip" : He.Fa)) rfl)
    m_enumerate := He.free_ok X G (c.t.d.fact 31 (f := (He.Fa.free "enumerate" : He.Fa)) rfl)
    m_str := He.free_ok X G (c.t.d.fact 32 (f := (He.Fa.free "str" : He.Fa)) rfl)
  }, rfl⟩
  have e := hfa.symm.trans T.D_law.g
  obtain rfl : f = T.D_law.f := by injection e with e; injection e with e
  refine ⟨T.D_law.fd, fun s v => ?_, fun base _ _ => ok_law T⟩
  rw [eF]
  exact FunD.bindsA (ps := ["_law_script"]) F_law (fun _ _ _ _ _ _ us hl => match us, hl with | [_], _ => rfl) s [v] rfl
end DT
open PySem PySem.W PySem.Calls PyProof.Rows
set_option maxHeartbeats 0 in
theorem PySem.Challenge.cw_ditchturn_k41_windows_of_turns_holds : PySem.Challenge.rw_ditchturn_k41_windows_of_turns.Holds := by
  w_on; o_law
  refine HandSHeadRun.head_any (r := OpenLaw.row PySem.Challenge.rw_ditchturn_k41_windows_of_turns) (q := view (OpenLaw.row PySem.Challenge.rw_ditchturn_k41_windows_of_turns).prog [21]) (H := DT.hk) (ob := DT.ob) (M := 30000) (loose := DT.looseL) (d := HandSHeadRun.topDef (OpenLaw.row PySem.Challenge.rw_ditchturn_k41_windows_of_turns).prog 21) (kwd := []) DT.ob_eq
    (by kernel_rfl) (fun s => by kernel_rfl) DT.run (by kernel_rfl) (by kernel_rfl) (by kernel_rfl) (by rfl) (by first | assumption | decide +kernel) (by decide +kernel) ⟨rfl, rfl, rfl, rfl, rfl, by decide +kernel⟩ ?hw ?hc
  case hw => w_witness2
  case hc =>
    refine L2.walk_ofE (l := PySem.Challenge.rw_ditchturn_k41_windows_of_turns) (n := 63) (k := 8) (x := "_law_script") (CX := L2.CX0) rfl (by decide) (by kernel_rfl) ⟨rfl, by decide, by decide⟩ ?F (fun _ _ _ _ z => z)
    intro w mg fa h Y G hmg0
    obtain ⟨K, KX, c⟩ := Y
    have hmg : mg ("law" : PySem.Str) = some (.ref fa) := by
      have e : (HandSHeadRun.topDef (OpenLaw.row PySem.Challenge.rw_ditchturn_k41_windows_of_turns).prog 21).name = ("law" : PySem.Str) := by kernel_rfl
      rw [← e]
      exact hmg0
    obtain ⟨fd, hb, hF⟩ := DT.facts (P := (PySem.Challenge.rw_ditchturn_k41_windows_of_turns).prog) (w := w) KX G hmg c
    exact ⟨K, fd, DT.sp_law K, KX, hb, fun H a ns hl _ hS => ⟨a, ns, rfl, hS, hl, fun _ => rfl⟩, hF⟩

