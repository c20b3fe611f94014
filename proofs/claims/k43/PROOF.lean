import PyProof.Rows.All
import Wide.All
import OpenK.AllK
import Wide.FinOn
import HandS.ForMost
import HandS.Wide
import HandS.IsInst
import HandS.Head0
import HandS.Head1
import HandS.Head2
import HandS.HeadEnd
import HandS.HeadHook1
import HandS.HeadHook2
import HandS.HeadHook3
import HandS.HeadHook4
import HandS.StrMore
import HandS.Style
import HandS.Walk
import HandS.Codes
import HandS.Iter
import HandS.More
import HandS.ForExc
import HandS.ExcIs
import HandS.RaiseMore
import HandS.FStr
import HandS.Deep
import HandS.Zip
import HandS.HotCalls
import HandS.Lambda
import HandS.Nested
import HandS.EndTab
import HandS.SortRule
import HandS.SetFor
import HandS.HeadWalk
import HandS.Deep
import KE.DataMinKey
import KE.DataFind
import PyProof.SeqI3
import PySem.Challenge.RW_ditchturn_k43_whole_plans_or_full_stretc
set_option Elab.async false
set_option linter.all false
set_option maxRecDepth 100000
set_option maxHeartbeats 4000000
namespace DT
open PySem PySem.Spec PyProof.Rows L2
def excCB (K : PySem.W.Frag) (x : Str) : Bool :=
  decide (PySem.W.findIn K (.ref (He.ga K x)) "__getattribute__" = some (some (.builtin "BaseException.__getattribute__"))) &&
  (decide (PySem.W.findIn K (.ref (He.ga K x)) "__getattr__" = some none) && (decide (PySem.W.subIn K (.ref (He.ga K x)) (.type "BaseException") = some true) && (PySem.W.hasDictIn K (He.ga K x) &&
  (decide (PySem.W.findIn K (.ref (He.ga K x)) "__class__" = some (some (.builtin "object.__class__"))) && (decide (PySem.W.specialIn K (.builtin "object.__class__") "__get__" = some (some (.builtin "getset_descriptor.__get__"))) &&
  (decide (PySem.W.takesIn K (.builtin "object.__class__") = some true) && (decide (PySem.W.mroIn K (He.ga K x) (.type "object") = some true) && decide (PySem.W.kitOne K (.ref (He.ga K x)) (.type "ValueError") = some true))))))))
theorem excCB_all {K : PySem.W.Frag} {x : Str} (h : excCB K x = true) : ExcC K (He.ga K x) ∧ PySem.W.kitOne K (.ref (He.ga K x)) (.type "ValueError") = some true := by
  obtain ⟨h1, h⟩ := He.ba h
  obtain ⟨h2, h⟩ := He.ba h
  obtain ⟨h3, h⟩ := He.ba h
  obtain ⟨h4, h⟩ := He.ba h
  obtain ⟨h5, h⟩ := He.ba h
  obtain ⟨h6, h⟩ := He.ba h
  obtain ⟨h7, h⟩ := He.ba h
  obtain ⟨h8, h9⟩ := He.ba h
  exact ⟨⟨of_decide_eq_true h1, of_decide_eq_true h2, of_decide_eq_true h3, h4, of_decide_eq_true h5, of_decide_eq_true h6, of_decide_eq_true h7, of_decide_eq_true h8⟩, of_decide_eq_true h9⟩
theorem excCB_ok {K : PySem.W.Frag} {x : Str} (h : excCB K x = true) : ExcC K (He.ga K x) := (excCB_all h).1
theorem excCB_kit {K : PySem.W.Frag} {x : Str} (h : excCB K x = true) : PySem.W.kitOne K (.ref (He.ga K x)) (.type "ValueError") = some true := (excCB_all h).2
end DT

namespace DT
open PySem PySem.Spec PyProof.Rows L2
def topS (i : Nat) : Stmt := PySem.Challenge.pw_ditchturn_k43_whole_plans_or_full_stretc.main.body.getD i (.Pass ⟨0, 0, 0, 0⟩)
abbrev s_common : Stmt := topS 1
abbrev s_plus : Stmt := topS 2
abbrev s_floor_of : Stmt := topS 3
abbrev s_ceil_of : Stmt := topS 4
abbrev s_gains : Stmt := topS 6
abbrev s_first_hour : Stmt := topS 7
abbrev s_field_windows : Stmt := topS 8
abbrev s_windows : Stmt := topS 9
abbrev s_open_ahead : Stmt := topS 10
abbrev s_crowded : Stmt := topS 11
abbrev s_plan_of : Stmt := topS 12
abbrev s_planned : Stmt := topS 13
abbrev s__law_flow : Stmt := topS 15
abbrev s__law_whole : Stmt := topS 16
abbrev s__law_low : Stmt := topS 17
abbrev s__law_add : Stmt := topS 18
abbrev s__law_shares : Stmt := topS 19
abbrev s__law_many_fields : Stmt := topS 20
abbrev s__law_season : Stmt := topS 21
abbrev s__law_gains : Stmt := topS 22
abbrev s__law_windows : Stmt := topS 23
abbrev s__law_plan_keeps : Stmt := topS 24
abbrev s__law_lost : Stmt := topS 25
abbrev s__law_full : Stmt := topS 26
abbrev s_law : Stmt := topS 27
end DT
namespace DT
open PySem PySem.Spec PyProof.Rows L2
/-! ### a look at what the module's names reach, level by level, nothing dropped -/
def refsM (o : Obj) : List Addr := match o.data with
  | .func fd => He.refV fd.code
  | .cls cd => [cd.ns]
  | .dict es _ => es.toList.flatMap fun e => He.refV e.val
  | _ => []
def stepM (g : Addr → Option Obj) (as : List Addr) : List Addr := as.flatMap fun a => match g a with
  | some o => refsM o
  | none => []
def lev4 (g : Addr → Option Obj) (l1 l2 l3 : List Addr) : List Addr := mainGlobals :: (l1 ++ (l2 ++ (l3 ++ stepM g l3)))
def lev3 (g : Addr → Option Obj) (l1 l2 : List Addr) : List Addr := lev4 g l1 l2 (stepM g l2)
def lev2 (g : Addr → Option Obj) (l1 : List Addr) : List Addr := lev3 g l1 (stepM g l1)
def asM (g : Addr → Option Obj) : List Addr := lev2 g (stepM g [mainGlobals])
abbrev AlM : Type := He.AlT × Bool
def obsK (fa : List He.Fa) (fn : List He.DefD) (ts : List He.Tab) (ex : PySem.W.Frag → Bool) (K : PySem.W.Frag) : AlM := (He.obsT fa fn ts K, ex K)
def obsM (fa : List He.Fa) (fn : List He.DefD) (ts : List He.Tab) (ex : PySem.W.Frag → Bool) (g : Addr → Option Obj) : AlM := obsK fa fn ts ex (He.frG g (asM g))
def valM (fn : List He.DefD) (ts : List He.Tab) (w : World) : AlM := (He.valT fn ts w, true)
structure SaysM (fa : List He.Fa) (fn : List He.DefD) (ts : List He.Tab) (ex : PySem.W.Frag → Bool) (w : World) (K : PySem.W.Frag) : Prop where
  t : He.SaysT fa fn ts w K
  more : ex K = true
def hookM (fa : List He.Fa) (fn : List He.DefD) (ts : List He.Tab) (ex : PySem.W.Frag → Bool) : PySem.W.Hook where
  α := AlM
  obs := fun s => obsM fa fn ts ex s.heap.get?
  val := fun w => valM fn ts w
  says := fun w h => ∃ K : PySem.W.Frag, K.In h ∧ SaysM fa fn ts ex w K
  of := fun _ _ e => ⟨_, He.frG_in, ⟨congrArg (fun z : AlM => z.1) e, congrArg (fun z : AlM => z.2) e⟩⟩
  keeps := fun _ _ _ ⟨K, hK, c⟩ k => ⟨K, PySem.W.Frag.In.keeps hK k, c⟩
theorem obsM_eq {fa : List He.Fa} {fn : List He.DefD} {ts : List He.Tab} {ex : PySem.W.Frag → Bool} {g : Addr → Option Obj} {s : Shared} (h : ∀ a, g a = s.heap.get? a) : obsM fa fn ts ex g = (hookM fa fn ts ex).obs s := by
  have e : g = s.heap.get? := funext h
  rw [e] <;> rfl
end DT

namespace DT
open PySem PySem.Spec PyProof.Rows L2
/-! ### the same look, the empty tables of code objects left out and told by themselves -/
def tabM (g : Addr → Option Obj) : PySem.W.Frag := He.frT g (asM g)
def obsU (fa : List He.Fa) (fn : List He.DefD) (ts : List He.Tab) (tf : List He.Defn) (ex : PySem.W.Frag → Bool) (g : Addr → Option Obj) : AlM := (He.obsT fa fn ts (tabM g), ex (tabM g) && He.tabsB g tf (tabM g))
structure SaysU (fa : List He.Fa) (fn : List He.DefD) (ts : List He.Tab) (tf : List He.Defn) (ex : PySem.W.Frag → Bool) (w : World) (h : Heap) (K : PySem.W.Frag) : Prop where
  m : SaysM fa fn ts ex w K
  tb : ∀ p ∈ tf, PySem.W.codeHdIn K (He.cT K p).1 (He.cT K p).2 = true ∧ K.lookup (He.cT K p).2 = none ∧ h.get? (He.cT K p).2 = some { cls := .none, data := .fields #[] }
theorem saysU_of {fa : List He.Fa} {fn : List He.DefD} {ts : List He.Tab} {tf : List He.Defn} {ex : PySem.W.Frag → Bool} {w : World} {h : Heap} (e : obsU fa fn ts tf ex h.get? = valM fn ts w) : SaysU fa fn ts tf ex w h (tabM h.get?) := by
  have e1 := congrArg (fun z : AlM => z.1) e
  have e2 := congrArg (fun z : AlM => z.2) e
  obtain ⟨a, b⟩ := He.ba (show (ex (tabM h.get?) && He.tabsB h.get? tf (tabM h.get?)) = true from e2)
  refine ⟨⟨e1, a⟩, fun p hp => ?_⟩
  obtain ⟨c, d⟩ := He.ba (List.all_eq_true.1 b p hp)
  cases q : h.get? (He.cT (tabM h.get?) p).2 with
  | none => rw [q] at d; cases d
  | some o =>
    rw [q] at d
    exact ⟨c, He.frT_none q d, by rw [He.emptyTab_eq d]⟩
def hookU (fa : List He.Fa) (fn : List He.DefD) (ts : List He.Tab) (tf : List He.Defn) (ex : PySem.W.Frag → Bool) : PySem.W.Hook where
  α := AlM
  obs := fun s => obsU fa fn ts tf ex s.heap.get?
  val := fun w => valM fn ts w
  says := fun w h => ∃ K : PySem.W.Frag, K.In h ∧ SaysU fa fn ts tf ex w h K
  of := fun _ _ e => ⟨_, He.frT_in, saysU_of e⟩
  keeps := fun _ _ _ z more => by
    obtain ⟨K, inK, c⟩ := z
    refine ⟨K, PySem.W.Frag.In.keeps inK more, c.m, fun p hp => ?_⟩
    obtain ⟨c1, c2, c3⟩ := c.tb p hp
    exact ⟨c1, c2, more _ _ c3⟩
theorem obsU_eq {fa : List He.Fa} {fn : List He.DefD} {ts : List He.Tab} {tf : List He.Defn} {ex : PySem.W.Frag → Bool} {g : Addr → Option Obj} {s : Shared} (h : ∀ a, g a = s.heap.get? a) : obsU fa fn ts tf ex g = (hookU fa fn ts tf ex).obs s := by
  obtain rfl : g = s.heap.get? := funext h
  rfl
/-- a def's code object -/
theorem code_ofD {K : PySem.W.Frag} {x qual : Str} {ps : Arguments} {b : List Stmt} {sc : Scope} {dvs : List V} {kws : List (Str × V)} {p : He.Defn} {fd : FuncData} (F : FunD K x qual ps b sc dvs kws (He.fAd K p) fd) : fd.code = .ref (He.cT K p).1 := by
  obtain ⟨oc, od, dV, kV, doc, pm, an, cdv, ct, osl, e, lk, hcd, _⟩ := F.ex
  obtain ⟨c, rfl⟩ := He.codeIn_ref hcd
  have ec : fd.code = .ref c := by rw [e]
  rw [ec]
  exact congrArg Value.ref (He.codeOf_eq lk ec).symm
end DT

namespace DT
open PySem PySem.Spec PyProof.Rows L2
def d_common : He.DefD := ⟨("common", none), "common", "common", defArgs s_common, defBody s_common, defScope s_common, [], []⟩
def d_plus : He.DefD := ⟨("plus", none), "plus", "plus", defArgs s_plus, defBody s_plus, defScope s_plus, [], []⟩
def d_floor_of : He.DefD := ⟨("floor_of", none), "floor_of", "floor_of", defArgs s_floor_of, defBody s_floor_of, defScope s_floor_of, [], []⟩
def d_ceil_of : He.DefD := ⟨("ceil_of", none), "ceil_of", "ceil_of", defArgs s_ceil_of, defBody s_ceil_of, defScope s_ceil_of, [], []⟩
def d_gains : He.DefD := ⟨("gains", none), "gains", "gains", defArgs s_gains, defBody s_gains, defScope s_gains, [], []⟩
def d_first_hour : He.DefD := ⟨("first_hour", none), "first_hour", "first_hour", defArgs s_first_hour, defBody s_first_hour, defScope s_first_hour, [], []⟩
def d_field_windows : He.DefD := ⟨("field_windows", none), "field_windows", "field_windows", defArgs s_field_windows, defBody s_field_windows, defScope s_field_windows, [], []⟩
def d_windows : He.DefD := ⟨("windows", none), "windows", "windows", defArgs s_windows, defBody s_windows, defScope s_windows, [], []⟩
def d_open_ahead : He.DefD := ⟨("open_ahead", none), "open_ahead", "open_ahead", defArgs s_open_ahead, defBody s_open_ahead, defScope s_open_ahead, [], []⟩
def d_crowded : He.DefD := ⟨("crowded", none), "crowded", "crowded", defArgs s_crowded, defBody s_crowded, defScope s_crowded, [], []⟩
def d_plan_of : He.DefD := ⟨("plan_of", none), "plan_of", "plan_of", defArgs s_plan_of, defBody s_plan_of, defScope s_plan_of, [], []⟩
def d_planned : He.DefD := ⟨("planned", none), "planned", "planned", defArgs s_planned, defBody s_planned, defScope s_planned, [], []⟩
def d__law_flow : He.DefD := ⟨("_law_flow", none), "_law_flow", "_law_flow", defArgs s__law_flow, defBody s__law_flow, defScope s__law_flow, [], []⟩
def d__law_whole : He.DefD := ⟨("_law_whole", none), "_law_whole", "_law_whole", defArgs s__law_whole, defBody s__law_whole, defScope s__law_whole, [], []⟩
def d__law_low : He.DefD := ⟨("_law_low", none), "_law_low", "_law_low", defArgs s__law_low, defBody s__law_low, defScope s__law_low, [], []⟩
def d__law_add : He.DefD := ⟨("_law_add", none), "_law_add", "_law_add", defArgs s__law_add, defBody s__law_add, defScope s__law_add, [], []⟩
def d__law_shares : He.DefD := ⟨("_law_shares", none), "_law_shares", "_law_shares", defArgs s__law_shares, defBody s__law_shares, defScope s__law_shares, [], []⟩
def d__law_many_fields : He.DefD := ⟨("_law_many_fields", none), "_law_many_fields", "_law_many_fields", defArgs s__law_many_fields, defBody s__law_many_fields, defScope s__law_many_fields, [], []⟩
def d__law_season : He.DefD := ⟨("_law_season", none), "_law_season", "_law_season", defArgs s__law_season, defBody s__law_season, defScope s__law_season, [], []⟩
def d__law_gains : He.DefD := ⟨("_law_gains", none), "_law_gains", "_law_gains", defArgs s__law_gains, defBody s__law_gains, defScope s__law_gains, [], []⟩
def d__law_windows : He.DefD := ⟨("_law_windows", none), "_law_windows", "_law_windows", defArgs s__law_windows, defBody s__law_windows, defScope s__law_windows, [], []⟩
def d__law_plan_keeps : He.DefD := ⟨("_law_plan_keeps", none), "_law_plan_keeps", "_law_plan_keeps", defArgs s__law_plan_keeps, defBody s__law_plan_keeps, defScope s__law_plan_keeps, [], []⟩
def d__law_lost : He.DefD := ⟨("_law_lost", none), "_law_lost", "_law_lost", defArgs s__law_lost, defBody s__law_lost, defScope s__law_lost, [], []⟩
def d__law_full : He.DefD := ⟨("_law_full", none), "_law_full", "_law_full", defArgs s__law_full, defBody s__law_full, defScope s__law_full, [], []⟩
def d_law : He.DefD := ⟨("law", none), "law", "law", defArgs s_law, defBody s_law, defScope s_law, [], []⟩
def fn0 : List He.DefD := [d_common, d_plus, d_floor_of, d_ceil_of, d_gains, d_first_hour, d_field_windows, d_windows, d_open_ahead, d_crowded, d_plan_of, d_planned, d__law_flow, d__law_whole, d__law_low, d__law_add, d__law_shares, d__law_many_fields, d__law_season, d__law_gains, d__law_windows, d__law_plan_keeps, d__law_lost, d__law_full, d_law]
def fnL : List He.DefD := fn0
def fa0 : List He.Fa := [.glo "common", .glo "plus", .glo "floor_of", .glo "ceil_of", .glo "gains", .glo "first_hour", .glo "field_windows", .glo "windows", .glo "open_ahead", .glo "crowded", .glo "plan_of", .glo "planned", .glo "_law_flow", .glo "_law_whole", .glo "_law_low", .glo "_law_add", .glo "_law_shares", .glo "_law_many_fields", .glo "_law_season", .glo "_law_gains", .glo "_law_windows", .glo "_law_plan_keeps", .glo "_law_lost", .glo "_law_full", .glo "law", .free "abs", .free "len", .free "range", .free "isinstance", .free "int"]
def fa1 : List He.Fa := [.free "bool", .free "tuple", .free "list", .free "any", .free "sum", .free "min", .free "zip", .free "enumerate", .free "sorted"]
def faL : List He.Fa := fa0 ++ (fa1)
def ls0 : List PySem.Str := ["common", "plus", "floor_of", "ceil_of", "gains", "first_hour", "field_windows", "windows", "open_ahead", "crowded", "plan_of", "planned", "_law_flow", "_law_whole", "_law_low", "_law_add", "_law_shares", "_law_many_fields", "_law_season", "_law_gains", "_law_windows", "_law_plan_keeps", "_law_lost", "_law_full"]
def looseL : List PySem.Str := ls0
def tsL : List He.Tab := []
def exL (K : PySem.W.Frag) : Bool := true
abbrev R : PySem.W.OpenRow := PySem.W.OpenLaw.row PySem.Challenge.rw_ditchturn_k43_whole_plans_or_full_stretc
def tfL : List He.Defn := [("plan_of", none)]
abbrev hkZ : PySem.W.Hook := hookU faL fnL tsL tfL exL
def ob (s : PySem.W.SharedT) : AlM := obsU faL fnL tsL tfL exL (HandSHeadRun.getT s)
theorem ob_eq (s : PySem.W.SharedT) : ob s = hkZ.obs s.abs := obsU_eq (HandSHeadRun.getT_eq s)
theorem run0 (w : World) : HandSHeadRun.RunEq R (PySem.W.view R.prog [27]) hkZ ob 30000 looseL (w.withFollow "special-get-raises" false) := by
  intro os; kernel_rfl
theorem run1 (w : World) : HandSHeadRun.RunEq R (PySem.W.view R.prog [27]) hkZ ob 30000 looseL (w.withFollow "special-get-raises" true) := by
  intro os; kernel_rfl
theorem run (w : World) : HandSHeadRun.RunEq R (PySem.W.view R.prog [27]) hkZ ob 30000 looseL w :=
  PySem.W.byRow2 "special-get-raises" (P := fun w => HandSHeadRun.RunEq R (PySem.W.view R.prog [27]) hkZ ob 30000 looseL w) run0 run1 w
end DT

namespace DT
/-! ### numbers: gcd, lowest terms -/
def gc (a b : Int) : Int := (Int.gcd a b : Int)
structure Low (a b : Int) : Prop where
  pos : 0 < b
  cop : Int.gcd a b = 1
theorem gc_pos {a b : Int} (h : 0 < b) : 0 < gc a b := by
  have : Int.gcd a b ≠ 0 := by
    intro e
    have := (Int.gcd_eq_zero_iff).1 e
    omega
  unfold gc
  omega
theorem gc_dl (a b : Int) : gc a b ∣ a := Int.gcd_dvd_left a b
theorem gc_dr (a b : Int) : gc a b ∣ b := Int.gcd_dvd_right a b
theorem gc_le {a b : Int} (h : 0 < b) : gc a b ≤ b := Int.le_of_dvd h (gc_dr a b)
theorem gc_step {a b : Int} : Int.gcd b (a % b) = Int.gcd a b := by
  rw [Int.emod_def, Int.gcd_comm a b]
  have := Int.gcd_add_mul_right_right b a (-(a / b))
  rw [← this]
  congr 1
  rw [Int.neg_mul, Int.mul_comm (a / b) b]
  omega
theorem gc_abs (a b : Int) : Int.gcd (if a < 0 then -a else a) b = Int.gcd a b := by
  split
  · exact Int.neg_gcd
  · rfl
theorem div_pos' {b g : Int} (hb : 0 < b) (hg : 0 < g) (hd : g ∣ b) : 0 < b / g := by
  obtain ⟨q, rfl⟩ := hd
  rw [Int.mul_ediv_cancel_left q (by omega)]
  exact Int.pos_of_mul_pos_right hb (by omega)
theorem low_div {a b : Int} (h : 0 < b) : Low (a / gc a b) (b / gc a b) := by
  have hg := gc_pos (a := a) h
  refine ⟨div_pos' h hg (gc_dr a b), ?_⟩
  have hn : 0 < Int.gcd a b := by
    have := hg
    unfold gc at this
    omega
  have e := Int.gcd_mul_left (gc a b) (a / gc a b) (b / gc a b)
  rw [Int.mul_ediv_cancel' (gc_dl a b), Int.mul_ediv_cancel' (gc_dr a b)] at e
  have e2 : (gc a b).natAbs = Int.gcd a b := by unfold gc; omega
  rw [e2] at e
  have : Int.gcd a b * 1 = Int.gcd a b * Int.gcd (a / gc a b) (b / gc a b) := by rw [← e, Nat.mul_one]
  exact (Nat.eq_of_mul_eq_mul_left hn this).symm
theorem low_cross (a b : Int) : (a / gc a b) * b = (b / gc a b) * a := by
  obtain ⟨p, hp⟩ := gc_dl a b
  obtain ⟨q, hq⟩ := gc_dr a b
  by_cases h0 : gc a b = 0
  · rw [h0] at hp hq
    rw [show a = 0 by omega, show b = 0 by omega]
  · have e1 : a / gc a b = p := Int.ediv_eq_of_eq_mul_right h0 hp
    have e2 : b / gc a b = q := Int.ediv_eq_of_eq_mul_right h0 hq
    rw [e1, e2]
    calc p * b = p * (gc a b * q) := by rw [← hq]
      _ = q * (gc a b * p) := by rw [Int.mul_left_comm, Int.mul_comm p q, Int.mul_left_comm q]
      _ = q * a := by rw [← hp]
theorem low_self {a b : Int} (h : Low a b) : a / gc a b = a ∧ b / gc a b = b := by
  have : gc a b = 1 := by unfold gc; rw [h.cop]; rfl
  rw [this, Int.ediv_one, Int.ediv_one]
  exact ⟨rfl, rfl⟩
theorem low_uniq {a b c d : Int} (h : Low a b) (k : Low c d) (e : a * d = c * b) : a = c ∧ b = d := by
  have h1 : b.natAbs ∣ d.natAbs := by
    have c1 : Nat.Coprime b.natAbs a.natAbs := by
      have := h.cop
      rw [Int.gcd_comm] at this
      exact this
    refine c1.dvd_of_dvd_mul_left (m := a.natAbs) (n := d.natAbs) ?_
    rw [← Int.natAbs_mul, e, Int.natAbs_mul]
    exact Nat.dvd_mul_left _ _
  have h2 : d.natAbs ∣ b.natAbs := by
    have c1 : Nat.Coprime d.natAbs c.natAbs := by
      have := k.cop
      rw [Int.gcd_comm] at this
      exact this
    refine c1.dvd_of_dvd_mul_left (m := c.natAbs) (n := b.natAbs) ?_
    rw [← Int.natAbs_mul, ← e, Int.natAbs_mul]
    exact Nat.dvd_mul_left _ _
  have hb := h.pos
  have hd := k.pos
  have e1 : b.natAbs = d.natAbs := Nat.dvd_antisymm h1 h2
  have e2 : b = d := by omega
  subst e2
  exact ⟨Int.eq_of_mul_eq_mul_right (by omega) e, rfl⟩
/-- the low form of a pair is told by any low pair worth the same -/
theorem low_is {a b c d : Int} (hd : 0 < d) (h : Low a b) (e : a * d = c * b) : a = c / gc c d ∧ b = d / gc c d := by
  refine low_uniq h (low_div hd) ?_
  obtain ⟨p, hp⟩ := gc_dl c d
  obtain ⟨q, hq⟩ := gc_dr c d
  have hg := gc_pos (a := c) hd
  have e1 : c / gc c d = p := Int.ediv_eq_of_eq_mul_right (by omega) hp
  have e2 : d / gc c d = q := Int.ediv_eq_of_eq_mul_right (by omega) hq
  rw [e1, e2]
  have e3 : gc c d * (a * q) = gc c d * (p * b) := by
    calc gc c d * (a * q) = a * (gc c d * q) := by rw [Int.mul_left_comm]
      _ = a * d := by rw [← hq]
      _ = c * b := e
      _ = gc c d * p * b := by rw [← hp]
      _ = gc c d * (p * b) := by rw [Int.mul_assoc]
  exact Int.eq_of_mul_eq_mul_left (by omega) e3
/-! ### the sum by crossing over what the bottoms share -/
theorem plus_low {a b c d : Int} (h : Low a b) (k : Low c d) :
    let s := gc b d
    let r := b / s
    let t := a * (d / s) + c * r
    let g := gc t s
    Low (t / g) (r * (d / g)) ∧ (t / g) * (b * d) = (a * d + c * b) * (r * (d / g)) := by
  intro s r t g
  have hb := h.pos
  have hd := k.pos
  have hs : 0 < s := gc_pos hd
  have hg : 0 < g := gc_pos hs
  obtain ⟨p, hp⟩ : s ∣ b := gc_dl b d
  obtain ⟨q, hq⟩ : s ∣ d := gc_dr b d
  have er : r = p := Int.ediv_eq_of_eq_mul_right (by omega) hp
  have eq : d / s = q := Int.ediv_eq_of_eq_mul_right (by omega) hq
  obtain ⟨u, hu⟩ : g ∣ t := gc_dl t s
  obtain ⟨v, hv⟩ : g ∣ s := gc_dr t s
  have eu : t / g = u := Int.ediv_eq_of_eq_mul_right (by omega) hu
  have ht : t = a * q + c * p := by
    show a * (d / s) + c * r = _
    rw [eq, er]
  have hgd : d = g * (v * q) := by rw [hq, ← Int.mul_assoc, ← hv]
  have ed : d / g = v * q := Int.ediv_eq_of_eq_mul_right (by omega) hgd
  have hp0 : 0 < p := Int.pos_of_mul_pos_right (hp ▸ hb) (by omega)
  have hq0 : 0 < q := Int.pos_of_mul_pos_right (hq ▸ hd) (by omega)
  have hv0 : 0 < v := Int.pos_of_mul_pos_right (hv ▸ hs) (by omega)
  rw [eu, er, ed]
  have cpq : Int.gcd p q = 1 := by
    have := (low_div (a := b) hd).cop
    rw [show b / gc b d = p from er, show d / gc b d = q from eq] at this
    exact this
  have cap : Nat.Coprime a.natAbs p.natAbs := by
    have c0 : Nat.Coprime a.natAbs b.natAbs := h.cop
    refine Nat.Coprime.coprime_dvd_right ?_ c0
    rw [hp, Int.natAbs_mul]
    exact Nat.dvd_mul_left _ _
  have ccq : Nat.Coprime c.natAbs q.natAbs := by
    have c0 : Nat.Coprime c.natAbs d.natAbs := k.cop
    refine Nat.Coprime.coprime_dvd_right ?_ c0
    rw [hq, Int.natAbs_mul]
    exact Nat.dvd_mul_left _ _
  have cqp : Nat.Coprime q.natAbs p.natAbs := by
    rw [Int.gcd_comm] at cpq
    exact cpq
  have ctp : Int.gcd t p = 1 := by
    rw [ht, Int.mul_comm c p, Int.gcd_add_mul_left_left]
    show Nat.Coprime (a * q).natAbs p.natAbs
    rw [Int.natAbs_mul]
    exact Nat.Coprime.mul_left cap cqp
  have ctq : Int.gcd t q = 1 := by
    rw [ht, Int.add_comm, Int.mul_comm a q, Int.gcd_add_mul_left_left]
    show Nat.Coprime (c * p).natAbs q.natAbs
    rw [Int.natAbs_mul]
    exact Nat.Coprime.mul_left ccq cpq
  have cuv : Int.gcd u v = 1 := by
    have := (low_div (a := t) hs).cop
    rw [show t / gc t s = u from eu, show s / gc t s = v from Int.ediv_eq_of_eq_mul_right (by omega) hv] at this
    exact this
  have ut : u.natAbs ∣ t.natAbs := by
    rw [hu, Int.natAbs_mul]
    exact Nat.dvd_mul_left _ _
  have cup : Nat.Coprime u.natAbs p.natAbs := Nat.Coprime.coprime_dvd_left ut ctp
  have cuq : Nat.Coprime u.natAbs q.natAbs := Nat.Coprime.coprime_dvd_left ut ctq
  refine ⟨⟨Int.mul_pos hp0 (Int.mul_pos hv0 hq0), ?_⟩, ?_⟩
  · show Nat.Coprime u.natAbs (p * (v * q)).natAbs
    rw [Int.natAbs_mul, Int.natAbs_mul]
    exact Nat.Coprime.mul_right cup (Nat.Coprime.mul_right cuv cuq)
  · have e1 : a * d + c * b = s * t := by
      rw [ht, Int.mul_add, ← Int.mul_assoc, ← Int.mul_assoc, Int.mul_comm s a, Int.mul_comm s c, Int.mul_assoc, Int.mul_assoc, ← hq, ← hp]
    rw [e1]
    calc u * (b * d) = u * ((s * p) * (g * (v * q))) := by rw [← hp, ← hgd]
      _ = s * (g * u) * (p * (v * q)) := by
        simp only [Int.mul_assoc, Int.mul_comm, Int.mul_left_comm]
      _ = s * t * (p * (v * q)) := by rw [← hu]
/-- the sum as the program reckons it is the low form of the sum by crossing -/
theorem plus_is {a b c d : Int} (h : Low a b) (k : Low c d) :
    let s := gc b d
    let r := b / s
    let t := a * (d / s) + c * r
    let g := gc t s
    t / g = (a * d + c * b) / gc (a * d + c * b) (b * d) ∧ r * (d / g) = (b * d) / gc (a * d + c * b) (b * d) := by
  intro s r t g
  obtain ⟨h1, h2⟩ := plus_low h k
  exact low_is (Int.mul_pos h.pos k.pos) h1 h2
end DT

namespace DT
open PySem PySem.Spec PyProof.Rows L2
/-! ### heaps that only grow; pairs of ints -/
theorem same_upd {H : Hp} {p : Addr} {o : HO} (h : H p = none) : Same H (upd H p o) := fun b x e => by
  rw [upd_ne (ne_of_none e h)]
  exact e
theorem same_seqT {K : PySem.W.Frag} {H H' : Hp} {a : Addr} {xs : List V} (e : Same H H') (h : SqT K H a xs) : SqT K H' a xs := by
  rcases h with h | h
  · rcases h with h | ⟨o, h⟩
    · exact .inl (.inl (e _ _ h))
    · exact .inl (.inr ⟨o, e _ _ h⟩)
  · exact .inr h
/-- v is a tuple of the ints a and b -/
def Pr (K : PySem.W.Frag) (H : Hp) (v : V) (a b : Int) : Prop := ∃ p, v = .ref p ∧ SqT K H p [.int a, .int b]
theorem Pr.same {K : PySem.W.Frag} {H H' : Hp} {v : V} {a b : Int} (h : Pr K H v a b) (e : Same H H') : Pr K H' v a b := by
  obtain ⟨p, r, q⟩ := h
  exact ⟨p, r, same_seqT e q⟩
theorem Pr.new {K : PySem.W.Frag} {H : Hp} {p : Addr} {a b : Int} : Pr K (upd H p (.tup [.int a, .int b])) (.ref p) a b := ⟨p, rfl, SqT.of upd_same⟩
theorem sqT_ty {K : PySem.W.Frag} {H : Hp} {a : Addr} {xs : List V} (h : SqT K H a xs) : TyX K H (.ref a) (.type "tuple") := by
  rcases h with (h | ⟨o, h⟩) | ⟨o, its, n, h, c, _⟩
  · exact .base (.tup h)
  · exact .fTuple h
  · exact .kTuple h c
theorem Pr.dp {K : PySem.W.Frag} {H : Hp} {v : V} {a b : Int} (h : Pr K H v a b) : Dp K H v (.tuple [.int a, .int b]) := by
  obtain ⟨p, rfl, q⟩ := h
  exact .tup q (.cons (.int a) (.cons (.int b) .nil))
/-- v is a new list of the ints rs -/
def Ls (H : Hp) (v : V) (rs : List Int) : Prop := ∃ p, v = .ref p ∧ H p = some (.lst (rs.map V.int))
theorem Ls.same {H H' : Hp} {v : V} {rs : List Int} (h : Ls H v rs) (e : Same H H') : Ls H' v rs := by
  obtain ⟨p, r, q⟩ := h
  exact ⟨p, r, e _ _ q⟩
theorem ls_at {rs : List Int} {j : Nat} (h : j < rs.length) : atI (rs.map V.int) (j : Int) = some (.int (rs.getD j 0)) := by
  refine atI_nat ?_
  rw [List.getElem?_map, List.getElem?_eq_getElem h]
  simp [List.getD, List.getElem?_eq_getElem h]
/-! ### sizes -/
def Bd (n : Nat) (x : Int) : Prop := x.natAbs < 2 ^ n
theorem Bd.mono {n m : Nat} {x : Int} (h : Bd n x) (e : n ≤ m) : Bd m x := Nat.lt_of_lt_of_le h (Nat.pow_le_pow_right (by decide) e)
theorem Bd.mul {n m : Nat} {x y : Int} (h : Bd n x) (k : Bd m y) : Bd (n + m) (x * y) := wide_lt h k
theorem Bd.add {n : Nat} {x y : Int} (h : Bd n x) (k : Bd n y) : Bd (n + 1) (x + y) := by
  unfold Bd at *
  have : (x + y).natAbs ≤ x.natAbs + y.natAbs := Int.natAbs_add_le x y
  rw [Nat.pow_succ]
  omega
theorem Bd.neg {n : Nat} {x : Int} (h : Bd n x) : Bd n (-x) := by
  unfold Bd at *
  omega
theorem Bd.dvd {n : Nat} {x y : Int} (h : Bd n x) (e : y ∣ x) (hx : x ≠ 0) : Bd n y :=
  Nat.lt_of_le_of_lt (Nat.le_of_dvd (by omega) (Int.natAbs_dvd_natAbs.2 e)) h
theorem Bd.div {n : Nat} {x y : Int} (h : Bd n x) (e : y ∣ x) : Bd n (x / y) := by
  unfold Bd at *
  rw [Int.natAbs_ediv_of_dvd e]
  exact Nat.lt_of_le_of_lt (Nat.div_le_self _ _) h
theorem Bd.gc {n : Nat} {x y : Int} (h : Bd n y) (hy : 0 < y) : Bd n (gc x y) := h.dvd (gc_dr x y) (by omega)
theorem Bd.of {n : Nat} {x m : Int} (h1 : -m < x) (h2 : x < m) (e : m.natAbs ≤ 2 ^ n) : Bd n x := by
  unfold Bd
  omega
theorem bd_mulok {n m : Nat} {x y : Int} (h : Bd n x) (k : Bd m y) (e : n + m ≤ 900000) : CMulW x y :=
  wide_mul (a := n + 1) (b := m + 1) (h.mono (by omega)) (k.mono (by omega)) (by omega) (by omega) (by omega)
theorem bd_divok {n : Nat} {x y : Int} (hy : 0 < y) (k : Bd n y) (e : n ≤ 8900) : CDivW x y := wide_div (b := n + 1) hy (k.mono (by omega)) (by omega) (by omega)
/-- a def of the text: where it stands, how it binds, what the module's name holds -/
structure Df (K : PySem.W.Frag) (mg : Str → Option Value) (x : Str) (st : Stmt) (ps : List Str) where
  f : Addr
  fd : FuncData
  F : Fun K x x st f fd
  b : Binds K fd ps []
  g : mg x = some (.ref f)
end DT
namespace DT
open PySem PySem.Spec PyProof.Rows L2
theorem ls_z {rs : List Int} {z : Int} (j : Nat) (e : z = (j : Int)) (h : j < rs.length) : atI (rs.map V.int) z = some (.int (rs.getD j 0)) := by
  rw [e]
  exact ls_at h
theorem getD_in {rs : List Int} {j : Nat} (h : j < rs.length) : rs.getD j 0 ∈ rs := by
  simp [List.getD, List.getElem?_eq_getElem h]
theorem eqv_pr (a b : Int) : PyData.eqv (.tuple [.int a, .int b]) (.tuple [.int a, .int b]) = true := by
  simp [PyData.eqv, PyData.eqvAll]
theorem shp_pr (a b : Int) : SeqAt.shaped (.tuple [.int a, .int b]) = true := by
  rfl
/-- the promise of a law: True for every script -/
def sp_law (K : PySem.W.Frag) : Sp := fun vs H Q _ => ∃ (a : Addr) (ns : List Int), vs = [.ref a] ∧ SqL K H a (ns.map V.int) ∧ ns.length ≤ 63 ∧ ∀ H', Q (.bl true) H'
end DT
namespace DT
theorem Bd.ediv {n : Nat} {x y : Int} (h : Bd n x) : Bd n (x / y) := Nat.lt_of_le_of_lt (Int.natAbs_ediv_le_natAbs x y) h
theorem Bd.emod {n : Nat} {x y : Int} (hy : 0 < y) (h : Bd n y) : Bd n (x % y) := by
  unfold Bd at *
  have := Int.emod_nonneg x (show y ≠ 0 by omega)
  have := Int.emod_lt_of_pos x hy
  omega
end DT
namespace DT
open PySem PySem.Spec PyProof.Rows L2
/-- a store at an address that was free to begin with -/
theorem same_at {H H1 : Hp} {p : Addr} {o : HO} (hp : H p = none) (sm : Same H H1) : Same H (upd H1 p o) := fun b x e => by
  rw [upd_ne (ne_of_none e hp)]
  exact sm _ _ e
/-- what list(..) of a list or tuple asks -/
def rLo (K : PySem.W.Frag) : List V → Hp → VK → Prop := fun xs H Q => ∃ p ys, xs = [.ref p] ∧ (SqL K H p ys ∨ SqT K H p ys) ∧ ∀ l, H l = none → Q (.ref l) (upd H l (.lst ys))
end DT

namespace DT
open PySem PySem.Spec PyProof.Rows L2
def sp_lowest (K : PySem.W.Frag) : Sp := fun vs H Q _ => ∃ t b : Int, vs = [.int t, .int b] ∧ 0 < b ∧ Bd 8900 b ∧ ∀ H' v, Same H H' → Pr K H' v (t / gc t b) (b / gc t b) → Q v H'
end DT

namespace DT
open PySem PySem.Spec PyProof.Rows L2
/-! ### pairs and their reckoning, as the law does it -/
abbrev Q2 := Int × Int
def lowP (t b : Int) : Q2 := (t / gc t b, b / gc t b)
def addP (x y : Q2) : Q2 := lowP (x.1 * y.2 + y.1 * x.2) (x.2 * y.2)
def subP (x y : Q2) : Q2 := lowP (x.1 * y.2 - y.1 * x.2) (x.2 * y.2)
def mulP (x y : Q2) : Q2 := lowP (x.1 * y.1) (x.2 * y.2)
def Pp (K : PySem.W.Frag) (H : Hp) (v : V) (x : Q2) : Prop := Pr K H v x.1 x.2
theorem Pp.same {K : PySem.W.Frag} {H H' : Hp} {v : V} {x : Q2} (h : Pp K H v x) (e : Same H H') : Pp K H' v x := Pr.same h e
/-- both terms below 2 ^ n, the bottom above nought -/
structure Ok (n : Nat) (x : Q2) : Prop where
  pos : 0 < x.2
  top : Bd n x.1
  bot : Bd n x.2
theorem Ok.mono {n m : Nat} {x : Q2} (h : Ok n x) (e : n ≤ m) : Ok m x := ⟨h.pos, h.top.mono e, h.bot.mono e⟩
theorem lowP_low {t b : Int} (h : 0 < b) : Low (lowP t b).1 (lowP t b).2 := low_div h
theorem lowP_ok {t b : Int} {n : Nat} (h : 0 < b) (h1 : Bd n t) (h2 : Bd n b) : Ok n (lowP t b) := ⟨(low_div h).pos, h1.div (gc_dl t b), h2.div (gc_dr t b)⟩
theorem addP_ok {x y : Q2} {n m : Nat} (h : Ok n x) (k : Ok m y) : Ok (n + m + 1) (addP x y) :=
  lowP_ok (Int.mul_pos h.pos k.pos) (Bd.add (h.top.mul k.bot) ((k.top.mul h.bot).mono (by omega))) ((h.bot.mul k.bot).mono (by omega))
theorem subP_ok {x y : Q2} {n m : Nat} (h : Ok n x) (k : Ok m y) : Ok (n + m + 1) (subP x y) := by
  unfold subP
  rw [Int.sub_eq_add_neg]
  exact lowP_ok (Int.mul_pos h.pos k.pos) (Bd.add (h.top.mul k.bot) ((k.top.mul h.bot).neg.mono (by omega))) ((h.bot.mul k.bot).mono (by omega))
theorem mulP_ok {x y : Q2} {n m : Nat} (h : Ok n x) (k : Ok m y) : Ok (n + m) (mulP x y) := lowP_ok (Int.mul_pos h.pos k.pos) (h.top.mul k.top) (h.bot.mul k.bot)
theorem addP_low {x y : Q2} (h : 0 < x.2) (k : 0 < y.2) : Low (addP x y).1 (addP x y).2 := low_div (Int.mul_pos h k)
/-- promise of a def that makes the pair f x y of two pairs -/
def sp_two (K : PySem.W.Frag) (C : Q2 → Q2 → Prop) (f : Q2 → Q2 → Q2) : Sp := fun vs H Q _ => ∃ (v u : V) (x y : Q2) (n m : Nat), vs = [v, u] ∧ Pp K H v x ∧ Pp K H u y ∧ Ok n x ∧ Ok m y ∧ n + m ≤ 8890 ∧ C x y ∧ ∀ H' r, Same H H' → Pp K H' r (f x y) → Q r H'
def anyC : Q2 → Q2 → Prop := fun _ _ => True
def lowC : Q2 → Q2 → Prop := fun x y => Low x.1 x.2 ∧ Low y.1 y.2
theorem len_two {K : PySem.W.Frag} {C : Q2 → Q2 → Prop} {f : Q2 → Q2 → Q2} {vs : List V} {H : Hp} {Q : VK} {E : XK} (h : sp_two K C f vs H Q E) : vs.length = 2 := by
  obtain ⟨v, u, x, y, n, m, rfl, _⟩ := h
  rfl
theorem low_neg {a b : Int} (h : Low a b) : Low (-a) b := ⟨h.pos, by rw [Int.neg_gcd]; exact h.cop⟩
theorem subP_eq (x y : Q2) : addP x (-y.1, y.2) = subP x y := by
  unfold addP subP
  show lowP (x.1 * y.2 + -y.1 * x.2) _ = _
  rw [Int.neg_mul, ← Int.sub_eq_add_neg]
theorem pp_eq {K : PySem.W.Frag} {H : Hp} {v u : V} {x : Q2} (h : Pp K H v x) (k : Pp K H u x) : ∃ d e, Dp K H v d ∧ Dp K H u e ∧ SeqAt.shaped d = true ∧ SeqAt.shaped e = true ∧ PyData.eqv d e = true :=
  ⟨_, _, Pr.dp h, Pr.dp k, shp_pr _ _, shp_pr _ _, eqv_pr _ _⟩
end DT
namespace DT
open PySem PySem.Spec PyProof.Rows L2
/-! ### sums of lists of pairs -/
def sumP (xs : List Q2) : Q2 := xs.foldl addP (0, 1)
inductive Pps (K : PySem.W.Frag) (H : Hp) : List V → List Q2 → Prop
  | nil : Pps K H [] []
  | cons {v : V} {vs : List V} {x : Q2} {xs : List Q2} : Pp K H v x → Pps K H vs xs → Pps K H (v :: vs) (x :: xs)
theorem Pps.len {K : PySem.W.Frag} {H : Hp} : ∀ {vs : List V} {xs : List Q2}, Pps K H vs xs → vs.length = xs.length
  | _, _, .nil => rfl
  | _, _, .cons _ t => congrArg (· + 1) t.len
theorem Pps.same {K : PySem.W.Frag} {H H' : Hp} (e : Same H H') : ∀ {vs : List V} {xs : List Q2}, Pps K H vs xs → Pps K H' vs xs
  | _, _, .nil => .nil
  | _, _, .cons h t => .cons (h.same e) (t.same e)
theorem Pps.snoc {K : PySem.W.Frag} {H : Hp} {v : V} {x : Q2} (h : Pp K H v x) : ∀ {vs : List V} {xs : List Q2}, Pps K H vs xs → Pps K H (vs ++ [v]) (xs ++ [x])
  | _, _, .nil => .cons h .nil
  | _, _, .cons g t => .cons g (t.snoc h)
theorem pps_get {K : PySem.W.Frag} {H : Hp} : ∀ {vs : List V} {xs : List Q2} {i : Nat} {z : V}, Pps K H vs xs → vs[i]? = some z → ∃ x, xs[i]? = some x ∧ Pp K H z x
  | _, _, 0, _, .cons h _, e => ⟨_, rfl, Option.some.inj e ▸ h⟩
  | _, _, i + 1, z, .cons (vs := vs) (xs := xs) _ t, e => by
    have r := pps_get (vs := vs) (i := i) (z := z) t (by simpa using e)
    simpa using r
theorem sumP_take {xs : List Q2} {i : Nat} {x : Q2} (h : xs[i]? = some x) : sumP (xs.take (i + 1)) = addP (sumP (xs.take i)) x := by
  unfold sumP
  rw [List.take_add_one, h, List.foldl_append]
  rfl
theorem sumP_ok0 : Ok (201 * (0 + 1)) (sumP []) := ⟨by decide, by unfold Bd; decide +kernel, by unfold Bd; decide +kernel⟩
theorem sumP_low0 : Low (sumP []).1 (sumP []).2 := ⟨by decide, rfl⟩
def lowS : Q2 → Prop := fun x => Low x.1 x.2
def anyS : Q2 → Prop := fun _ => True
def sp_sum (K : PySem.W.Frag) (C : Q2 → Prop) : Sp := fun vs H Q _ => ∃ (l : Addr) (us : List V) (xs : List Q2), vs = [.ref l] ∧ SqL K H l us ∧ Pps K H us xs ∧ (∀ x ∈ xs, Ok 200 x) ∧ xs.length ≤ 30 ∧ (∀ x ∈ xs, C x) ∧
  ∀ H' r, Same H H' → Pp K H' r (sumP xs) → Ok 6300 (sumP xs) → Low (sumP xs).1 (sumP xs).2 → Q r H'
end DT
namespace DT
open PySem PySem.Spec PyProof.Rows L2
def datP (x : Q2) : PyData := .tuple [.int x.1, .int x.2]
theorem Pps.dp {K : PySem.W.Frag} {H : Hp} : ∀ {vs : List V} {xs : List Q2}, Pps K H vs xs → DpAll K H vs (xs.map datP)
  | _, _, .nil => .nil
  | _, _, .cons h t => .cons (Pr.dp h) t.dp
theorem lay_ps : ∀ xs : List Q2, PyData.canLayAll0 (xs.map datP) = true
  | [] => by simp [PyData.canLayAll0]
  | x :: xs => by
    rw [List.map_cons]
    simp only [PyData.canLayAll0, lay_ps xs, datP, PyData.canLay0, Bool.and_self]
theorem dep_ps : ∀ xs : List Q2, PyData.depthAll (xs.map datP) ≤ 1
  | [] => by simp [PyData.depthAll]
  | x :: xs => by
    have ih := dep_ps xs
    rw [List.map_cons]
    simp only [PyData.depthAll, datP, PyData.depth] at ih ⊢
    omega
theorem shp_ps (xs : List Q2) : SeqAt.shaped (.list (xs.map datP)) = true := by
  have h1 := lay_ps xs
  have h2 := dep_ps xs
  unfold SeqAt.shaped
  rw [Bool.and_eq_true]
  refine ⟨by simp only [PyData.canLay0, h1], decide_eq_true ?_⟩
  simp only [PyData.depth]
  omega
theorem eqv_ps : ∀ xs : List Q2, PyData.eqvAll (xs.map datP) (xs.map datP) = true
  | [] => by simp [PyData.eqvAll]
  | x :: xs => by
    rw [List.map_cons]
    simp only [PyData.eqvAll, eqv_ps xs, Bool.and_true]
    exact eqv_pr x.1 x.2
theorem eqv_psL (xs : List Q2) : PyData.eqv (.list (xs.map datP)) (.list (xs.map datP)) = true := by
  simp only [PyData.eqv, eqv_ps xs]
end DT
namespace DT
open PySem PySem.Spec PyProof.Rows L2
/-- a store to a list leaves pairs that stand elsewhere -/
theorem Pp.off {K : PySem.W.Frag} {H H' : Hp} {v : V} {x : Q2} {D : Addr} {us : List V} (h : Pp K H v x) (e : ∀ b o, H b = some o → b ≠ D → H' b = some o) (hD : H D = some (.lst us)) : Pp K H' v x := by
  obtain ⟨p, rfl, q⟩ := h
  refine ⟨p, rfl, ?_⟩
  rcases q with q | q
  · rcases q with q | ⟨o, q⟩
    · exact .inl (.inl (e _ _ q (fun z => by rw [z, hD] at q; cases q)))
    · exact .inl (.inr ⟨o, e _ _ q (fun z => by rw [z, hD] at q; cases q)⟩)
  · exact .inr q
theorem Pps.off {K : PySem.W.Frag} {H H' : Hp} {D : Addr} {ws : List V} : ∀ {vs : List V} {xs : List Q2}, Pps K H vs xs → (∀ b o, H b = some o → b ≠ D → H' b = some o) → H D = some (.lst ws) → Pps K H' vs xs
  | _, _, .nil, _, _ => .nil
  | _, _, .cons h t, e, hD => .cons (h.off e hD) (t.off e hD)
end DT

namespace DT
open PySem PySem.Spec PyProof.Rows L2
/-- xs[i] of a list, 0 ≤ i, for xs[i] += e -/
theorem get_list {X : Cx} : PGet X (fun x y H Q => ∃ (p : Addr) (xs : List V) (i : Nat) (v : V), x = .ref p ∧ y = .int (i : Int) ∧ SqL X.K H p xs ∧ xs[i]? = some v ∧ Q v H) := by
  intro pins s σ H o i ov iv Q I ro ri h
  obtain ⟨p, xs, k, v, rfl, rfl, hq, hx, q⟩ := h
  cases ro
  obtain ⟨t, rfl⟩ := ri
  obtain ⟨its, r, pl, hz⟩ := I.list hq
  obtain ⟨w, ew, rw'⟩ := r.get hx
  have hk : k < xs.length := (List.getElem?_eq_some_iff.1 hx).1
  have hn := line63
  exact wpAny_getItem_list pl.isList (by omega) (by omega) (by simpa using ew) ⟨v, H, I, rw', q⟩
/-! ### lists of pairs, tracked -/
def LP (K : PySem.W.Frag) (H : Hp) (p : Addr) (xs : List Q2) : Prop := ∃ us, H p = some (.lst us) ∧ Pps K H us xs
theorem LP.same {K : PySem.W.Frag} {H H' : Hp} {p : Addr} {xs : List Q2} (h : LP K H p xs) (e : Same H H') : LP K H' p xs := by
  obtain ⟨us, h1, h2⟩ := h
  exact ⟨us, e _ _ h1, h2.same e⟩
/-- every pair in lowest terms and below 2 ^ n -/
def AllOk (n : Nat) (xs : List Q2) : Prop := ∀ x ∈ xs, Ok n x ∧ Low x.1 x.2
theorem AllOk.mono {n m : Nat} {xs : List Q2} (h : AllOk n xs) (e : n ≤ m) : AllOk m xs := fun x hx => ⟨(h x hx).1.mono e, (h x hx).2⟩
theorem AllOk.nil {n : Nat} : AllOk n [] := fun _ h => nomatch h
theorem AllOk.snoc {n : Nat} {xs : List Q2} {x : Q2} (h : AllOk n xs) (o : Ok n x) (l : Low x.1 x.2) : AllOk n (xs ++ [x]) := fun y hy => by
  rcases List.mem_append.1 hy with z | z
  · exact h y z
  · rw [List.mem_singleton.1 z]
    exact ⟨o, l⟩
/-- a list that grows by one pair, the pair's tuple anywhere -/
theorem pps_grow {K : PySem.W.Frag} {H : Hp} {D : Addr} {us : List V} {v : V} {xs : List Q2} {x : Q2} (hD : H D = some (.lst us)) (h : Pps K H us xs) (k : Pp K H v x) : Pps K (upd H D (.lst (us ++ [v]))) (us ++ [v]) (xs ++ [x]) := by
  have sd : ∀ b o, H b = some o → b ≠ D → upd H D (.lst (us ++ [v])) b = some o := fun b o e n => by
    rw [upd_ne n]
    exact e
  exact (h.off sd hD).snoc (k.off sd hD)
theorem pps_at {K : PySem.W.Frag} {H : Hp} {us : List V} {xs : List Q2} (h : Pps K H us xs) {i : Nat} {x : Q2} (e : xs[i]? = some x) : ∃ v, us[i]? = some v ∧ Pp K H v x := by
  have hi : i < us.length := by
    rw [h.len]
    exact (List.getElem?_eq_some_iff.1 e).1
  obtain ⟨y, ey, py⟩ := pps_get h (List.getElem?_eq_getElem hi)
  rw [e] at ey
  cases ey
  exact ⟨_, List.getElem?_eq_getElem hi, py⟩
/-- == of two lists of pairs -/
theorem eqv_iff : ∀ (xs ys : List Q2), PyData.eqvAll (xs.map datP) (ys.map datP) = decide (xs = ys)
  | [], [] => by simp [PyData.eqvAll]
  | [], y :: ys => by simp [PyData.eqvAll]
  | x :: xs, [] => by simp [PyData.eqvAll]
  | x :: xs, y :: ys => by
    rw [List.map_cons, List.map_cons]
    simp only [PyData.eqvAll, eqv_iff xs ys]
    obtain ⟨a, b⟩ := x
    obtain ⟨c, d⟩ := y
    simp only [datP, PyData.eqv, PyData.eqvAll, Bool.and_true]
    by_cases h1 : a = c <;> by_cases h2 : b = d <;> by_cases h3 : xs = ys <;> simp [h1, h2, h3]
/-- a list of ints -/
theorem sq_ints {K : PySem.W.Frag} {H : Hp} {p : Addr} {rs : List Int} (h : H p = some (.lst (rs.map V.int))) : SqL K H p (rs.map V.int) := SqL.of h
theorem cut_map (rs : List Int) (lo hi : Option Int) : cutV (rs.map V.int) lo hi = ((rs.drop (HT.sIx rs.length 0 lo)).take (HT.sIx rs.length rs.length hi - HT.sIx rs.length 0 lo)).map V.int := by
  unfold cutV
  rw [List.length_map, ← List.map_drop, ← List.map_take]
theorem cut_to (rs : List Int) (n : Nat) (h : n ≤ rs.length) : cutV (rs.map V.int) none (some (n : Int)) = (rs.take n).map V.int := by
  rw [cut_map, HT.sIx_none, HT.sIx_nat, List.drop_zero, Nat.sub_zero, Nat.min_eq_left h]
theorem cut_from (rs : List Int) (n : Nat) (h : n ≤ rs.length) : cutV (rs.map V.int) (some (n : Int)) none = (rs.drop n).map V.int := by
  rw [cut_map, HT.sIx_none, HT.sIx_nat, Nat.min_eq_left h]
  rw [List.take_of_length_le (by rw [List.length_drop]; omega)]
end DT
namespace DT
open PySem PySem.Spec PyProof.Rows L2
/-- a store to the list at D leaves the lists of pairs at other places -/
theorem LP.off {K : PySem.W.Frag} {H : Hp} {D p : Addr} {us vs : List V} {xs : List Q2} (h : LP K H p xs) (hD : H D = some (.lst us)) (n : p ≠ D) : LP K (upd H D (.lst vs)) p xs := by
  obtain ⟨ws, e, k⟩ := h
  refine ⟨ws, by rw [upd_ne n]; exact e, k.off (D := D) (fun b o eb nb => by rw [upd_ne nb]; exact eb) hD⟩
theorem LP.ne {K : PySem.W.Frag} {H H' : Hp} {p q : Addr} {xs : List Q2} (h : LP K H p xs) (n : H q = none) : p ≠ q := by
  obtain ⟨us, e, _⟩ := h
  exact ne_of_none e n
theorem LP.sq {K : PySem.W.Frag} {H : Hp} {p : Addr} {xs : List Q2} (h : LP K H p xs) : ∃ us, SqL K H p us ∧ us.length = xs.length ∧ Pps K H us xs := by
  obtain ⟨us, e, k⟩ := h
  exact ⟨us, SqL.of e, k.len, k⟩
theorem LP.dp {K : PySem.W.Frag} {H : Hp} {p : Addr} {xs : List Q2} (h : LP K H p xs) : Dp K H (.ref p) (.list (xs.map datP)) := by
  obtain ⟨us, e, k⟩ := h
  exact .lst (SqL.of e) k.dp
def dat2 (xs ys : List Q2) : PyData := .list [.list (xs.map datP), .list (ys.map datP)]
theorem shp_2 (xs ys : List Q2) : SeqAt.shaped (dat2 xs ys) = true := by
  have h1 := lay_ps xs
  have h2 := dep_ps xs
  have h3 := lay_ps ys
  have h4 := dep_ps ys
  unfold SeqAt.shaped dat2
  rw [Bool.and_eq_true]
  refine ⟨by simp only [PyData.canLay0, PyData.canLayAll0, h1, h3, Bool.and_self], decide_eq_true ?_⟩
  simp only [PyData.depth, PyData.depthAll]
  omega
theorem eqv_2 (xs ys : List Q2) : PyData.eqv (dat2 xs ys) (dat2 xs ys) = true := by
  unfold dat2
  simp only [PyData.eqv, PyData.eqvAll, eqv_ps, Bool.and_self]
end DT

namespace DT
open PySem PySem.Spec PyProof.Rows L2
theorem take_map {rs : List Int} {i : Nat} {r : Int} (h : rs[i]? = some r) (f : Int → Int) : ((rs.take i).map f).map V.int ++ [V.int (f r)] = ((rs.take (i + 1)).map f).map V.int := by
  rw [List.take_add_one, h]
  simp only [List.map_append, Option.toList_some, List.map_cons, List.map_nil]
theorem int_at {rs : List Int} {i : Nat} {x : V} (h : (rs.map V.int)[i]? = some x) : ∃ r, rs[i]? = some r ∧ x = .int r := by
  rw [List.getElem?_map] at h
  cases e : rs[i]? with
  | none => rw [e] at h; cases h
  | some r => rw [e] at h; exact ⟨r, rfl, (Option.some.inj h).symm⟩
/-! ### the first of the greatest -/
def lessP (x y : Q2) : Bool := decide (x.1 * y.2 < y.1 * x.2)
def itemP (xs : List Q2) (i : Nat) : Q2 := xs.getD i (0, 1)
def firstF (xs : List Q2) : Nat → Nat
  | 0 => 0
  | i + 1 => if lessP (itemP xs (firstF xs i)) (itemP xs i) = true then i else firstF xs i
def firstM (xs : List Q2) : Nat := firstF xs xs.length
theorem firstF_lt (xs : List Q2) : ∀ i, firstF xs i < max 1 i
  | 0 => by show 0 < max 1 0; omega
  | i + 1 => by
    have ih := firstF_lt xs i
    unfold firstF
    split <;> omega
theorem firstM_lt {xs : List Q2} (h : 0 < xs.length) : firstM xs < xs.length := by
  have := firstF_lt xs xs.length
  unfold firstM
  omega
theorem item_some {xs : List Q2} {i : Nat} (h : i < xs.length) : xs[i]? = some (itemP xs i) := by
  unfold itemP
  rw [List.getElem?_eq_getElem h]
  simp [List.getD, List.getElem?_eq_getElem h]
theorem item_ok {xs : List Q2} {n i : Nat} (h : AllOk n xs) (hi : i < xs.length) : Ok n (itemP xs i) ∧ Low (itemP xs i).1 (itemP xs i).2 := by
  refine h _ ?_
  exact List.mem_of_getElem? (item_some hi)
def sp_first (K : PySem.W.Frag) : Sp := fun vs H Q _ => ∃ (p : Addr) (xs : List Q2), vs = [.ref p] ∧ LP K H p xs ∧ 0 < xs.length ∧ xs.length ≤ 1000 ∧ AllOk 4000 xs ∧ Q (.int (firstM xs : Int)) H
/-- two lists, item by item -/
def sp_raised (K : PySem.W.Frag) : Sp := fun vs H Q _ => ∃ (p q : Addr) (xs ys : List Q2), vs = [.ref p, .ref q] ∧ LP K H p xs ∧ LP K H q ys ∧ xs.length = ys.length ∧ xs.length ≤ 1000 ∧ AllOk 3800 xs ∧ AllOk 3800 ys ∧
  ∀ H' r, Same H H' → H r = none → LP K H' r (List.zipWith addP xs ys) → Q (.ref r) H'
theorem zip_at {xs ys : List Q2} {i : Nat} {x y : Q2} (hx : xs[i]? = some x) (hy : ys[i]? = some y) : (List.zipWith addP xs ys).take (i + 1) = (List.zipWith addP xs ys).take i ++ [addP x y] := by
  rw [List.take_add_one]
  have : (List.zipWith addP xs ys)[i]? = some (addP x y) := by
    rw [List.getElem?_zipWith, hx, hy]
  rw [this]
  rfl
/-- the weights and the shares of the law -/
def sharesOf (ws : List Int) : List Q2 := ws.map fun w => lowP w ws.sum
def WsOk (n : Nat) (ws : List Int) : Prop := ws.length = n ∧ (∀ w ∈ ws, 0 ≤ w ∧ w < 1000005) ∧ 0 < ws.sum ∧ ws.sum ≤ 1000005 * n
theorem shares_ok {n : Nat} {ws : List Int} (h : WsOk n ws) (hn : n ≤ 24) : AllOk 26 (sharesOf ws) := by
  intro x hx
  obtain ⟨w, hw, rfl⟩ := List.mem_map.1 hx
  obtain ⟨h1, h2, h3, h4⟩ := h
  have hb := h2 w hw
  exact ⟨lowP_ok h3 (Bd.of (m := 30000000) (by omega) (by omega) (by decide)) (Bd.of (m := 30000000) (by omega) (by omega) (by decide)), lowP_low h3⟩
theorem shares_len (ws : List Int) : (sharesOf ws).length = ws.length := by
  unfold sharesOf
  rw [List.length_map]
theorem sum_bound {ws : List Int} : (∀ w ∈ ws, 0 ≤ w ∧ w < 1000005) → 0 ≤ ws.sum ∧ ws.sum ≤ 1000005 * ws.length := by
  induction ws with
  | nil => intro _; exact ⟨Int.le_refl _, Int.le_refl _⟩
  | cons w ws ih =>
    intro h
    have h1 := h w List.mem_cons_self
    have h2 := ih fun v hv => h v (List.mem_cons_of_mem _ hv)
    rw [List.sum_cons, List.length_cons]
    omega
end DT

namespace DT
open PySem PySem.Spec PyProof.Rows L2 TL
/-! ### the text of a number -/
abbrev numT (n : Int) : Str := Str.ofString (toString n)
theorem tl_pos (n : Nat) : tl (numT (n : Int)) = numL n := tl_num n
theorem tl_neg (m : Nat) : tl (numT (-((m + 1 : Nat) : Int))) = 45 :: numL (m + 1) := by
  rw [show numT (-((m + 1 : Nat) : Int)) = Str.ofString ("-" ++ toString (((m + 1 : Nat)) : Int)) from rfl, tl_ofString, String.toList_append, List.map_append]
  rw [← tl_num (m + 1), tl_ofString]
  rfl
theorem numT_neg {n : Int} (h : n < 0) : (("-" : Str) ++ numT (-n)) = numT n := by
  obtain ⟨m, rfl⟩ : ∃ m : Nat, n = -((m + 1 : Nat) : Int) := ⟨(-n).toNat - 1, by omega⟩
  apply ext_tl
  rw [tl_append, tl_neg, Int.neg_neg, tl_pos]
  rfl
theorem tl_numT (n : Int) : tl (numT n) = (if n < 0 then [45] else []) ++ numL n.natAbs := by
  by_cases h : n < 0
  · obtain ⟨m, rfl⟩ : ∃ m : Nat, n = -((m + 1 : Nat) : Int) := ⟨(-n).toNat - 1, by omega⟩
    rw [tl_neg, if_pos h]
    rw [show (-((m + 1 : Nat) : Int)).natAbs = m + 1 by omega]
    rfl
  · obtain ⟨m, rfl⟩ : ∃ m : Nat, n = (m : Int) := ⟨n.toNat, by omega⟩
    rw [tl_pos, if_neg h]
    rfl
theorem numT_len {n : Int} {k : Nat} (hk : 0 < k) (h : n.natAbs < 10 ^ k) : (numT n).length ≤ k + 1 := by
  rw [len_tl, tl_numT, List.length_append]
  have := numL_len hk h
  split <;> simp only [List.length_cons, List.length_nil] <;> omega
theorem numL_head {n : Nat} (h : 0 < n) : (numL n).head? ≠ some 48 := by
  induction n using Nat.strongRecOn with
  | _ n ih =>
    by_cases h10 : n < 10
    · rw [numL_lt h10]
      intro e
      have e1 : 48 + n = 48 := Option.some.inj e
      omega
    · rw [numL_step (by omega), List.head?_append]
      have i := ih (n / 10) (by omega) (by omega)
      cases e : (numL (n / 10)).head? with
      | none =>
        rw [List.head?_eq_none_iff] at e
        exact absurd e (numL_ne _)
      | some c =>
        rw [e] at i
        exact i
theorem numL_zero : numL 0 = [48] := numL_lt (by decide)
theorem numL_is0 {n : Nat} (h : numL n = [48]) : n = 0 := by
  rw [← numL_zero] at h
  exact numL_inj h
/-! ### is_number -/
def figs : List Nat := [48, 49, 50, 51, 52, 53, 54, 55, 56, 57]
def isNumB (l : List Nat) : Bool := if l = [] ∨ 400 < l.length then false else if l.head? = some 48 then decide (l = [48]) else l.all fun c => decide (c ∈ figs)
theorem mem_figs {c : Nat} : c ∈ figs ↔ 48 ≤ c ∧ c ≤ 57 := by
  unfold figs
  simp only [List.mem_cons, List.not_mem_nil, or_false]
  omega
theorem isNum_numL {n : Nat} (h : (numL n).length ≤ 400) : isNumB (numL n) = true := by
  unfold isNumB
  rw [if_neg (by rintro (e | e); exact numL_ne n e; omega)]
  by_cases h0 : n = 0
  · subst h0
    rw [numL_zero]
    rfl
  · rw [if_neg (numL_head (by omega)), List.all_eq_true]
    intro c hc
    exact decide_eq_true (mem_figs.2 (numL_digits n c hc))
theorem tl_fig : tl ("0123456789" : Str) = figs := by
  show tl (Str.ofString "0123456789") = figs
  rw [tl_ofString]
  rfl
/-! ### reading -/
theorem tl_rp (x : Str) : tl (Txt.removeprefix x ("-" : Str)) = (match tl x with | 45 :: r => r | l => l) := by
  have e1 : tl ("-" : Str) = [45] := by
    show tl (Str.ofString "-") = _
    rw [tl_ofString]
    rfl
  have e2 : ("-" : Str).length = 1 := by rw [len_tl, e1]; rfl
  have e3 : ("-" : Str).cps = #[45] := by
    apply Array.toList_inj.1
    exact e1
  rw [PySem.StrLaws.removeprefix_eq]
  unfold Builtin.Str.subAt
  rw [e2, e3]
  obtain ⟨a⟩ := x
  obtain ⟨l⟩ := a
  show tl (if _ then _ else _) = (match l with | 45 :: r => r | l => l)
  cases l with
  | nil => rfl
  | cons c r =>
    by_cases h : c = 45
    · subst h
      rw [if_pos (by simp [Str.length])]
      show ((45 :: r).drop 1).take ((45 :: r).length - 1) = r
      simp
    · rw [if_neg (by simp [Str.length, h])]
      show c :: r = _
      split
      · rename_i e
        cases e
        exact absurd rfl h
      · rfl
theorem slash_tl : tl ("/" : Str) = [47] := by
  show tl (Str.ofString "/") = _
  rw [tl_ofString]
  rfl
theorem slash_len : (("/" : Str).length == 0) = false := by
  rw [len_tl, slash_tl]
  rfl
theorem numT_free (n : Int) : 47 ∉ tl (numT n) := by
  rw [tl_numT]
  intro h
  rcases List.mem_append.1 h with h | h
  · split at h
    · rw [List.mem_singleton] at h; omega
    · cases h
  · exact numL_free (by omega) h
theorem part_app (a b : Int) : Txt.partition (numT a ++ ("/" : Str) ++ numT b) ("/" : Str) = (numT a, ("/" : Str), numT b) := partition_app slash_tl (numT_free a)
theorem rp_num (n : Int) : tl (Txt.removeprefix (numT n) ("-" : Str)) = numL n.natAbs := by
  rw [tl_rp, tl_numT]
  by_cases h : n < 0
  · rw [if_pos h]
    rfl
  · rw [if_neg h, List.nil_append]
    split
    · rename_i r e
      have : 45 ∈ numL n.natAbs := by rw [e]; exact List.mem_cons_self
      exact absurd this (numL_free (by omega))
    · rfl
theorem int_numT {n : Int} (h : (numL n.natAbs).length ≤ 4000) : PySem.intText? (numT n) = some n := by
  by_cases hn : n < 0
  · obtain ⟨m, rfl⟩ : ∃ m : Nat, n = -((m + 1 : Nat) : Int) := ⟨(-n).toNat - 1, by omega⟩
    rw [show (-((m + 1 : Nat) : Int)).natAbs = m + 1 by omega] at h
    have e := intText_neg (x := numT (-((m + 1 : Nat) : Int))) (tl_neg m) (numL_digits _) (numL_ne _) (by rw [len_tl, tl_neg, List.length_cons]; omega)
    rw [numL_val] at e
    exact e
  · obtain ⟨m, rfl⟩ : ∃ m : Nat, n = (m : Int) := ⟨n.toNat, by omega⟩
    exact int_num (Nat.le_trans h (by decide))
end DT

namespace DT
open PySem PySem.Spec PyProof.Rows L2 TL
/-- what the written part says of an own error class without an __init__ of its own -/
structure ExcT (K : PySem.W.Frag) (mg : Str → Option Value) (x : Str) (C : Addr) : Prop where
  g : mg x = some (.ref C)
  xx : PySem.W.excIn K C [.type "ValueError", .type "Exception", .type "BaseException", .type "object"] "ValueError.__new__" = true
  k : PySem.W.keepIn K (.ref C) = true
  b : PySem.W.subIn K (.ref C) (.type "BaseException") = some true
  t : PySem.W.typeIn K (.ref C) = some (.type "type")
/-- isinstance(e, c), the class of the caught error told where it is asked -/
theorem call_isX {X : Cx} {a D : Addr} {oe : Obj} {cls : Value} {d : Option Addr} {pn : List (Addr × Obj)} (C : ExcC X.K D) (hz : Zc cls d oe) (hf : ∃ vs, oe.data = .fields vs) :
    CallR (X.suite a ((a, oe) :: pn)) (.builtin "isinstance") (fun xs H Q => cls = .ref D ∧ d = none ∧ rIsE X.K D a xs H Q) := by
  intro pins s σ H xs us Q I r h
  obtain ⟨rfl, rfl, h⟩ := h
  exact call_isE C hz hf pins s σ H xs us Q I r h
theorem op_mul_str {X : Cx} : OpR X (binaryOp .Mult) (fun x y H Q => ∃ (z : Str) (n : Int), x = .str z ∧ y = .int n ∧ MulOk z n ∧ Q (.str (Txt.mul z n)) H) := by
  intro pins s σ H x y v u Q I rx ry h
  obtain ⟨z, n, rfl, rfl, hz, q⟩ := h
  obtain ⟨t, rfl⟩ := rx
  obtain ⟨t', rfl⟩ := ry
  exact SB.mul hz fun t' k => ⟨.str _, H, I.tok _, ⟨_, rfl⟩, q⟩
theorem rep_size (a : Array Nat) : ∀ (k : Nat) (b : Array Nat), ((List.replicate k a).foldl (· ++ ·) b).size = b.size + k * a.size
  | 0, b => by simp
  | k + 1, b => by
    rw [List.replicate_succ, List.foldl_cons, rep_size a k, Array.size_append, Nat.succ_mul]
    omega
theorem mul_len (z : Str) (n : Int) : (Txt.mul z n).length ≤ n.toNat * z.length + z.length := by
  unfold Txt.mul
  split
  · exact Nat.zero_le _
  · split
    · omega
    · show ((List.replicate n.toNat z.cps).foldl (· ++ ·) #[]).size ≤ _
      rw [rep_size]
      show 0 + n.toNat * z.length ≤ _
      omega
theorem app_len (x y : Str) : (x ++ y).length = x.length + y.length := by
  rw [len_tl, tl_append, List.length_append, ← len_tl, ← len_tl]
end DT
namespace DT
open PySem PySem.Spec PyProof.Rows L2 TL
theorem line5' {n : Nat} (h : n ≤ 100000) : n ≤ sizeLine := Nat.le_trans h (by decide)
theorem log_small {n : Nat} (h : n < 1000) : n.log2 < 1920 := by
  by_cases h0 : n = 0
  · rw [h0]
    decide
  · exact (Nat.log2_lt h0).2 (Nat.lt_of_lt_of_le h (by decide +kernel))
theorem sign_fig : tl ("0123456789" : Str) = figs := tl_fig
theorem tl0 : tl ("0" : Str) = [48] := by
  show tl (Str.ofString "0") = _
  rw [tl_ofString]
  rfl
theorem tl45 : tl ("-" : Str) = [45] := by
  show tl (Str.ofString "-") = _
  rw [tl_ofString]
  rfl
end DT

namespace DT
/-! ### what a pair is worth -/
def val (x : Q2) : Rat := (x.1 : Rat) / (x.2 : Rat)
theorem r_ne {a : Int} (h : 0 < a) : (a : Rat) ≠ 0 := fun e => by
  have := Rat.intCast_eq_zero_iff.1 e
  omega
theorem r_pos {a : Int} (h : 0 < a) : (0 : Rat) < (a : Rat) := Rat.intCast_pos.2 h
theorem val_eq {x y : Q2} (hx : 0 < x.2) (hy : 0 < y.2) (h : x.1 * y.2 = y.1 * x.2) : val x = val y := by
  unfold val
  have h1 := r_ne hx
  have h2 := r_ne hy
  have h3 : (x.1 : Rat) * (y.2 : Rat) = (y.1 : Rat) * (x.2 : Rat) := by rw [← Rat.intCast_mul, ← Rat.intCast_mul, h]
  grind
theorem val_low {t b : Int} (h : 0 < b) : val (lowP t b) = (t : Rat) / (b : Rat) := by
  have := val_eq (x := lowP t b) (y := (t, b)) (lowP_low h).pos h (by show t / gc t b * b = t * (b / gc t b); rw [low_cross t b, Int.mul_comm])
  exact this
theorem val_add {x y : Q2} (hx : 0 < x.2) (hy : 0 < y.2) : val (addP x y) = val x + val y := by
  unfold addP
  rw [val_low (Int.mul_pos hx hy)]
  unfold val
  have h1 := r_ne hx
  have h2 := r_ne hy
  rw [Rat.intCast_add, Rat.intCast_mul, Rat.intCast_mul, Rat.intCast_mul]
  grind
theorem val_sub {x y : Q2} (hx : 0 < x.2) (hy : 0 < y.2) : val (subP x y) = val x - val y := by
  unfold subP
  rw [val_low (Int.mul_pos hx hy)]
  unfold val
  have h1 := r_ne hx
  have h2 := r_ne hy
  rw [Rat.intCast_sub, Rat.intCast_mul, Rat.intCast_mul, Rat.intCast_mul]
  grind
theorem val_mul {x y : Q2} (hx : 0 < x.2) (hy : 0 < y.2) : val (mulP x y) = val x * val y := by
  unfold mulP
  rw [val_low (Int.mul_pos hx hy)]
  unfold val
  have h1 := r_ne hx
  have h2 := r_ne hy
  rw [Rat.intCast_mul, Rat.intCast_mul]
  grind
theorem val_lt {x y : Q2} (hx : 0 < x.2) (hy : 0 < y.2) : x.1 * y.2 < y.1 * x.2 ↔ val x < val y := by
  unfold val
  rw [Rat.div_lt_iff (r_pos hx), ← Rat.intCast_lt_intCast, Rat.intCast_mul, Rat.intCast_mul]
  have h2 := r_ne hy
  have hp := r_pos hy
  have e : (y.1 : Rat) / (y.2 : Rat) * (x.2 : Rat) = ((y.1 : Rat) * (x.2 : Rat)) / (y.2 : Rat) := by grind
  rw [e, Rat.lt_div_iff hp]
theorem lessP_iff {x y : Q2} (hx : 0 < x.2) (hy : 0 < y.2) : lessP x y = true ↔ val x < val y := by
  unfold lessP
  rw [decide_eq_true_iff]
  exact val_lt hx hy
theorem val_inj {x y : Q2} (hx : Low x.1 x.2) (hy : Low y.1 y.2) (h : val x = val y) : x = y := by
  have h1 := r_ne hx.pos
  have h2 := r_ne hy.pos
  have h3 : (x.1 : Rat) * (y.2 : Rat) = (y.1 : Rat) * (x.2 : Rat) := by
    unfold val at h
    grind
  rw [← Rat.intCast_mul, ← Rat.intCast_mul, Rat.intCast_inj] at h3
  obtain ⟨e1, e2⟩ := low_uniq hx hy h3
  exact Prod.ext e1 e2
def rsum (l : List Rat) : Rat := l.foldr (· + ·) 0
theorem rsum_cons (a : Rat) (l : List Rat) : rsum (a :: l) = a + rsum l := rfl
theorem rsum_nil : rsum [] = 0 := rfl
theorem rsum_app (l m : List Rat) : rsum (l ++ m) = rsum l + rsum m := by
  induction l with
  | nil => rw [List.nil_append, rsum_nil]; grind
  | cons a l ih => rw [List.cons_append, rsum_cons, rsum_cons, ih]; grind
def worth (xs : List Q2) : Rat := rsum (xs.map val)
theorem worth_cons (x : Q2) (xs : List Q2) : worth (x :: xs) = val x + worth xs := rfl
theorem worth_app (xs ys : List Q2) : worth (xs ++ ys) = worth xs + worth ys := by
  unfold worth
  rw [List.map_append, rsum_app]
/-- all bottoms above nought -/
def AllPos (xs : List Q2) : Prop := ∀ x ∈ xs, 0 < x.2
theorem AllOk.pos {n : Nat} {xs : List Q2} (h : AllOk n xs) : AllPos xs := fun x hx => (h x hx).1.pos
theorem fold_worth : ∀ (xs : List Q2) (x : Q2), 0 < x.2 → AllPos xs → val (xs.foldl addP x) = val x + worth xs ∧ 0 < (xs.foldl addP x).2
  | [], x, hx, _ => ⟨by show val x = val x + 0; grind, hx⟩
  | y :: ys, x, hx, h => by
    have hy := h y List.mem_cons_self
    have hz : 0 < (addP x y).2 := (addP_low hx hy).pos
    obtain ⟨e, p⟩ := fold_worth ys (addP x y) hz fun z hz => h z (List.mem_cons_of_mem _ hz)
    refine ⟨?_, p⟩
    rw [List.foldl_cons, e, val_add hx hy, worth_cons]
    grind
theorem sumP_worth {xs : List Q2} (h : AllPos xs) : val (sumP xs) = worth xs := by
  have := (fold_worth xs (0, 1) (by decide) h).1
  have z : val (0, 1) = 0 := by
    unfold val
    show ((0 : Int) : Rat) / ((1 : Int) : Rat) = 0
    rw [Rat.intCast_zero, Rat.intCast_one]
    grind
  unfold sumP
  rw [this, z]
  grind
theorem worth_zip : ∀ (xs ys : List Q2), xs.length = ys.length → AllPos xs → AllPos ys → worth (List.zipWith addP xs ys) = worth xs + worth ys
  | [], [], _, _, _ => by show (0 : Rat) = 0 + 0; grind
  | x :: xs, y :: ys, h, hx, hy => by
    rw [List.zipWith_cons_cons, worth_cons, worth_cons, worth_cons, val_add (hx x List.mem_cons_self) (hy y List.mem_cons_self),
      worth_zip xs ys (by simpa using h) (fun z hz => hx z (List.mem_cons_of_mem _ hz)) fun z hz => hy z (List.mem_cons_of_mem _ hz)]
    grind
theorem worth_set : ∀ {xs : List Q2} {i : Nat} {x y : Q2}, xs[i]? = some x → worth (xs.set i y) = worth xs - val x + val y
  | [], i, x, y, h => by simp at h
  | a :: xs, 0, x, y, h => by
    have e : a = x := Option.some.inj h
    subst e
    show val y + worth xs = val a + worth xs - val a + val y
    grind
  | a :: xs, i + 1, x, y, h => by
    have ih := worth_set (xs := xs) (i := i) (x := x) (y := y) (by simpa using h)
    show val a + worth (xs.set i y) = val a + worth xs - val x + val y
    rw [ih]
    grind
theorem worth_shares {n : Nat} {ws : List Int} (h : WsOk n ws) : worth (sharesOf ws) = 1 := by
  obtain ⟨_, _, hs, _⟩ := h
  have key : ∀ (l : List Int) (S : Int), 0 < S → worth (l.map fun w => lowP w S) = (l.sum : Rat) / (S : Rat) := by
    intro l S hS
    have hn := r_ne hS
    induction l with
    | nil =>
      show (0 : Rat) = ((0 : Int) : Rat) / (S : Rat)
      rw [Rat.intCast_zero]
      grind
    | cons w l ih =>
      rw [List.map_cons, worth_cons, ih, val_low hS, List.sum_cons, Rat.intCast_add]
      grind
  unfold sharesOf
  rw [key ws ws.sum hs]
  have hn := r_ne hs
  grind
theorem val_one : val (1, 1) = 1 := by
  unfold val
  show ((1 : Int) : Rat) / ((1 : Int) : Rat) = 1
  rw [Rat.intCast_one]
  grind
theorem val_zero' : val (0, 1) = 0 := by
  unfold val
  show ((0 : Int) : Rat) / ((1 : Int) : Rat) = 0
  rw [Rat.intCast_zero, Rat.intCast_one]
  grind
/-! ### one hour -/
def hourM (xs ys : List Q2) : Nat × List Q2 :=
  let zs := List.zipWith addP xs ys
  (firstM zs, zs.set (firstM zs) (subP (itemP zs (firstM zs)) (1, 1)))
theorem zip_ok {n m : Nat} {xs ys : List Q2} (hx : AllOk n xs) (hy : AllOk m ys) : AllOk (n + m + 1) (List.zipWith addP xs ys) := by
  intro z hz
  obtain ⟨i, hi⟩ := List.mem_iff_getElem?.1 hz
  rw [List.getElem?_zipWith] at hi
  cases ex : xs[i]? with
  | none => rw [ex] at hi; simp at hi
  | some x =>
    cases ey : ys[i]? with
    | none => rw [ex, ey] at hi; simp at hi
    | some y =>
      rw [ex, ey] at hi
      have e1 : addP x y = z := Option.some.inj hi
      have o1 := hx x (List.mem_of_getElem? ex)
      have o2 := hy y (List.mem_of_getElem? ey)
      rw [← e1]
      exact ⟨addP_ok o1.1 o2.1, addP_low o1.1.pos o2.1.pos⟩
theorem ok11 : Ok 1 ((1, 1) : Q2) := ⟨by decide, by unfold Bd; decide, by unfold Bd; decide⟩
theorem sub_low {x y : Q2} (hx : 0 < x.2) (hy : 0 < y.2) : Low (subP x y).1 (subP x y).2 := low_div (Int.mul_pos hx hy)
theorem hour_ok {n m : Nat} {xs ys : List Q2} (hx : AllOk n xs) (hy : AllOk m ys) (hl : xs.length = ys.length) (h0 : 0 < xs.length) : AllOk (n + m + 3) (hourM xs ys).2 ∧ (hourM xs ys).2.length = xs.length ∧ (hourM xs ys).1 < xs.length := by
  have hz := zip_ok hx hy
  have lz : (List.zipWith addP xs ys).length = xs.length := by rw [List.length_zipWith]; omega
  have hf := firstM_lt (xs := List.zipWith addP xs ys) (by omega)
  have oi := item_ok hz hf
  refine ⟨fun z hz' => ?_, ?_, by show firstM (List.zipWith addP xs ys) < _; omega⟩
  · rcases List.mem_or_eq_of_mem_set hz' with h | h
    · exact ⟨(hz z h).1.mono (by omega), (hz z h).2⟩
    · rw [h]
      exact ⟨(subP_ok oi.1 ok11).mono (by omega), sub_low oi.1.pos ok11.pos⟩
  · show ((List.zipWith addP xs ys).set _ _).length = _
    rw [List.length_set, lz]
theorem hour_worth {n m : Nat} {xs ys : List Q2} (hx : AllOk n xs) (hy : AllOk m ys) (hl : xs.length = ys.length) (h0 : 0 < xs.length) : worth (hourM xs ys).2 = worth xs + worth ys - 1 := by
  have hz := zip_ok hx hy
  have lz : (List.zipWith addP xs ys).length = xs.length := by rw [List.length_zipWith]; omega
  have hf := firstM_lt (xs := List.zipWith addP xs ys) (by omega)
  have oi := item_ok hz hf
  show worth ((List.zipWith addP xs ys).set _ _) = _
  rw [worth_set (item_some hf), val_sub oi.1.pos ok11.pos, val_one, worth_zip xs ys hl hx.pos hy.pos]
  grind
/-- lags behind some hours: as many, small, in lowest terms, together nought -/
structure Lags (n N : Nat) (xs : List Q2) : Prop where
  len : xs.length = n
  ok : AllOk N xs
  zero : worth xs = 0
end DT
namespace DT
open PySem PySem.Spec PyProof.Rows L2
theorem Pps.set {K : PySem.W.Frag} {H : Hp} {v : V} {y : Q2} (h : Pp K H v y) : ∀ {us : List V} {xs : List Q2} (i : Nat), Pps K H us xs → Pps K H (us.set i v) (xs.set i y)
  | _, _, _, .nil => .nil
  | _, _, 0, .cons _ t => .cons h t
  | _, _, i + 1, .cons g t => .cons g (t.set h i)
theorem LP.put {K : PySem.W.Frag} {H : Hp} {p : Addr} {us : List V} {v : V} {xs : List Q2} {y : Q2} (e : H p = some (.lst us)) (k : Pps K H us xs) (h : Pp K H v y) (i : Nat) : LP K (upd H p (.lst (us.set i v))) p (xs.set i y) := by
  have sd : ∀ b o, H b = some o → b ≠ p → upd H p (.lst (us.set i v)) b = some o := fun b o eb n => by
    rw [upd_ne n]
    exact eb
  exact ⟨_, upd_same, Pps.set (h.off sd e) i (k.off sd e)⟩
def sp_hour (K : PySem.W.Frag) : Sp := fun vs H Q _ => ∃ (p q : Addr) (xs ys : List Q2) (N : Nat), vs = [.ref p, .ref q] ∧ LP K H p xs ∧ LP K H q ys ∧ xs.length = ys.length ∧ 0 < xs.length ∧ xs.length ≤ 1000 ∧ AllOk N xs ∧ AllOk 26 ys ∧ N ≤ 3700 ∧
  ∀ H' t r, Same H H' → H r = none → SqT K H' t [.int ((hourM xs ys).1 : Int), .ref r] → LP K H' r (hourM xs ys).2 → Q (.ref t) H'
theorem ix_nat {n : Nat} {j : Nat} (h : j < n) : ixN n (j : Int) = some j := by
  unfold ixN
  rw [if_pos (by omega), if_pos (by omega), Int.toNat_natCast]
end DT

namespace DT
open PySem PySem.Spec PyProof.Rows L2
/-- a method of the text -/
structure Dm (K : PySem.W.Frag) (C : Addr) (m qual : Str) (st : Stmt) (ps : List Str) where
  f : Addr
  fd : FuncData
  F : Fun K m qual st f fd
  b : Binds K fd ps []
  at_ : Meth K C m f
theorem fun_ofD {K : PySem.W.Frag} {x qual : Str} {st : Stmt} {f : Addr} {fd : FuncData} (F : FunD K x qual (defArgs st) (defBody st) (defScope st) [] [] f fd) : Fun K x qual st f fd := by
  obtain ⟨oc, od, dV, kV, doc, pm, an, cdv, ct, osl, rfl, lk, hcd, hD, _⟩ := F.ex
  rcases hD with ⟨_, rfl⟩ | ⟨e, _⟩
  · exact ⟨⟨oc, od, kV, doc, pm, an, cdv, ct, osl, rfl, lk, hcd⟩, F.kp⟩
  · exact absurd rfl e
/-- a call of a def that could raise, where it does not -/
theorem passF {P : Program} {w : World} {X : Cx} : Passes (L2.CX P w) X E0 := fun _ _ _ _ _ _ _ h => by
  obtain ⟨_, _, _, _, _, _, _, _, _, _, _, _, z⟩ := h
  exact z.elim
theorem excT_of {K : PySem.W.Frag} {mg : Str → Option Value} {x : Str} (g : mg x = some (.ref (He.ga K x))) (c : (He.Fa.exc x).ok K = true) : ExcT K mg x (He.ga K x) := by
  obtain ⟨a, b, c, d⟩ := He.exc_ok c
  exact ⟨g, a, b, c, d⟩
end DT

namespace DT
open PySem PySem.Spec PyProof.Rows L2
/-! ### data held against data -/
theorem sqL_ty {K : PySem.W.Frag} {H : Hp} {a : Addr} {xs : List V} (h : SqL K H a xs) : TyX K H (.ref a) (.type "list") := by
  rcases h with (h | ⟨o, h⟩) | ⟨o, its, n, h, c, _⟩
  · exact .base (.lst h)
  · exact .base (.frz h)
  · exact .kList h c
mutual
theorem dp_same {K : PySem.W.Frag} {H H' : Hp} (e : Same H H') : ∀ {v : V} {d : PyData}, Dp K H v d → Dp K H' v d
  | _, _, .non => .non
  | _, _, .bl b => .bl b
  | _, _, .int i => .int i
  | _, _, .str x => .str x
  | _, _, .lst h k => .lst (e.seq h) (dps_same e k)
  | _, _, .tup h k => .tup (same_seqT e h) (dps_same e k)
theorem dps_same {K : PySem.W.Frag} {H H' : Hp} (e : Same H H') : ∀ {vs : List V} {ds : List PyData}, DpAll K H vs ds → DpAll K H' vs ds
  | _, _, .nil => .nil
  | _, _, .cons h t => .cons (dp_same e h) (dps_same e t)
end
theorem dps_len {K : PySem.W.Frag} {H : Hp} : ∀ {vs : List V} {ds : List PyData}, DpAll K H vs ds → vs.length = ds.length
  | _, _, .nil => rfl
  | _, _, .cons _ t => by rw [List.length_cons, List.length_cons, dps_len t]
theorem dps_get {K : PySem.W.Frag} {H : Hp} : ∀ {vs : List V} {ds : List PyData}, DpAll K H vs ds → ∀ {i : Nat} {v : V}, vs[i]? = some v → ∃ d, ds[i]? = some d ∧ Dp K H v d
  | _, _, .nil, i, v, h => by cases h
  | _, _, .cons a t, 0, v, h => by cases h; exact ⟨_, rfl, a⟩
  | _, _, .cons a t, i + 1, v, h => dps_get t h
theorem dps_snoc {K : PySem.W.Frag} {H : Hp} : ∀ {vs : List V} {ds : List PyData} {v : V} {d : PyData}, DpAll K H vs ds → Dp K H v d → DpAll K H (vs ++ [v]) (ds ++ [d])
  | _, _, _, _, .nil, h => .cons h .nil
  | _, _, _, _, .cons a t, h => .cons a (dps_snoc t h)
/-- plain data, at most n deep -/
def Plain : Nat → PyData → Prop
  | _, .int _ => True
  | _, .str _ => True
  | _, .none => True
  | n + 1, .list ds => ds.length ≤ 900 ∧ ∀ d ∈ ds, Plain n d
  | n + 1, .tuple ds => ds.length ≤ 900 ∧ ∀ d ∈ ds, Plain n d
  | _, _ => False
def sp_alike (K : PySem.W.Frag) (n : Nat) : Sp := fun vs H Q _ => ∃ (v u : V) (d : PyData), vs = [v, u] ∧ Dp K H v d ∧ Dp K H u d ∧ Plain n d ∧ ∀ H', Same H H' → Q (.bl true) H'
theorem walk_zipT {K : PySem.W.Frag} {a b : Addr} {xs ys : List V} {n : Nat} (hn : n = min xs.length ys.length) : Walk (RZ.ItzT K a b) n (fun H => SqT K H a xs ∧ SqT K H b ys) (YPair (fun i => xs[i]?) (fun i => ys[i]?)) := by
  subst hn
  refine ⟨fun i _ hi k => ?_, fun _ k => ⟨xs, ys, k.1, k.2, by omega⟩, fun i H v H' _ k y => ?_⟩
  · exact ⟨xs, ys, _, _, k.1, k.2, List.getElem?_eq_getElem (by omega), List.getElem?_eq_getElem (by omega)⟩
  · obtain ⟨T, x, z, e1, e2, e3, e4, e5⟩ := y
    exact ⟨T, x, z, e1, e2, e3, e4 xs k.1, e5 ys k.2⟩
end DT

namespace DT
open PySem PySem.Spec PyProof.Rows L2
/-! ### lists of things told one by one -/
def Al {α : Type} (R : V → α → Prop) (us : List V) (xs : List α) : Prop := us.length = xs.length ∧ ∀ (i : Nat) (v : V) (x : α), us[i]? = some v → xs[i]? = some x → R v x
section
variable {α : Type} {R R' : V → α → Prop} {us vs : List V} {xs ys : List α}
theorem Al.nil : Al R [] [] := ⟨rfl, fun _ _ _ h => nomatch h⟩
theorem Al.imp (h : Al R us xs) (f : ∀ v x, v ∈ us → R v x → R' v x) : Al R' us xs := ⟨h.1, fun i v x e1 e2 => f v x (List.mem_of_getElem? e1) (h.2 i v x e1 e2)⟩
theorem Al.app (h : Al R us xs) (k : Al R vs ys) : Al R (us ++ vs) (xs ++ ys) := by
  refine ⟨by rw [List.length_append, List.length_append, h.1, k.1], fun i v x e1 e2 => ?_⟩
  by_cases hi : i < us.length
  · rw [List.getElem?_append_left hi] at e1
    rw [List.getElem?_append_left (by rw [← h.1]; exact hi)] at e2
    exact h.2 i v x e1 e2
  · rw [List.getElem?_append_right (by omega)] at e1
    rw [List.getElem?_append_right (by rw [← h.1]; omega), ← h.1] at e2
    exact k.2 _ v x e1 e2
theorem Al.one {v : V} {x : α} (h : R v x) : Al R [v] [x] := ⟨rfl, fun i u y e1 e2 => by
  cases i with
  | zero => cases e1; cases e2; exact h
  | succ i => cases e1⟩
theorem Al.snoc {v : V} {x : α} (h : Al R us xs) (k : R v x) : Al R (us ++ [v]) (xs ++ [x]) := h.app (.one k)
theorem Al.at {i : Nat} {x : α} (h : Al R us xs) (e : xs[i]? = some x) : ∃ v, us[i]? = some v ∧ R v x := by
  have hi : i < us.length := by rw [h.1]; exact (List.getElem?_eq_some_iff.1 e).1
  exact ⟨us[i], List.getElem?_eq_getElem hi, h.2 i _ x (List.getElem?_eq_getElem hi) e⟩
theorem Al.of {i : Nat} {v : V} (h : Al R us xs) (e : us[i]? = some v) : ∃ x, xs[i]? = some x ∧ R v x := by
  have hi : i < xs.length := by rw [← h.1]; exact (List.getElem?_eq_some_iff.1 e).1
  exact ⟨xs[i], List.getElem?_eq_getElem hi, h.2 i v _ e (List.getElem?_eq_getElem hi)⟩
end
end DT

namespace DT
open PySem PySem.Spec PyProof.Rows L2
/-! ### rows of parts -/
def RowV (K : PySem.W.Frag) (H : Hp) (v : V) (r : List Q2) : Prop := ∃ q, v = .ref q ∧ LP K H q r
def LR (K : PySem.W.Frag) (H : Hp) (p : Addr) (rss : List (List Q2)) : Prop := ∃ us, H p = some (.lst us) ∧ Al (RowV K H) us rss
theorem RowV.same {K : PySem.W.Frag} {H H' : Hp} {v : V} {r : List Q2} (e : Same H H') (h : RowV K H v r) : RowV K H' v r := by
  obtain ⟨q, rfl, h⟩ := h
  exact ⟨q, rfl, h.same e⟩
theorem LR.same {K : PySem.W.Frag} {H H' : Hp} {p : Addr} {rss : List (List Q2)} (h : LR K H p rss) (e : Same H H') : LR K H' p rss := by
  obtain ⟨us, h1, h2⟩ := h
  exact ⟨us, e _ _ h1, h2.imp fun _ _ _ => RowV.same e⟩
/-! ### sums hour by hour -/
def colP (rss : List (List Q2)) (pl : Nat) : List Q2 := rss.map fun r => itemP r pl
def gnM (xs : List Q2) : List Q2 := (List.range xs.length).map fun t => sumP (xs.take (t + 1))
theorem gnM_len (xs : List Q2) : (gnM xs).length = xs.length := by unfold gnM; simp
theorem gnM_at {xs : List Q2} {t : Nat} (h : t < xs.length) : (gnM xs)[t]? = some (sumP (xs.take (t + 1))) := by
  unfold gnM
  rw [List.getElem?_map, List.getElem?_range h]
  rfl
theorem gnM_take {xs : List Q2} {t : Nat} (h : t < xs.length) : (gnM xs).take (t + 1) = (gnM xs).take t ++ [sumP (xs.take (t + 1))] := by
  rw [List.take_add_one, gnM_at h]
  rfl
theorem gnM_all (xs : List Q2) : (gnM xs).take xs.length = gnM xs := List.take_of_length_le (by rw [gnM_len]; exact Nat.le_refl _)
theorem ok01 : Ok 1 ((0, 1) : Q2) := ⟨by decide, by unfold Bd; decide, by unfold Bd; decide⟩
theorem sum_ok {xs : List Q2} (h : AllOk 26 xs) : ∀ i, i ≤ xs.length → Ok (1 + 27 * i) (sumP (xs.take i)) ∧ Low (sumP (xs.take i)).1 (sumP (xs.take i)).2
  | 0, _ => ⟨ok01, sumP_low0⟩
  | i + 1, hi => by
    obtain ⟨o, l⟩ := sum_ok h i (by omega)
    have e : xs[i]? = some xs[i] := List.getElem?_eq_getElem (by omega)
    have hx := h _ (List.mem_of_getElem? e)
    rw [sumP_take e]
    exact ⟨(addP_ok o hx.1).mono (by omega), addP_low o.pos hx.1.pos⟩
theorem gnM_ok {xs : List Q2} (h : AllOk 26 xs) (hl : xs.length ≤ 61) : AllOk 1700 (gnM xs) := fun y hy => by
  unfold gnM at hy
  obtain ⟨t, ht, rfl⟩ := List.mem_map.1 hy
  have ht := List.mem_range.1 ht
  obtain ⟨o, l⟩ := sum_ok h (t + 1) (by omega)
  exact ⟨o.mono (by omega), l⟩
/-! ### the first hour with at least so many -/
def ceilP (x : Q2) : Int := -(-x.1 / x.2)
def floorP (x : Q2) : Int := x.1 / x.2
def firstK (cs : List Int) (k : Int) : Option Nat := (List.range cs.length).find? fun t => decide (k ≤ cs.getD t 0)
def oV : Option Nat → V
  | none => .non
  | some i => .int i
def oD : Option Nat → PyData
  | none => .none
  | some i => .int i
theorem firstK_some {cs : List Int} {k : Int} {i : Nat} (hi : i < cs.length) (h : k ≤ cs.getD i 0) (b : ∀ j, j < i → ¬ k ≤ cs.getD j 0) : firstK cs k = some i := by
  unfold firstK
  rw [List.find?_range_eq_some]
  exact ⟨by simpa using h, List.mem_range.2 hi, fun j hj => by simpa using b j hj⟩
theorem firstK_none {cs : List Int} {k : Int} (b : ∀ j, j < cs.length → ¬ k ≤ cs.getD j 0) : firstK cs k = none := by
  unfold firstK
  rw [List.find?_range_eq_none]
  intro j hj
  simpa using b j hj
theorem le_ceil {x : Q2} (h : 0 < x.2) (k : Int) : k ≤ ceilP x ↔ (k - 1) * x.2 < x.1 := by
  have e : ceilP x < k ↔ x.1 ≤ (k - 1) * x.2 := by
    unfold ceilP
    have e1 : -(-x.1 / x.2) < k ↔ -(k - 1) ≤ -x.1 / x.2 := by omega
    rw [e1, Int.le_ediv_iff_mul_le h, Int.neg_mul]
    omega
  omega
theorem le_floor {x : Q2} (h : 0 < x.2) (k : Int) : k ≤ floorP x ↔ k * x.2 ≤ x.1 := by
  unfold floorP
  exact Int.le_ediv_iff_mul_le h
/-- the windows of one field -/
abbrev Wn := Nat × Nat × Option Nat × Option Nat
def winP (xs : List Q2) (pl : Nat) : List Wn := (List.range (ceilP (sumP xs)).toNat).map fun j => (pl, j + 1, firstK ((gnM xs).map ceilP) ((j : Int) + 1), firstK ((gnM xs).map floorP) ((j : Int) + 1))
def winA (rss : List (List Q2)) (n : Nat) : List Wn := (List.range n).flatMap fun pl => winP (colP rss pl) pl
theorem winA_succ (rss : List (List Q2)) (n : Nat) : winA rss (n + 1) = winA rss n ++ winP (colP rss n) n := by
  unfold winA
  rw [List.range_succ, List.flatMap_append]
  simp
/-- shares from nought to one -/
def Unit01 (xs : List Q2) : Prop := ∀ x ∈ xs, 0 < x.2 ∧ 0 ≤ val x ∧ val x ≤ 1
theorem Unit01.pos {xs : List Q2} (h : Unit01 xs) : AllPos xs := fun x hx => (h x hx).1
theorem worth_take_le {xs : List Q2} (h : Unit01 xs) (t : Nat) : worth (xs.take t) ≤ worth xs := by
  have e : worth xs = worth (xs.take t) + worth (xs.drop t) := by rw [← worth_app, List.take_append_drop]
  have nn : ∀ ys : List Q2, (∀ y ∈ ys, 0 ≤ val y) → 0 ≤ worth ys := by
    intro ys
    induction ys with
    | nil => intro _; exact Rat.le_refl
    | cons y ys ih =>
      intro hy
      rw [worth_cons]
      have a := hy y (by simp)
      have b := ih fun z hz => hy z (by simp [hz])
      grind
  have := nn (xs.drop t) fun y hy => (h y (List.mem_of_mem_drop hy)).2.1
  grind
theorem worth_nn {xs : List Q2} (h : Unit01 xs) : 0 ≤ worth xs := by
  have := worth_take_le h 0
  exact this
theorem worth_le_len : ∀ {xs : List Q2}, Unit01 xs → worth xs ≤ (xs.length : Rat)
  | [], _ => by show (0 : Rat) ≤ ((0 : Nat) : Rat); simp
  | x :: xs, h => by
    rw [worth_cons, List.length_cons]
    have a := (h x (by simp)).2.2
    have b := worth_le_len (xs := xs) fun z hz => h z (by simp [hz])
    have c : ((xs.length + 1 : Nat) : Rat) = (xs.length : Rat) + 1 := by simp
    grind
theorem above_iff {x : Q2} (h : 0 < x.2) (k : Int) : k ≤ ceilP x ↔ ((k - 1 : Int) : Rat) < val x := by
  rw [le_ceil h]
  have e := val_lt (x := (k - 1, 1)) (y := x) (show (0 : Int) < 1 by decide) h
  have v : val (k - 1, 1) = ((k - 1 : Int) : Rat) := by
    show ((k - 1 : Int) : Rat) / ((1 : Int) : Rat) = _
    rw [show ((1 : Int) : Rat) = 1 from rfl, Rat.div_def, show (1 : Rat)⁻¹ = 1 from by decide +kernel, Rat.mul_one]
  rw [v] at e
  rw [← e]
  simp
theorem sum_pos {xs : List Q2} (h : AllPos xs) : 0 < (sumP xs).2 := (fold_worth xs (0, 1) (by decide) h).2
theorem take_pos {xs : List Q2} (h : AllPos xs) (t : Nat) : AllPos (xs.take t) := fun x hx => h x (List.mem_of_mem_take hx)
/-- no hour has more than the last -/
theorem ceil_mono {xs : List Q2} (h : Unit01 xs) (t : Nat) {k : Int} (hk : k ≤ ceilP (sumP (xs.take t))) : k ≤ ceilP (sumP xs) := by
  rw [above_iff (sum_pos (take_pos h.pos t)), sumP_worth (take_pos h.pos t)] at hk
  rw [above_iff (sum_pos h.pos), sumP_worth h.pos]
  have := worth_take_le h t
  grind
theorem ceil_le {xs : List Q2} (h : Unit01 xs) : ceilP (sumP xs) ≤ xs.length := by
  apply Int.not_lt.1
  intro hc
  have e : ((xs.length : Int) + 1) ≤ ceilP (sumP xs) := hc
  rw [above_iff (sum_pos h.pos), sumP_worth h.pos] at e
  have := worth_le_len h
  have c : (((xs.length : Int) + 1 - 1 : Int) : Rat) = (xs.length : Rat) := by
    rw [show ((xs.length : Int) + 1 - 1) = (xs.length : Int) by omega]
    exact Rat.intCast_natCast _
  rw [c] at e
  grind
theorem ceil_nn {xs : List Q2} (h : Unit01 xs) : 0 ≤ ceilP (sumP xs) := by
  rw [above_iff (sum_pos h.pos), sumP_worth h.pos]
  have := worth_nn h
  have c : ((0 - 1 : Int) : Rat) < 0 := by decide +kernel
  grind
end DT
namespace DT
open PySem PySem.Spec PyProof.Rows L2
theorem col_at {rss : List (List Q2)} {pl i : Nat} {r : List Q2} (h : rss[i]? = some r) : (colP rss pl)[i]? = some (itemP r pl) := by
  unfold colP
  rw [List.getElem?_map, h]
  rfl
theorem col_len (rss : List (List Q2)) (pl : Nat) : (colP rss pl).length = rss.length := by unfold colP; simp
theorem col_ok {rss : List (List Q2)} {pl : Nat} (h : ∀ r ∈ rss, AllOk 26 r ∧ pl < r.length) : AllOk 26 (colP rss pl) := fun x hx => by
  unfold colP at hx
  obtain ⟨r, hr, rfl⟩ := List.mem_map.1 hx
  exact item_ok (h r hr).1 (h r hr).2
theorem atI_last {α : Type} {xs : List α} {v : α} (h : xs[xs.length - 1]? = some v) : atI xs (-1) = some v := by
  have hl := (List.getElem?_eq_some_iff.1 h).1
  unfold atI ixN
  rw [if_neg (by decide), if_pos (by omega)]
  show xs[(-1 + (xs.length : Int)).toNat]? = _
  rw [show (-1 + (xs.length : Int)).toNat = xs.length - 1 by omega]
  exact h
theorem gnM_last {xs : List Q2} (h : 0 < xs.length) : (gnM xs)[(gnM xs).length - 1]? = some (sumP xs) := by
  rw [gnM_len, gnM_at (by omega), Nat.sub_add_cancel h, List.take_of_length_le (Nat.le_refl _)]
theorem map_take_succ {α β : Type} {xs : List α} {i : Nat} {x : α} (f : α → β) (h : xs[i]? = some x) : (xs.take (i + 1)).map f = (xs.take i).map f ++ [f x] := by
  rw [List.take_add_one, h, List.map_append]
  rfl
theorem getD_at {cs : List Int} {i : Nat} {c : Int} (h : cs[i]? = some c) : cs.getD i 0 = c := by
  rw [List.getD, h]
  rfl
theorem winP_len {rss : List (List Q2)} {pl : Nat} (hl : rss.length ≤ 61) (h : Unit01 (colP rss pl)) : (winP (colP rss pl) pl).length ≤ 61 := by
  unfold winP
  rw [List.length_map, List.length_range]
  have := ceil_le h
  rw [col_len] at this
  omega
theorem winA_len {rss : List (List Q2)} {n : Nat} (hl : rss.length ≤ 61) (h : ∀ pl, pl < n → Unit01 (colP rss pl)) : ∀ i, i ≤ n → (winA rss i).length ≤ 61 * i
  | 0, _ => Nat.le_refl _
  | i + 1, hi => by
    rw [winA_succ, List.length_append]
    have a := winA_len hl h i (by omega)
    have b := winP_len hl (h i (by omega))
    omega
/-- a window as a tuple -/
def WnV (K : PySem.W.Frag) (H : Hp) (v : V) (w : Wn) : Prop := ∃ t, v = .ref t ∧ SqT K H t [.int w.1, .int w.2.1, oV w.2.2.1, oV w.2.2.2]
def LW (K : PySem.W.Frag) (H : Hp) (p : Addr) (ws : List Wn) : Prop := ∃ us, H p = some (.lst us) ∧ Al (WnV K H) us ws
theorem WnV.same {K : PySem.W.Frag} {H H' : Hp} {v : V} {w : Wn} (e : Same H H') (h : WnV K H v w) : WnV K H' v w := by
  obtain ⟨t, rfl, h⟩ := h
  exact ⟨t, rfl, same_seqT e h⟩
theorem sqT_off {K : PySem.W.Frag} {H H' : Hp} {t D : Addr} {xs us : List V} (h : SqT K H t xs) (e : ∀ b o, H b = some o → b ≠ D → H' b = some o) (hD : H D = some (.lst us)) : SqT K H' t xs := by
  rcases h with (h | ⟨o, h⟩) | h
  · exact .inl (.inl (e _ _ h fun z => by rw [z, hD] at h; cases h))
  · exact .inl (.inr ⟨o, e _ _ h fun z => by rw [z, hD] at h; cases h⟩)
  · exact .inr h
theorem WnV.off {K : PySem.W.Frag} {H : Hp} {v : V} {w : Wn} {D : Addr} {us vs : List V} (hD : H D = some (.lst us)) (h : WnV K H v w) : WnV K (upd H D (.lst vs)) v w := by
  obtain ⟨t, rfl, h⟩ := h
  exact ⟨t, rfl, sqT_off h (fun b o e nb => by rw [upd_ne nb]; exact e) hD⟩
theorem WnV.new {K : PySem.W.Frag} {H : Hp} {t : Addr} {w : Wn} : WnV K (upd H t (.tup [.int w.1, .int w.2.1, oV w.2.2.1, oV w.2.2.2])) (.ref t) w := ⟨t, rfl, SqT.of upd_same⟩
theorem LW.same {K : PySem.W.Frag} {H H' : Hp} {p : Addr} {ws : List Wn} (h : LW K H p ws) (e : Same H H') : LW K H' p ws := by
  obtain ⟨us, h1, h2⟩ := h
  exact ⟨us, e _ _ h1, h2.imp fun _ _ _ => WnV.same e⟩
/-- a window put behind the others -/
theorem wn_grow {K : PySem.W.Frag} {H : Hp} {D : Addr} {us : List V} {v : V} {ws : List Wn} {w : Wn} (hD : H D = some (.lst us)) (h : Al (WnV K H) us ws) (k : WnV K H v w) : Al (WnV K (upd H D (.lst (us ++ [v])))) (us ++ [v]) (ws ++ [w]) :=
  (h.snoc k).imp fun _ _ _ z => z.off hD
def sp_gains (K : PySem.W.Frag) : Sp := fun vs H Q _ => ∃ (p : Addr) (pl : Nat) (rss : List (List Q2)), vs = [.ref p, .int pl] ∧ LR K H p rss ∧ rss.length ≤ 61 ∧ (∀ r ∈ rss, AllOk 26 r ∧ pl < r.length) ∧ ∀ H' q, Same H H' → H q = none → LP K H' q (gnM (colP rss pl)) → Q (.ref q) H'
def sp_first_hour (K : PySem.W.Frag) : Sp := fun vs H Q _ => ∃ (p : Addr) (cs : List Int) (k : Int), vs = [.ref p, .int k] ∧ H p = some (.lst (cs.map V.int)) ∧ ∀ H', Same H H' → Q (oV (firstK cs k)) H'
def sp_field_windows (K : PySem.W.Frag) : Sp := fun vs H Q _ => ∃ (p : Addr) (pl : Nat) (rss : List (List Q2)), vs = [.ref p, .int pl] ∧ LR K H p rss ∧ 0 < rss.length ∧ rss.length ≤ 61 ∧ (∀ r ∈ rss, AllOk 26 r ∧ pl < r.length) ∧ Unit01 (colP rss pl) ∧ ∀ H' q, Same H H' → H q = none → LW K H' q (winP (colP rss pl) pl) → Q (.ref q) H'
def sp_windows (K : PySem.W.Frag) : Sp := fun vs H Q _ => ∃ (p : Addr) (n : Nat) (rss : List (List Q2)), vs = [.ref p] ∧ LR K H p rss ∧ rss.length ≤ 61 ∧ n ≤ 24 ∧ (∀ r ∈ rss, AllOk 26 r ∧ r.length = n) ∧ (∀ pl, pl < n → Unit01 (colP rss pl)) ∧ ∀ H' q, Same H H' → H q = none → LW K H' q (if rss = [] then [] else winA rss n) → Q (.ref q) H'
end DT
namespace DT
open PySem PySem.Spec PyProof.Rows L2
def sp_season (K : PySem.W.Frag) : Sp := fun vs H Q _ => ∃ (pr : Addr) (rs : List Int), vs = [.ref pr] ∧ H pr = some (.lst (rs.map V.int)) ∧ 440 ≤ rs.length ∧ (∀ r ∈ rs, 0 ≤ r ∧ r < 1000000) ∧
  ∀ H' pt pR (n : Nat) (wss : List (List Int)), Same H H' → SqT K H' pt [.int (n : Int), .ref pR] → 1 ≤ n → n ≤ 12 → wss.length ≤ 60 → (∀ ws ∈ wss, WsOk n ws) → LR K H' pR (wss.map sharesOf) → Q (.ref pt) H'
/-- the rows lie at other places than D -/
theorem RowV.off {K : PySem.W.Frag} {H : Hp} {v : V} {r : List Q2} {D : Addr} {us vs : List V} (hD : H D = some (.lst us)) (n : v ≠ .ref D) (h : RowV K H v r) : RowV K (upd H D (.lst vs)) v r := by
  obtain ⟨q, rfl, h⟩ := h
  exact ⟨q, rfl, h.off hD fun z => n (by rw [z])⟩
theorem rows_grow {K : PySem.W.Frag} {H : Hp} {D : Addr} {us : List V} {v : V} {rss : List (List Q2)} {r : List Q2} (hD : H D = some (.lst us)) (h : Al (RowV K H) us rss) (nd : ∀ u ∈ us, u ≠ .ref D) (k : RowV K H v r) (nv : v ≠ .ref D) :
    Al (RowV K (upd H D (.lst (us ++ [v])))) (us ++ [v]) (rss ++ [r]) ∧ ∀ u ∈ us ++ [v], u ≠ .ref D := by
  have nd' : ∀ u ∈ us ++ [v], u ≠ .ref D := fun u hu => by
    rcases List.mem_append.1 hu with hu | hu
    · exact nd u hu
    · rw [List.mem_singleton.1 hu]; exact nv
  exact ⟨(h.snoc k).imp fun _ _ hu z => z.off hD (nd' _ hu), nd'⟩
end DT
namespace DT
open PySem PySem.Spec PyProof.Rows L2
/-- the gains of all fields behind so many hours -/
def nowM (rss : List (List Q2)) (n i : Nat) : List Q2 := (List.range n).map fun pl => sumP ((colP rss pl).take i)
def gnR (rss : List (List Q2)) (n : Nat) : List (List Q2) := (List.range rss.length).map fun t => nowM rss n (t + 1)
theorem nowM_len (rss : List (List Q2)) (n i : Nat) : (nowM rss n i).length = n := by unfold nowM; simp
theorem nowM_at {rss : List (List Q2)} {n i pl : Nat} (h : pl < n) : (nowM rss n i)[pl]? = some (sumP ((colP rss pl).take i)) := by
  unfold nowM
  rw [List.getElem?_map, List.getElem?_range h]
  rfl
theorem nowM_zero (rss : List (List Q2)) (n : Nat) : nowM rss n 0 = List.replicate n (0, 1) := by
  unfold nowM
  apply List.ext_getElem?
  intro i
  rw [List.getElem?_map, List.getElem?_replicate]
  by_cases h : i < n
  · rw [List.getElem?_range h, if_pos h]; rfl
  · rw [List.getElem?_eq_none (by simp; omega), if_neg h]; rfl
theorem nowM_succ {rss : List (List Q2)} {n i : Nat} {r : List Q2} (e : rss[i]? = some r) (hl : r.length = n) : List.zipWith addP (nowM rss n i) r = nowM rss n (i + 1) := by
  apply List.ext_getElem?
  intro j
  by_cases h : j < n
  · rw [nowM_at h, List.getElem?_zipWith, nowM_at h, item_some (show j < r.length by omega)]
    show some (addP _ _) = _
    rw [sumP_take (col_at e)]
  · rw [List.getElem?_eq_none (by rw [List.length_zipWith, nowM_len]; omega), List.getElem?_eq_none (by rw [nowM_len]; omega)]
theorem nowM_ok {rss : List (List Q2)} {n i : Nat} (hb : ∀ r ∈ rss, AllOk 26 r ∧ r.length = n) (hi : i ≤ rss.length) : AllOk (1 + 27 * i) (nowM rss n i) := fun y hy => by
  unfold nowM at hy
  obtain ⟨pl, hp, rfl⟩ := List.mem_map.1 hy
  have hp := List.mem_range.1 hp
  exact sum_ok (col_ok fun r hr => ⟨(hb r hr).1, by rw [(hb r hr).2]; exact hp⟩) i (by rw [col_len]; exact hi)
theorem gnR_take {rss : List (List Q2)} {n i : Nat} (h : i < rss.length) : (gnR rss n).take (i + 1) = (gnR rss n).take i ++ [nowM rss n (i + 1)] := by
  have e : (gnR rss n)[i]? = some (nowM rss n (i + 1)) := by
    unfold gnR
    rw [List.getElem?_map, List.getElem?_range h]
    rfl
  rw [List.take_add_one, e]
  rfl
theorem gnR_len (rss : List (List Q2)) (n : Nat) : (gnR rss n).length = rss.length := by unfold gnR; simp
theorem rep1 {i : Nat} {α : Type} (x : α) : List.replicate (i + 1) x = List.replicate i x ++ [x] := List.replicate_succ'
def sp_lgains (K : PySem.W.Frag) : Sp := fun vs H Q _ => ∃ (p : Addr) (n : Nat) (rss : List (List Q2)), vs = [.ref p, .int n] ∧ LR K H p rss ∧ rss.length ≤ 61 ∧ n ≤ 24 ∧ (∀ r ∈ rss, AllOk 26 r ∧ r.length = n) ∧ ∀ H' q, Same H H' → H q = none → LR K H' q (gnR rss n) → Q (.ref q) H'
end DT
namespace DT
open PySem PySem.Spec PyProof.Rows L2
/-- all but the list at D stays -/
def Sb (D : Addr) (H H' : Hp) : Prop := ∀ b o, H b = some o → b ≠ D → H' b = some o
theorem Sb.of {D : Addr} {H H' : Hp} (s : Same H H') : Sb D H H' := fun b o e _ => s b o e
theorem Sb.trans {D : Addr} {H H1 H2 : Hp} (a : Sb D H H1) (b : Sb D H1 H2) : Sb D H H2 := fun c o e n => b c o (a c o e n) n
theorem Sb.put {D : Addr} {H : Hp} {o : HO} : Sb D H (upd H D o) := fun b x e n => by rw [upd_ne n]; exact e
theorem Pps.sb {K : PySem.W.Frag} {D : Addr} {H H' : Hp} {vs us : List V} {xs : List Q2} (h : Pps K H vs xs) (s : Sb D H H') (hD : H D = some (.lst us)) : Pps K H' vs xs := h.off s hD
theorem LP.sb {K : PySem.W.Frag} {D p : Addr} {H H' : Hp} {us : List V} {xs : List Q2} (h : LP K H p xs) (s : Sb D H H') (hD : H D = some (.lst us)) (n : p ≠ D) : LP K H' p xs := by
  obtain ⟨vs, e, h⟩ := h
  exact ⟨vs, s _ _ e n, h.off s hD⟩
theorem cut_one (vs : List V) : cutV vs none (some 1) = vs.take 1 := by
  unfold cutV
  rw [HT.sIx_none, show (1 : Int) = ((1 : Nat) : Int) from rfl, HT.sIx_nat, List.drop_zero, Nat.sub_zero]
  by_cases h : vs = []
  · subst h; rfl
  · have : 0 < vs.length := List.length_pos_iff.2 h
    rw [Nat.min_eq_left this]
def upK (cs : List Int) (k : Int) (t : Nat) : Bool := decide (k ≤ cs.getD t 0)
def fsK (cs : List Int) (k : Int) (j : Nat) : List Nat := (List.range j).filter (upK cs k)
theorem fsK_succ (cs : List Int) (k : Int) (j : Nat) : fsK cs k (j + 1) = if upK cs k j = true then fsK cs k j ++ [j] else fsK cs k j := by
  unfold fsK
  rw [List.range_succ, List.filter_append]
  by_cases h : upK cs k j = true
  · rw [if_pos h]; simp [h]
  · rw [if_neg h]; simp [h]
theorem fsK_head (cs : List Int) (k : Int) : (fsK cs k cs.length).head? = firstK cs k := by
  unfold fsK firstK upK
  rw [List.head?_filter]
def ntV (ts : List Nat) : List V := ts.map fun (t : Nat) => V.int (t : Int)
theorem take1 {α : Type} (l : List α) : l.take 1 = (match l.head? with | none => [] | some x => [x]) := by
  cases l with
  | nil => rfl
  | cons x l => rfl
theorem gn_getD {xs : List Q2} {f : Q2 → Int} {t : Nat} (h : t < xs.length) : ((gnM xs).map f).getD t 0 = f (sumP (xs.take (t + 1))) := by
  rw [List.getD, List.getElem?_map, gnM_at h]
  rfl
theorem winP_at {xs : List Q2} {pl i : Nat} (h : i < (ceilP (sumP xs)).toNat) : (winP xs pl)[i]? = some (pl, i + 1, firstK ((gnM xs).map ceilP) ((i : Int) + 1), firstK ((gnM xs).map floorP) ((i : Int) + 1)) := by
  unfold winP
  rw [List.getElem?_map, List.getElem?_range h]
  rfl
theorem winP_all (xs : List Q2) (pl : Nat) : (winP xs pl).length = (ceilP (sumP xs)).toNat := by unfold winP; simp
/-- the first hour is told just where k isn't above the last hour's -/
theorem first_is {xs : List Q2} (h : Unit01 xs) (k : Int) (h0 : 0 < xs.length) : (firstK ((gnM xs).map ceilP) k).isSome = decide (k ≤ ceilP (sumP xs)) := by
  have lm : ((gnM xs).map ceilP).length = xs.length := by rw [List.length_map, gnM_len]
  by_cases hk : k ≤ ceilP (sumP xs)
  · rw [decide_eq_true hk]
    cases e : firstK ((gnM xs).map ceilP) k with
    | some i => rfl
    | none =>
      unfold firstK at e
      rw [List.find?_range_eq_none] at e
      have := e (xs.length - 1) (by omega)
      rw [gn_getD (by omega), Nat.sub_add_cancel h0, List.take_of_length_le (Nat.le_refl _)] at this
      simp at this
      omega
  · rw [decide_eq_false hk, firstK_none]
    · rfl
    intro j hj
    rw [lm] at hj
    rw [gn_getD hj]
    exact fun z => hk (ceil_mono h (j + 1) z)
theorem winA_nil (n : Nat) : winA [] n = [] := by
  unfold winA
  rw [List.flatMap_eq_nil_iff]
  intro pl _
  rfl
def sp_lwindows (K : PySem.W.Frag) : Sp := fun vs H Q _ => ∃ (p : Addr) (n : Nat) (rss : List (List Q2)), vs = [.ref p, .int n] ∧ LR K H p rss ∧ rss.length ≤ 61 ∧ 1 ≤ n ∧ n ≤ 24 ∧ (∀ r ∈ rss, AllOk 26 r ∧ r.length = n) ∧ (∀ pl, pl < n → Unit01 (colP rss pl)) ∧ ∀ H' q, Same H H' → H q = none → LW K H' q (winA rss n) → Q (.ref q) H'
end DT
namespace DT
open PySem PySem.Spec PyProof.Rows L2
def oL : Option Nat → List V
  | none => []
  | some t => [.int t]
theorem nt_take {cs : List Int} {k : Int} {m : Nat} (h : cs.length = m) : (ntV (fsK cs k m)).take 1 = oL (firstK cs k) := by
  subst h
  unfold ntV
  rw [← List.map_take, take1, fsK_head]
  cases firstK cs k <;> rfl
def oLD : Option Nat → PyData
  | none => .list []
  | some t => .list [.int t]
theorem oL_dp {K : PySem.W.Frag} {H : Hp} {p : Addr} {o : Option Nat} (h : H p = some (.lst (oL o))) : Dp K H (.ref p) (oLD o) := by
  cases o with
  | none => exact .lst (SqL.of h) .nil
  | some t => exact .lst (SqL.of h) (.cons (.int _) .nil)
theorem oL_shp (o : Option Nat) : SeqAt.shaped (oLD o) = true := by cases o <;> rfl
theorem oL_eqv (o : Option Nat) : PyData.eqv (oLD o) (.list []) = o.isNone := by
  cases o with
  | none => rfl
  | some t => rfl
theorem fsK_len (cs : List Int) (k : Int) (j : Nat) : (fsK cs k j).length ≤ j := by
  unfold fsK
  exact Nat.le_trans (List.length_filter_le _ _) (by simp)
theorem nt_snoc (ts : List Nat) (t : Nat) : ntV (ts ++ [t]) = ntV ts ++ [.int (t : Int)] := by
  unfold ntV
  rw [List.map_append]
  rfl
end DT
namespace DT
open PySem PySem.Spec PyProof.Rows L2
theorem le_sum {ws : List Int} {w : Int} : (∀ x ∈ ws, 0 ≤ x) → w ∈ ws → w ≤ ws.sum ∧ 0 ≤ ws.sum := by
  induction ws with
  | nil => intro _ h; cases h
  | cons y ys ih =>
    intro h hw
    have hy := h y (by simp)
    have hs : 0 ≤ ys.sum := by
      clear ih hw
      have h' : ∀ x ∈ ys, 0 ≤ x := fun x hx => h x (by simp [hx])
      clear h hy
      induction ys with
      | nil => exact Int.le_refl _
      | cons z zs ih2 =>
        have a := h' z (by simp)
        have b := ih2 fun x hx => h' x (by simp [hx])
        rw [List.sum_cons]
        omega
    rw [List.sum_cons]
    rcases List.mem_cons.1 hw with rfl | hw
    · omega
    · have := (ih (fun x hx => h x (by simp [hx])) hw).1
      omega
theorem share_unit {n : Nat} {ws : List Int} (h : WsOk n ws) : ∀ x ∈ sharesOf ws, 0 < x.2 ∧ 0 ≤ val x ∧ val x ≤ 1 := fun x hx => by
  unfold sharesOf at hx
  obtain ⟨w, hw, rfl⟩ := List.mem_map.1 hx
  have hp := h.2.2.1
  have nn := (h.2.1 w hw).1
  have le := (le_sum (fun y hy => (h.2.1 y hy).1) hw).1
  have e : val (lowP w ws.sum) = val (w, ws.sum) := val_low hp
  refine ⟨(lowP_low hp).pos, ?_, ?_⟩
  · rw [e, ← val_zero']
    exact Rat.not_lt.1 fun z => by
      have := (val_lt (x := (w, ws.sum)) (y := (0, 1)) hp (by decide)).2 z
      simp at this
      omega
  · rw [e, ← val_one]
    exact Rat.not_lt.1 fun z => by
      have := (val_lt (x := (1, 1)) (y := (w, ws.sum)) (by decide) hp).2 z
      simp at this
      omega
theorem col_unit {n pl : Nat} {wss : List (List Int)} (h : ∀ ws ∈ wss, WsOk n ws) (hp : pl < n) : Unit01 (colP (wss.map sharesOf) pl) := fun x hx => by
  unfold colP at hx
  obtain ⟨r, hr, rfl⟩ := List.mem_map.1 hx
  obtain ⟨ws, hw, rfl⟩ := List.mem_map.1 hr
  have l : pl < (sharesOf ws).length := by rw [shares_len, (h ws hw).1]; exact hp
  exact share_unit (h ws hw) _ (List.mem_of_getElem? (item_some l))
/-! ### as data -/
def datW (w : Wn) : PyData := .tuple [.int w.1, .int w.2.1, oD w.2.2.1, oD w.2.2.2]
def datR (r : List Q2) : PyData := .list (r.map datP)
theorem oV_dp {K : PySem.W.Frag} {H : Hp} (o : Option Nat) : Dp K H (oV o) (oD o) := by
  cases o with
  | none => exact .non
  | some i => exact .int _
theorem WnV.dp {K : PySem.W.Frag} {H : Hp} {v : V} {w : Wn} (h : WnV K H v w) : Dp K H v (datW w) := by
  obtain ⟨t, rfl, h⟩ := h
  exact .tup h (.cons (.int _) (.cons (.int _) (.cons (oV_dp _) (.cons (oV_dp _) .nil))))
theorem RowV.dp {K : PySem.W.Frag} {H : Hp} {v : V} {r : List Q2} (h : RowV K H v r) : Dp K H v (datR r) := by
  obtain ⟨q, rfl, h⟩ := h
  exact h.dp
theorem al_dp {α : Type} {K : PySem.W.Frag} {H : Hp} {R : V → α → Prop} {f : α → PyData} (hf : ∀ v x, R v x → Dp K H v (f x)) : ∀ {us : List V} {xs : List α}, Al R us xs → DpAll K H us (xs.map f)
  | [], [], _ => .nil
  | u :: us, x :: xs, h => .cons (hf u x (h.2 0 u x rfl rfl)) (al_dp hf (us := us) (xs := xs) ⟨by have := h.1; simpa using this, fun i v y e1 e2 => h.2 (i + 1) v y e1 e2⟩)
  | [], _ :: _, h => by cases h.1
  | _ :: _, [], h => by cases h.1
theorem LW.dp {K : PySem.W.Frag} {H : Hp} {p : Addr} {ws : List Wn} (h : LW K H p ws) : Dp K H (.ref p) (.list (ws.map datW)) := by
  obtain ⟨us, e, h⟩ := h
  exact .lst (SqL.of e) (al_dp (f := datW) (fun _ _ => WnV.dp) h)
theorem LR.dp {K : PySem.W.Frag} {H : Hp} {p : Addr} {rss : List (List Q2)} (h : LR K H p rss) : Dp K H (.ref p) (.list (rss.map datR)) := by
  obtain ⟨us, e, h⟩ := h
  exact .lst (SqL.of e) (al_dp (f := datR) (fun _ _ => RowV.dp) h)
theorem plain_o (n : Nat) (o : Option Nat) : Plain n (oD o) := by
  cases n <;> cases o <;> trivial
theorem plain_w (w : Wn) : Plain 1 (datW w) := ⟨by show 4 ≤ 900; decide, fun d hd => by
  rcases List.mem_cons.1 hd with rfl | hd
  · trivial
  rcases List.mem_cons.1 hd with rfl | hd
  · trivial
  rcases List.mem_cons.1 hd with rfl | hd
  · exact plain_o 0 _
  · rw [List.mem_singleton.1 hd]; exact plain_o 0 _⟩
theorem plain_ws {ws : List Wn} (h : ws.length ≤ 900) : Plain 2 (.list (ws.map datW)) := ⟨by rw [List.length_map]; exact h, fun d hd => by
  obtain ⟨w, _, rfl⟩ := List.mem_map.1 hd
  exact plain_w w⟩
theorem lay_rs : ∀ rss : List (List Q2), PyData.canLayAll0 (rss.map datR) = true
  | [] => rfl
  | r :: rss => by
    have h1 := lay_ps r
    have h2 := lay_rs rss
    simp only [List.map_cons, PyData.canLayAll0, datR, PyData.canLay0, h1, Bool.true_and]
    exact h2
theorem dep_rs : ∀ rss : List (List Q2), PyData.depthAll (rss.map datR) ≤ 2
  | [] => Nat.zero_le _
  | r :: rss => by
    have h1 := dep_ps r
    have h2 := dep_rs rss
    simp only [List.map_cons, PyData.depthAll, datR, PyData.depth]
    omega
theorem shp_rs (rss : List (List Q2)) : SeqAt.shaped (.list (rss.map datR)) = true := by
  have h1 := lay_rs rss
  have h2 := dep_rs rss
  unfold SeqAt.shaped
  rw [Bool.and_eq_true]
  refine ⟨by simp only [PyData.canLay0, h1], decide_eq_true ?_⟩
  simp only [PyData.depth]
  omega
theorem eqv_rs : ∀ rss : List (List Q2), PyData.eqvAll (rss.map datR) (rss.map datR) = true
  | [] => rfl
  | r :: rss => by
    have h1 := eqv_psL r
    have h2 := eqv_rs rss
    simp only [List.map_cons, PyData.eqvAll, datR, h1, Bool.true_and]
    exact h2
theorem eqv_rsL (rss : List (List Q2)) : PyData.eqv (.list (rss.map datR)) (.list (rss.map datR)) = true := by
  have := eqv_rs rss
  simp only [PyData.eqv]
  exact this
end DT

namespace DT
/-! the plan of a season, purely: who has the earliest last hour goes first -/
section
variable {α : Type} (r : α → Nat) (d : α → Option Nat) (lost : Nat → Bool)
/-- how many of the hours before n are not lost -/
def aheadN : Nat → Nat
  | 0 => 0
  | n + 1 => aheadN n + if lost n then 0 else 1
/-- that the last hour is told and is x or before -/
def dl (x : Nat) (s : α) : Bool := match d s with
  | none => false
  | some y => decide (y ≤ x)
theorem dl_iff {x : Nat} {s : α} : dl d x s = true ↔ ∃ y, d s = some y ∧ y ≤ x := by
  unfold dl
  cases e : d s with
  | none => simp
  | some y => simp
theorem ahead_le {a b : Nat} (h : a ≤ b) : aheadN lost a ≤ aheadN lost b := by
  induction b with
  | zero => rw [Nat.le_zero.1 h]; exact Nat.le_refl _
  | succ b ih =>
    rcases Nat.lt_or_ge b a with c | c
    · rw [show a = b + 1 by omega]; exact Nat.le_refl _
    · exact Nat.le_trans (ih c) (Nat.le_add_right _ _)
/-- there is room for all that wait, from each hour on up to each other -/
structure Ample (many t : Nat) (W : List α) : Prop where
  all : ∀ x, x < many → t ≤ x + 1 → W.countP (dl d x) + aheadN lost t ≤ aheadN lost (x + 1)
  from' : ∀ x a, x < many → t ≤ a → a ≤ x + 1 → W.countP (fun s => dl d x s && decide (a ≤ r s)) + aheadN lost a ≤ aheadN lost (x + 1)
variable {r d lost} {many t : Nat} {W : List α}
theorem Ample.start (h : ∀ x a, x < many → a ≤ x → W.countP (fun s => dl d x s && decide (a ≤ r s)) + aheadN lost a ≤ aheadN lost (x + 1)) (rd : ∀ s ∈ W, ∀ y, d s = some y → r s ≤ y) : Ample r d lost many 0 W := by
  have h' : ∀ x a, x < many → a ≤ x + 1 → W.countP (fun s => dl d x s && decide (a ≤ r s)) + aheadN lost a ≤ aheadN lost (x + 1) := fun x a hx ha => by
    rcases Nat.lt_or_ge x a with c | c
    · obtain rfl : a = x + 1 := by omega
      have z : W.countP (fun s => dl d x s && decide (x + 1 ≤ r s)) = 0 := by
        rw [List.countP_eq_zero]
        intro s hs hd
        rw [Bool.and_eq_true, dl_iff, decide_eq_true_iff] at hd
        obtain ⟨⟨y, ey, hy⟩, hr⟩ := hd
        have := rd s hs y ey
        omega
      omega
    · exact h x a hx c
  refine ⟨fun x hx _ => ?_, fun x a hx _ ha => h' x a hx ha⟩
  have := h' x 0 hx (Nat.zero_le _)
  simpa using this
theorem Ample.dry (h : Ample r d lost many t W) (e : lost t = true) : Ample r d lost many (t + 1) W :=
  ⟨fun x hx ht => by
    have := h.all x hx (by omega)
    show W.countP (dl d x) + (aheadN lost t + if lost t then 0 else 1) ≤ _
    rw [e]
    exact this, fun x a hx ha => h.from' x a hx (by omega)⟩
theorem Ample.idle (h : Ample r d lost many t W) (e : ∀ s ∈ W, t < r s) : Ample r d lost many (t + 1) W :=
  ⟨fun x hx ht => by
    have := h.from' x (t + 1) hx (by omega) ht
    rw [List.countP_congr (q := dl d x) (fun s hs => by
      have := e s hs
      simp only [Bool.and_eq_true, decide_eq_true_iff]
      exact ⟨fun z => z.1, fun z => ⟨z, by omega⟩⟩)] at this
    exact this, fun x a hx ha => h.from' x a hx (by omega)⟩
theorem Ample.pick (h : Ample r d lost many t W) {i : Nat} {s : α} (hi : W[i]? = some s) (e : ∀ s' ∈ W, r s' ≤ t → (d s).getD many ≤ (d s').getD many) : Ample r d lost many (t + 1) (W.eraseIdx i) := by
  have sub := List.eraseIdx_sublist W i
  refine ⟨fun x hx ht => ?_, fun x a hx ha hb => Nat.le_trans (Nat.add_le_add_right sub.countP_le _) (h.from' x a hx (by omega) hb)⟩
  cases c : dl d x s with
  | true =>
    have := h.all x hx (by omega)
    have hl := (List.getElem?_eq_some_iff.1 hi).1
    have eg := (List.getElem?_eq_some_iff.1 hi).2
    have k : W.countP (dl d x) = (W.eraseIdx i).countP (dl d x) + 1 := by
      rw [List.eraseIdx_eq_take_drop_succ]
      conv => lhs; rw [← List.take_append_drop i W, List.drop_eq_getElem_cons hl, eg]
      rw [List.countP_append, List.countP_append, List.countP_cons, if_pos c]
      omega
    have : aheadN lost (t + 1) ≤ aheadN lost t + 1 := by
      show aheadN lost t + (if lost t then 0 else 1) ≤ _
      split <;> omega
    omega
  | false =>
    have k := h.from' x (t + 1) hx (by omega) ht
    rw [List.countP_congr (q := dl d x) (fun s' hs => by
      simp only [Bool.and_eq_true, decide_eq_true_iff]
      refine ⟨fun z => z.1, fun z => ⟨z, ?_⟩⟩
      rcases Nat.lt_or_ge t (r s') with g | g
      · exact g
      · exfalso
        obtain ⟨y, ey, hy⟩ := (dl_iff d).1 z
        have := e s' hs g
        rw [ey] at this
        cases eq : d s with
        | none => rw [eq] at this; simp at this; omega
        | some y' =>
          rw [eq] at this
          simp at this
          have : dl d x s = true := (dl_iff d).2 ⟨y', eq, by omega⟩
          rw [this] at c
          cases c)] at k
    exact Nat.le_trans (Nat.add_le_add_right sub.countP_le _) k
/-- whose last hour has gone does not wait -/
theorem Ample.done (h : Ample r d lost many (t + 1) W) (ht : t < many) : ∀ s ∈ W, dl d t s = false := by
  have := h.all t ht (Nat.le_refl _)
  have z : W.countP (dl d t) = 0 := by omega
  rw [List.countP_eq_zero] at z
  intro s hs
  exact Bool.eq_false_iff.2 (z s hs)
/-- one hour of the plan: what is taken (its place in the list of those that wait), what waits behind it -/
inductive Hour (r : α → Nat) (d : α → Option Nat) (lost : Nat → Bool) (many t : Nat) (W : List α) : Option α → List α → Prop
  | shut : lost t = true → Hour r d lost many t W none W
  | idle : lost t = false → (∀ s ∈ W, t < r s) → Hour r d lost many t W none W
  | pick {i : Nat} {s : α} : lost t = false → W[i]? = some s → r s ≤ t → (∀ s' ∈ W, r s' ≤ t → (d s).getD many ≤ (d s').getD many) → Hour r d lost many t W (some s) (W.eraseIdx i)
theorem Ample.hour (h : Ample r d lost many t W) {o : Option α} {W' : List α} (g : Hour r d lost many t W o W') : Ample r d lost many (t + 1) W' := by
  cases g with
  | shut e => exact h.dry e
  | idle _ e => exact h.idle e
  | pick _ hi _ e => exact h.pick hi e
theorem count_erase {p : α → Bool} {i : Nat} {s : α} (hi : W[i]? = some s) : W.countP p = (W.eraseIdx i).countP p + if p s = true then 1 else 0 := by
  have hl := (List.getElem?_eq_some_iff.1 hi).1
  have eg := (List.getElem?_eq_some_iff.1 hi).2
  rw [List.eraseIdx_eq_take_drop_succ]
  conv => lhs; rw [← List.take_append_drop i W, List.drop_eq_getElem_cons hl, eg]
  rw [List.countP_append, List.countP_append, List.countP_cons]
  omega
/-- the plan up to an hour: what was taken (None where nothing was), what waits still -/
inductive PlanTo (r : α → Nat) (d : α → Option Nat) (lost : Nat → Bool) (many : Nat) (W0 : List α) : Nat → List (Option α) → List α → Prop
  | nil : PlanTo r d lost many W0 0 [] W0
  | snoc {t : Nat} {os : List (Option α)} {W W' : List α} {o : Option α} : PlanTo r d lost many W0 t os W → Hour r d lost many t W o W' → PlanTo r d lost many W0 (t + 1) (os ++ [o]) W'
variable {W0 : List α} {os : List (Option α)}
theorem PlanTo.len (h : PlanTo r d lost many W0 t os W) : os.length = t := by
  induction h with
  | nil => rfl
  | snoc _ _ ih => rw [List.length_append, ih]; rfl
theorem PlanTo.fine (h : PlanTo r d lost many W0 t os W) (f : Ample r d lost many 0 W0) : Ample r d lost many t W := by
  induction h with
  | nil => exact f
  | snoc _ g ih => exact ih.hour g
/-- what was taken and what waits is all there was -/
theorem PlanTo.count (h : PlanTo r d lost many W0 t os W) (p : α → Bool) : W0.countP p = os.countP (fun o => o.any p) + W.countP p := by
  induction h with
  | nil => simp
  | snoc _ g ih =>
    rw [List.countP_append, List.countP_singleton, ih]
    cases g with
    | shut _ => simp
    | idle _ _ => simp
    | pick _ hi _ _ =>
      rw [count_erase (p := p) hi]
      simp only [Option.any_some]
      omega
/-- whose first hour has not come waits -/
theorem PlanTo.early (h : PlanTo r d lost many W0 t os W) : ∀ o ∈ os, ∀ s, o = some s → r s < t := by
  induction h with
  | nil => intro o ho; cases ho
  | snoc _ g ih =>
    intro o ho s e
    rcases List.mem_append.1 ho with k | k
    · exact Nat.lt_succ_of_lt (ih o k s e)
    · rw [List.mem_singleton.1 k] at e
      subst e
      cases g with
      | pick _ _ hr _ => exact Nat.lt_succ_of_le hr
/-- of each kind of spans: at least those whose last hour has gone are taken -/
theorem PlanTo.low (h : PlanTo r d lost many W0 (t + 1) os W) (f : Ample r d lost many 0 W0) (ht : t < many) (p : α → Bool) : W0.countP (fun s => p s && dl d t s) ≤ os.countP (fun o => o.any p) := by
  have c := h.count (fun s => p s && dl d t s)
  have z : W.countP (fun s => p s && dl d t s) = 0 := by
    rw [List.countP_eq_zero]
    intro s hs
    rw [(h.fine f).done ht s hs, Bool.and_false]
    decide
  have le : os.countP (fun o => o.any fun s => p s && dl d t s) ≤ os.countP (fun o => o.any p) := by
    refine List.countP_mono_left fun o _ k => ?_
    cases o with
    | none => cases k
    | some s =>
      simp only [Option.any_some, Bool.and_eq_true] at k ⊢
      exact k.1
  omega
/-- and at most those whose first hour has come -/
theorem PlanTo.high (h : PlanTo r d lost many W0 (t + 1) os W) (p : α → Bool) : os.countP (fun o => o.any p) ≤ W0.countP (fun s => p s && decide (r s ≤ t)) := by
  have c := h.count (fun s => p s && decide (r s ≤ t))
  have e : os.countP (fun o => o.any p) = os.countP (fun o => o.any fun s => p s && decide (r s ≤ t)) := by
    refine List.countP_congr fun o ho => ?_
    cases o with
    | none => simp
    | some s =>
      have := h.early _ ho s rfl
      simp only [Option.any_some, Bool.and_eq_true, decide_eq_true_iff]
      exact ⟨fun z => ⟨z, by omega⟩, fun z => z.1⟩
  omega
/-- where an hour that is not lost stays idle, all whose first hour has come are taken -/
theorem PlanTo.idle (h : PlanTo r d lost many W0 t os W) (g : Hour r d lost many t W none W) (e : lost t = false) (p : α → Bool) : os.countP (fun o => o.any p) = W0.countP (fun s => p s && decide (r s ≤ t)) := by
  have c := h.count (fun s => p s && decide (r s ≤ t))
  have z : W.countP (fun s => p s && decide (r s ≤ t)) = 0 := by
    rw [List.countP_eq_zero]
    intro s hs k
    cases g with
    | shut e' => rw [e] at e'; cases e'
    | idle _ f =>
      have := f s hs
      rw [Bool.and_eq_true, decide_eq_true_iff] at k
      omega
  have e2 : os.countP (fun o => o.any p) = os.countP (fun o => o.any fun s => p s && decide (r s ≤ t)) := by
    refine List.countP_congr fun o ho => ?_
    cases o with
    | none => simp
    | some s =>
      have := h.early _ ho s rfl
      simp only [Option.any_some, Bool.and_eq_true, decide_eq_true_iff]
      exact ⟨fun z => ⟨z, by omega⟩, fun z => z.1⟩
  omega
end
end DT

namespace DT
/-! windows counted: firstK of counts that never fall -/
/-- the first hour of k is x or before, when the count at x is k or more -/
theorem firstK_le {cs : List Int} (mono : ∀ i j, i ≤ j → j < cs.length → cs.getD i 0 ≤ cs.getD j 0) {x : Nat} (hx : x < cs.length) (k : Int) : (∃ y, firstK cs k = some y ∧ y ≤ x) ↔ k ≤ cs.getD x 0 := by
  unfold firstK
  constructor
  · rintro ⟨y, ey, hy⟩
    have := List.find?_some ey
    have hk := of_decide_eq_true this
    exact Int.le_trans hk (mono y x hy hx)
  · intro hk
    cases e : (List.range cs.length).find? fun t => decide (k ≤ cs.getD t 0) with
    | none =>
      have := List.find?_eq_none.1 e x (List.mem_range.2 hx)
      exact absurd (decide_eq_true hk) this
    | some y =>
      refine ⟨y, rfl, ?_⟩
      rcases Nat.lt_or_ge x y with c | c
      · exfalso
        rw [List.find?_range_eq_some] at e
        have := e.2.2 x c
        simp only [Bool.not_eq_eq_eq_not, Bool.not_true, decide_eq_false_iff_not] at this
        exact this hk
      · exact c
/-- how many of 1 .. C lie behind lo, up to hi -/
theorem count_between (C : Nat) {lo hi : Int} (h0 : 0 ≤ lo) (hC : hi ≤ C) : (List.range C).countP (fun j => decide (lo < ((j : Nat) : Int) + 1) && decide (((j : Nat) : Int) + 1 ≤ hi)) = (hi - lo).toNat := by
  have g : ∀ C' : Nat, (List.range C').countP (fun j => decide (lo < ((j : Nat) : Int) + 1) && decide (((j : Nat) : Int) + 1 ≤ hi)) = (min hi C' - lo).toNat := fun C' => by
    induction C' with
    | zero => simp; omega
    | succ n ih =>
      rw [List.range_succ, List.countP_append, ih, List.countP_singleton]
      by_cases a : lo < (n : Int) + 1
      · by_cases b : (n : Int) + 1 ≤ hi
        · rw [if_pos (by simp [a, b])]; omega
        · rw [if_neg (by simp [b])]; omega
      · rw [if_neg (by simp [a])]; omega
  rw [g C]
  congr 1
  omega
/-- what comes together from sums: no more than the hours between, when each count rises by no more -/
theorem sum_gap {n : Nat} {f g : Nat → Int} {h : Nat → Rat} {c : Rat} (le : ∀ p, p < n → ((f p - g p : Int) : Rat) ≤ h p) (nn : ∀ p, p < n → 0 ≤ h p) (tot : ((List.range n).map h).foldr (· + ·) 0 = c) : (((((List.range n).map fun p => (f p - g p).toNat).foldr (· + ·) 0 : Nat) : Int) : Rat) ≤ c := by
  have key : ∀ l : List Nat, (∀ p ∈ l, p < n) → ((((l.map fun p => (f p - g p).toNat).foldr (· + ·) 0 : Nat) : Int) : Rat) ≤ (l.map h).foldr (· + ·) 0 := by
    intro l
    induction l with
    | nil => intro _; simp
    | cons a l ih =>
      intro hl
      have i1 := ih fun p hp => hl p (List.mem_cons_of_mem _ hp)
      have l1 := le a (hl a (by simp))
      have n1 := nn a (hl a (by simp))
      simp only [List.map_cons, List.foldr_cons]
      have e : (((((f a - g a).toNat + (l.map fun p => (f p - g p).toNat).foldr (· + ·) 0 : Nat) : Int)) : Rat) = (((f a - g a).toNat : Int) : Rat) + ((((l.map fun p => (f p - g p).toNat).foldr (· + ·) 0 : Nat) : Int) : Rat) := by
        rw [Int.natCast_add, Rat.intCast_add]
      rw [e]
      have m : (((f a - g a).toNat : Int) : Rat) ≤ h a := by
        rcases Int.le_total 0 (f a - g a) with c | c
        · rw [Int.toNat_of_nonneg c]; exact l1
        · rw [Int.toNat_of_nonpos c]; simpa using n1
      grind
  rw [← tot]
  exact key _ fun p hp => List.mem_range.1 hp
end DT

namespace DT
/-! the windows of a season: room for all of them where nothing is lost -/
def rW (w : Wn) : Nat := w.2.2.1.getD 0
def dW (w : Wn) : Option Nat := w.2.2.2
theorem val_int (k : Int) : val (k, 1) = (k : Rat) := by
  show (k : Rat) / ((1 : Int) : Rat) = _
  rw [show ((1 : Int) : Rat) = 1 from rfl, Rat.div_def, show (1 : Rat)⁻¹ = 1 from by decide +kernel, Rat.mul_one]
theorem below_iff {x : Q2} (h : 0 < x.2) (k : Int) : k ≤ floorP x ↔ (k : Rat) ≤ val x := by
  rw [le_floor h]
  have e := val_lt (x := x) (y := (k, 1)) h (show (0 : Int) < 1 by decide)
  rw [val_int] at e
  have e' : x.1 < k * x.2 ↔ val x < (k : Rat) := by rw [← e]; simp
  constructor
  · intro a
    exact Rat.not_lt.1 fun z => by have := e'.2 z; omega
  · intro a
    apply Int.not_lt.1
    intro z
    have := e'.1 z
    grind
/-- all that has come by hour t -/
def gT (xs : List Q2) (t : Nat) : Rat := worth (xs.take t)
theorem gT_val {xs : List Q2} (h : Unit01 xs) (t : Nat) : val (sumP (xs.take t)) = gT xs t := sumP_worth (take_pos h.pos t)
theorem Unit01.take {xs : List Q2} (h : Unit01 xs) (t : Nat) : Unit01 (xs.take t) := fun x hx => h x (List.mem_of_mem_take hx)
theorem gT_mono {xs : List Q2} (h : Unit01 xs) {s t : Nat} (e : s ≤ t) : gT xs s ≤ gT xs t := by
  have := worth_take_le (h.take t) s
  rw [List.take_take, Nat.min_eq_left e] at this
  exact this
theorem gT_nn {xs : List Q2} (h : Unit01 xs) (t : Nat) : 0 ≤ gT xs t := worth_nn (h.take t)
theorem ceil_iff {xs : List Q2} (h : Unit01 xs) (t : Nat) (k : Int) : k ≤ ceilP (sumP (xs.take t)) ↔ ((k - 1 : Int) : Rat) < gT xs t := by
  rw [above_iff (sum_pos (take_pos h.pos t)), gT_val h]
theorem floor_iff {xs : List Q2} (h : Unit01 xs) (t : Nat) (k : Int) : k ≤ floorP (sumP (xs.take t)) ↔ (k : Rat) ≤ gT xs t := by
  rw [below_iff (sum_pos (take_pos h.pos t)), gT_val h]
theorem ceil_up {xs : List Q2} (h : Unit01 xs) {s t : Nat} (e : s ≤ t) : ceilP (sumP (xs.take s)) ≤ ceilP (sumP (xs.take t)) := by
  rw [ceil_iff h]
  have := (ceil_iff h s _).1 (Int.le_refl _)
  have := gT_mono h e
  grind
theorem floor_up {xs : List Q2} (h : Unit01 xs) {s t : Nat} (e : s ≤ t) : floorP (sumP (xs.take s)) ≤ floorP (sumP (xs.take t)) := by
  rw [floor_iff h]
  have := (floor_iff h s _).1 (Int.le_refl _)
  have := gT_mono h e
  grind
theorem floor_ceil {xs : List Q2} (h : Unit01 xs) (t : Nat) : floorP (sumP (xs.take t)) ≤ ceilP (sumP (xs.take t)) := by
  rw [ceil_iff h]
  have := (floor_iff h t _).1 (Int.le_refl _)
  have e : ((floorP (sumP (xs.take t)) - 1 : Int) : Rat) = (floorP (sumP (xs.take t)) : Rat) - 1 := by rw [Rat.intCast_sub]; rfl
  rw [e]
  grind
theorem ceil_nnT {xs : List Q2} (h : Unit01 xs) (t : Nat) : 0 ≤ ceilP (sumP (xs.take t)) := ceil_nn (h.take t)
theorem gap_le {xs : List Q2} (h : Unit01 xs) (a x : Nat) : ((floorP (sumP (xs.take x)) - ceilP (sumP (xs.take a)) : Int) : Rat) ≤ gT xs x - gT xs a := by
  have f := (floor_iff h x _).1 (Int.le_refl _)
  have c : gT xs a ≤ (ceilP (sumP (xs.take a)) : Rat) := by
    apply Rat.not_lt.1
    intro z
    have := (ceil_iff h a (ceilP (sumP (xs.take a)) + 1)).2 (by rw [show ceilP (sumP (xs.take a)) + 1 - 1 = ceilP (sumP (xs.take a)) by omega]; exact z)
    omega
  rw [Rat.intCast_sub]
  grind
theorem cs_at {xs : List Q2} (f : Q2 → Int) {t : Nat} (h : t < xs.length) : ((gnM xs).map f).getD t 0 = f (sumP (xs.take (t + 1))) := by
  rw [List.getD_eq_getElem?_getD, List.getElem?_map, gnM_at h]
  rfl
theorem cs_len (xs : List Q2) (f : Q2 → Int) : ((gnM xs).map f).length = xs.length := by rw [List.length_map, gnM_len]
/-- how many windows of one field open at a or later and close at x or before -/
theorem win_count {xs : List Q2} (h : Unit01 xs) (pl : Nat) {x a : Nat} (hx : x < xs.length) (ha : a ≤ xs.length) : (winP xs pl).countP (fun w => dl dW x w && decide (a ≤ rW w)) = (floorP (sumP (xs.take (x + 1))) - ceilP (sumP (xs.take a))).toNat := by
  have all : xs.take xs.length = xs := List.take_of_length_le (Nat.le_refl _)
  have cnn : 0 ≤ ceilP (sumP xs) := ceil_nn h
  rw [← count_between (ceilP (sumP xs)).toNat (ceil_nnT h a) (by
    have k1 := floor_up h (show x + 1 ≤ xs.length by omega)
    have k2 := floor_ceil h xs.length
    rw [all] at k1 k2
    omega)]
  unfold winP
  rw [List.countP_map]
  refine List.countP_congr fun j hj => ?_
  have hj := List.mem_range.1 hj
  have m1 : ∀ i j, i ≤ j → j < ((gnM xs).map floorP).length → ((gnM xs).map floorP).getD i 0 ≤ ((gnM xs).map floorP).getD j 0 := fun i j e hj => by
    rw [cs_len] at hj
    rw [cs_at _ hj, cs_at _ (by omega)]
    exact floor_up h (by omega)
  have m2 : ∀ i j, i ≤ j → j < ((gnM xs).map ceilP).length → ((gnM xs).map ceilP).getD i 0 ≤ ((gnM xs).map ceilP).getD j 0 := fun i j e hj => by
    rw [cs_len] at hj
    rw [cs_at _ hj, cs_at _ (by omega)]
    exact ceil_up h (by omega)
  have f1 := firstK_le m1 (by rw [cs_len]; exact hx) ((j : Int) + 1)
  rw [cs_at _ hx] at f1
  simp only [Function.comp_apply, Bool.and_eq_true, decide_eq_true_iff]
  rw [and_comm (a := ceilP _ < _)]
  refine and_congr ?_ ?_
  · rw [dl_iff]
    exact f1
  · show a ≤ (firstK ((gnM xs).map ceilP) ((j : Int) + 1)).getD 0 ↔ _
    have hl : xs.length - 1 < xs.length := by omega
    have f2 := firstK_le m2 (by rw [cs_len]; exact hl) ((j : Int) + 1)
    rw [cs_at _ hl, show xs.length - 1 + 1 = xs.length by omega, all] at f2
    obtain ⟨y, ey, hy⟩ := f2.2 (by omega)
    rw [ey]
    show a ≤ y ↔ _
    cases a with
    | zero =>
      have z : ceilP (sumP (xs.take 0)) = 0 := by rw [List.take_zero]; decide
      rw [z]
      exact ⟨fun _ => by omega, fun _ => Nat.zero_le _⟩
    | succ b =>
      have f3 := firstK_le m2 (by rw [cs_len]; exact (show b < xs.length by omega)) ((j : Int) + 1)
      rw [cs_at _ (by omega), ey] at f3
      constructor
      · intro g
        apply Int.not_le.1
        intro z
        obtain ⟨y', e', hy'⟩ := f3.2 z
        injection e' with e'
        omega
      · intro g
        rcases Nat.lt_or_ge b y with c | c
        · exact c
        · have := f3.1 ⟨y, rfl, c⟩
          omega
end DT

namespace DT
/-! a season: rows of shares that come together to one each -/
structure Season (rss : List (List Q2)) (n : Nat) : Prop where
  len : ∀ r ∈ rss, r.length = n
  unit : ∀ pl, pl < n → Unit01 (colP rss pl)
  one : ∀ r ∈ rss, worth r = 1
theorem colP_len (rss : List (List Q2)) (pl : Nat) : (colP rss pl).length = rss.length := by unfold colP; simp
theorem foldr_rsum (l : List Rat) : l.foldr (· + ·) 0 = rsum l := by
  induction l with
  | nil => rfl
  | cons a l ih => show a + l.foldr (· + ·) 0 = a + rsum l; rw [ih]
theorem rsum_add (f g : Nat → Rat) : ∀ l : List Nat, rsum (l.map fun p => f p + g p) = rsum (l.map f) + rsum (l.map g)
  | [] => by show (0 : Rat) = 0 + 0; grind
  | a :: l => by
    show (f a + g a) + rsum (l.map fun p => f p + g p) = (f a + rsum (l.map f)) + (g a + rsum (l.map g))
    rw [rsum_add f g l]
    grind
theorem rsum_sub (f g : Nat → Rat) : ∀ l : List Nat, rsum (l.map fun p => f p - g p) = rsum (l.map f) - rsum (l.map g)
  | [] => by show (0 : Rat) = 0 - 0; grind
  | a :: l => by
    show (f a - g a) + rsum (l.map fun p => f p - g p) = (f a + rsum (l.map f)) - (g a + rsum (l.map g))
    rw [rsum_sub f g l]
    grind
theorem rsum_zero : ∀ l : List Nat, rsum (l.map fun _ => (0 : Rat)) = 0
  | [] => rfl
  | a :: l => by
    show (0 : Rat) + rsum (l.map fun _ => (0 : Rat)) = 0
    rw [rsum_zero l]
    grind
theorem row_sum {r : List Q2} {n : Nat} (h : r.length = n) : rsum ((List.range n).map fun pl => val (itemP r pl)) = worth r := by
  unfold worth
  congr 1
  apply List.ext_getElem?
  intro i
  rw [List.getElem?_map, List.getElem?_map]
  by_cases hi : i < n
  · rw [List.getElem?_range hi, List.getElem?_eq_getElem (show i < r.length by omega)]
    show some (val (itemP r i)) = some (val r[i])
    unfold itemP
    rw [List.getD_eq_getElem?_getD, List.getElem?_eq_getElem (show i < r.length by omega)]
    rfl
  · rw [List.getElem?_eq_none (by simpa using hi), List.getElem?_eq_none (by omega)]
    rfl
theorem season_sum {rss : List (List Q2)} {n : Nat} (h : Season rss n) : ∀ t, t ≤ rss.length → rsum ((List.range n).map fun pl => gT (colP rss pl) t) = (t : Rat)
  | 0, _ => by
    show rsum ((List.range n).map fun _ => (0 : Rat)) = _
    rw [rsum_zero]
    rfl
  | t + 1, ht => by
    have hr : rss[t]? = some rss[t] := List.getElem?_eq_getElem (by omega)
    have hm := List.mem_of_getElem? hr
    have e : ∀ pl, gT (colP rss pl) (t + 1) = gT (colP rss pl) t + val (itemP rss[t] pl) := fun pl => by
      unfold gT
      rw [List.take_add_one, col_at hr, worth_app]
      show _ + worth [itemP rss[t] pl] = _
      rw [worth_cons]
      show _ + (_ + (0 : Rat)) = _
      grind
    simp only [e]
    rw [rsum_add, season_sum h t (by omega), row_sum (h.len _ hm), h.one _ hm]
    simp
theorem winA_count {rss : List (List Q2)} {n : Nat} (h : Season rss n) {x a : Nat} (hx : x < rss.length) (ha : a ≤ x + 1) : (winA rss n).countP (fun w => dl dW x w && decide (a ≤ rW w)) + a ≤ x + 1 := by
  have e : (winA rss n).countP (fun w => dl dW x w && decide (a ≤ rW w)) = ((List.range n).map fun p => (floorP (sumP ((colP rss p).take (x + 1))) - ceilP (sumP ((colP rss p).take a))).toNat).foldr (· + ·) 0 := by
    unfold winA
    have g : ∀ l : List Nat, (∀ p ∈ l, p < n) → (l.flatMap fun pl => winP (colP rss pl) pl).countP (fun w => dl dW x w && decide (a ≤ rW w)) = (l.map fun p => (floorP (sumP ((colP rss p).take (x + 1))) - ceilP (sumP ((colP rss p).take a))).toNat).foldr (· + ·) 0 := by
      intro l
      induction l with
      | nil => intro _; rfl
      | cons p l ih =>
        intro hl
        rw [List.flatMap_cons, List.countP_append, ih fun q hq => hl q (List.mem_cons_of_mem _ hq), win_count (h.unit p (hl p (by simp))) p (by rw [colP_len]; exact hx) (by rw [colP_len]; omega)]
        rfl
    exact g _ fun p hp => List.mem_range.1 hp
  have s := sum_gap (n := n) (f := fun p => floorP (sumP ((colP rss p).take (x + 1)))) (g := fun p => ceilP (sumP ((colP rss p).take a))) (h := fun p => gT (colP rss p) (x + 1) - gT (colP rss p) a) (c := ((x + 1 : Nat) : Rat) - (a : Rat))
    (fun p hp => gap_le (h.unit p hp) a (x + 1)) (fun p hp => by have := gT_mono (h.unit p hp) ha; grind) (by rw [foldr_rsum, rsum_sub, season_sum h _ (by omega), season_sum h _ (by omega)])
  rw [← e] at s
  have : (((winA rss n).countP (fun w => dl dW x w && decide (a ≤ rW w)) : Nat) : Rat) + (a : Rat) ≤ ((x + 1 : Nat) : Rat) := by
    rw [Rat.intCast_natCast] at s
    grind
  rw [← Rat.natCast_add] at this
  exact Rat.natCast_le_natCast.1 this
theorem ahead_none (n : Nat) : aheadN (fun _ => false) n = n := by
  induction n with
  | zero => rfl
  | succ n ih => show aheadN _ n + _ = _; rw [ih]; rfl
end DT

namespace DT
/-! a field's turns in the plan: between what must and what may have come -/
theorem ceil0 : ceilP (sumP []) = 0 := by decide
theorem winP_low {xs : List Q2} (h : Unit01 xs) (pl : Nat) {x : Nat} (hx : x < xs.length) : (winP xs pl).countP (dl dW x) = (floorP (sumP (xs.take (x + 1)))).toNat := by
  have := win_count h pl hx (Nat.zero_le _)
  rw [List.take_zero, ceil0, Int.sub_zero] at this
  rw [← this]
  refine List.countP_congr fun w _ => ?_
  simp
theorem winP_high {xs : List Q2} (h : Unit01 xs) (pl : Nat) {x : Nat} (hx : x < xs.length) : (winP xs pl).countP (fun w => decide (rW w ≤ x)) = (ceilP (sumP (xs.take (x + 1)))).toNat := by
  have all : xs.take xs.length = xs := List.take_of_length_le (Nat.le_refl _)
  have cnn : 0 ≤ ceilP (sumP xs) := ceil_nn h
  have k1 := ceil_up h (show x + 1 ≤ xs.length by omega)
  rw [all] at k1
  have cb := count_between (ceilP (sumP xs)).toNat (lo := 0) (hi := ceilP (sumP (xs.take (x + 1)))) (Int.le_refl _) (by omega)
  rw [Int.sub_zero] at cb
  rw [← cb]
  unfold winP
  rw [List.countP_map]
  refine List.countP_congr fun j hj => ?_
  have hj := List.mem_range.1 hj
  have m2 : ∀ i j, i ≤ j → j < ((gnM xs).map ceilP).length → ((gnM xs).map ceilP).getD i 0 ≤ ((gnM xs).map ceilP).getD j 0 := fun i j e hj => by
    rw [cs_len] at hj
    rw [cs_at _ hj, cs_at _ (by omega)]
    exact ceil_up h (by omega)
  have hl : xs.length - 1 < xs.length := by omega
  have f2 := firstK_le m2 (by rw [cs_len]; exact hl) ((j : Int) + 1)
  rw [cs_at _ hl, show xs.length - 1 + 1 = xs.length by omega, all] at f2
  obtain ⟨y, ey, hy⟩ := f2.2 (by omega)
  have f3 := firstK_le m2 (by rw [cs_len]; exact hx) ((j : Int) + 1)
  rw [cs_at _ hx, ey] at f3
  simp only [Function.comp_apply, Bool.and_eq_true, decide_eq_true_iff]
  show (firstK ((gnM xs).map ceilP) ((j : Int) + 1)).getD 0 ≤ x ↔ _
  rw [ey]
  show y ≤ x ↔ _
  constructor
  · intro g
    exact ⟨by omega, f3.1 ⟨y, rfl, g⟩⟩
  · rintro ⟨_, g⟩
    obtain ⟨y', e', hy'⟩ := f3.2 g
    injection e' with e'
    omega
theorem winP_place {xs : List Q2} {pl : Nat} : ∀ w ∈ winP xs pl, w.1 = pl := fun w hw => by
  unfold winP at hw
  obtain ⟨j, _, rfl⟩ := List.mem_map.1 hw
  rfl
theorem winA_one {rss : List (List Q2)} {n pl : Nat} (hp : pl < n) (q : Wn → Bool) : (winA rss n).countP (fun w => decide (w.1 = pl) && q w) = (winP (colP rss pl) pl).countP q := by
  have z : ∀ p, p ≠ pl → (winP (colP rss p) p).countP (fun w => decide (w.1 = pl) && q w) = 0 := fun p hne => by
    rw [List.countP_eq_zero]
    intro w hw k
    rw [Bool.and_eq_true, decide_eq_true_iff, winP_place w hw] at k
    exact hne k.1
  have y : (winP (colP rss pl) pl).countP (fun w => decide (w.1 = pl) && q w) = (winP (colP rss pl) pl).countP q := List.countP_congr fun w hw => by
    rw [Bool.and_eq_true, decide_eq_true_iff, winP_place w hw]
    simp
  have g : ∀ m, (winA rss m).countP (fun w => decide (w.1 = pl) && q w) = if pl < m then (winP (colP rss pl) pl).countP q else 0 := fun m => by
    induction m with
    | zero => rfl
    | succ m ih =>
      rw [winA_succ, List.countP_append, ih]
      by_cases c : m = pl
      · subst c
        rw [y, if_neg (Nat.lt_irrefl _), if_pos (Nat.lt_succ_self _), Nat.zero_add]
      · rw [z m c]
        by_cases d : pl < m
        · rw [if_pos d, if_pos (by omega)]; rfl
        · rw [if_neg d, if_neg (by omega)]
  rw [g n, if_pos hp]
theorem winA_sum {rss : List (List Q2)} {n : Nat} (q : Wn → Bool) : (winA rss n).countP q = ((List.range n).map fun p => (winP (colP rss p) p).countP q).foldr (· + ·) 0 := by
  unfold winA
  generalize List.range n = l
  induction l with
  | nil => rfl
  | cons p l ih =>
    rw [List.flatMap_cons, List.countP_append, ih]
    rfl
def hadO (pl : Nat) (os : List (Option Wn)) : Nat := os.countP fun o => o.any fun w => decide (w.1 = pl)
section
variable {rss : List (List Q2)} {n t : Nat} {os : List (Option Wn)} {W : List Wn}
theorem win_rd (h : Season rss n) : ∀ w ∈ winA rss n, ∀ y, dW w = some y → rW w ≤ y := fun w hw y e => by
  unfold winA at hw
  obtain ⟨pl, hp, hw⟩ := List.mem_flatMap.1 hw
  have hu := h.unit pl (List.mem_range.1 hp)
  unfold winP at hw
  obtain ⟨j, hj, rfl⟩ := List.mem_map.1 hw
  have e : firstK ((gnM (colP rss pl)).map floorP) ((j : Int) + 1) = some y := e
  have hy : y < (colP rss pl).length := by
    unfold firstK at e
    have := List.mem_of_find?_eq_some e
    rw [List.mem_range, cs_len] at this
    exact this
  have e2 := e
  unfold firstK at e2
  have k0 := List.find?_some e2
  have k := of_decide_eq_true k0
  rw [cs_at _ hy] at k
  have m2 : ∀ i j, i ≤ j → j < ((gnM (colP rss pl)).map ceilP).length → ((gnM (colP rss pl)).map ceilP).getD i 0 ≤ ((gnM (colP rss pl)).map ceilP).getD j 0 := fun i j e hj => by
    rw [cs_len] at hj
    rw [cs_at _ hj, cs_at _ (by omega)]
    exact ceil_up hu (by omega)
  have f := firstK_le m2 (by rw [cs_len]; exact hy) ((j : Int) + 1)
  rw [cs_at _ hy] at f
  obtain ⟨y', ey, hy'⟩ := f.2 (Int.le_trans k (floor_ceil hu _))
  show (firstK ((gnM (colP rss pl)).map ceilP) ((j : Int) + 1)).getD 0 ≤ y
  rw [ey]
  exact hy'
theorem season_ample (h : Season rss n) : Ample rW dW (fun _ => false) rss.length 0 (winA rss n) := Ample.start (fun x a hx ha => by
  rw [ahead_none, ahead_none]
  exact winA_count h hx (by omega)) (win_rd h)
/-- what a field has had by the end of an hour lies between -/
theorem had_between (h : Season rss n) (p : PlanTo rW dW (fun _ => false) rss.length (winA rss n) (t + 1) os W) (ht : t < rss.length) {pl : Nat} (hp : pl < n) : floorP (sumP ((colP rss pl).take (t + 1))) ≤ (hadO pl os : Int) ∧ (hadO pl os : Int) ≤ ceilP (sumP ((colP rss pl).take (t + 1))) := by
  have l := p.low (season_ample h) ht (fun w => decide (w.1 = pl))
  have u := p.high (fun w => decide (w.1 = pl))
  rw [winA_one hp] at l u
  have hx : t < (colP rss pl).length := by rw [colP_len]; exact ht
  rw [winP_low (h.unit pl hp) pl hx] at l
  rw [winP_high (h.unit pl hp) pl hx] at u
  have c := ceil_nnT (h.unit pl hp) (t + 1)
  have l : (floorP (sumP ((colP rss pl).take (t + 1)))).toNat ≤ hadO pl os := l
  have u : hadO pl os ≤ (ceilP (sumP ((colP rss pl).take (t + 1)))).toNat := u
  omega
/-- no hour is idle -/
theorem never_idle (h : Season rss n) (p : PlanTo rW dW (fun _ => false) rss.length (winA rss n) t os W) (ht : t < rss.length) : ∃ s ∈ W, rW s ≤ t := by
  apply Classical.byContradiction
  intro no
  have f : ∀ s ∈ W, t < rW s := fun s hs => by
    apply Nat.lt_of_not_le
    intro k
    exact no ⟨s, hs, k⟩
  have e := p.idle (Hour.idle rfl f) rfl (fun _ => true)
  have le : os.countP (fun o => o.any fun _ => true) ≤ t := by
    rw [← p.len]
    exact List.countP_le_length
  rw [e] at le
  have e3 : (winA rss n).countP (fun s => true && decide (rW s ≤ t)) = ((List.range n).map fun p => (ceilP (sumP ((colP rss p).take (t + 1)))).toNat).foldr (· + ·) 0 := by
    rw [winA_sum]
    congr 1
    refine List.map_congr_left fun p hp => ?_
    have := winP_high (h.unit p (List.mem_range.1 hp)) p (by rw [colP_len]; exact ht)
    simpa using this
  rw [e3] at le
  have ge : ∀ l : List Nat, (∀ p ∈ l, p < n) → rsum (l.map fun p => gT (colP rss p) (t + 1)) ≤ (((l.map fun p => (ceilP (sumP ((colP rss p).take (t + 1)))).toNat).foldr (· + ·) 0 : Nat) : Rat) := by
    intro l
    induction l with
    | nil => intro _; show (0 : Rat) ≤ ((0 : Nat) : Rat); simp
    | cons p l ih =>
      intro hl
      have i1 := ih fun q hq => hl q (List.mem_cons_of_mem _ hq)
      have hu := h.unit p (hl p (by simp))
      have c := gap_le hu (t + 1) (t + 1)
      have cc : gT (colP rss p) (t + 1) ≤ (ceilP (sumP ((colP rss p).take (t + 1))) : Rat) := by
        apply Rat.not_lt.1
        intro z
        have := (ceil_iff hu (t + 1) (ceilP (sumP ((colP rss p).take (t + 1))) + 1)).2 (by rw [show ceilP (sumP ((colP rss p).take (t + 1))) + 1 - 1 = ceilP (sumP ((colP rss p).take (t + 1))) by omega]; exact z)
        omega
      have nn := ceil_nnT hu (t + 1)
      have ct : (((ceilP (sumP ((colP rss p).take (t + 1)))).toNat : Nat) : Rat) = (ceilP (sumP ((colP rss p).take (t + 1))) : Rat) := by
        rw [← Rat.intCast_natCast, Int.toNat_of_nonneg nn]
      simp only [List.map_cons, List.foldr_cons]
      rw [Rat.natCast_add, ct]
      show gT (colP rss p) (t + 1) + rsum (l.map fun p => gT (colP rss p) (t + 1)) ≤ _
      grind
  have g := ge (List.range n) fun p hp => List.mem_range.1 hp
  rw [season_sum h _ (by omega)] at g
  have := Rat.natCast_le_natCast.1 g
  omega
end
end DT

namespace DT
/-! a stretch that is too full: how it is looked for -/
def hitR (A : Nat → Nat) (a : Nat) : Nat → List (Nat × Nat) → Option Nat
  | _, [] => none
  | w, (l, f) :: r => if a ≤ f then (if (A (l + 1) : Int) - A a < (w : Int) + 1 then some l else hitR A a (w + 1) r) else hitR A a w r
theorem hit_none {A : Nat → Nat} (mono : ∀ i j, i ≤ j → A i ≤ A j) {a : Nat} (x : Nat) : ∀ (L : List (Nat × Nat)) (w : Nat), L.Pairwise (fun p q => p.1 ≤ q.1) → hitR A a w L = none → L.countP (fun p => decide (p.1 ≤ x) && decide (a ≤ p.2)) = 0 ∨ L.countP (fun p => decide (p.1 ≤ x) && decide (a ≤ p.2)) + w + A a ≤ A (x + 1)
  | [], _, _, _ => .inl rfl
  | (l, f) :: r, w, so, h => by
    obtain ⟨s1, s2⟩ := List.pairwise_cons.1 so
    by_cases hl : l ≤ x
    · unfold hitR at h
      rw [List.countP_cons]
      by_cases hf : a ≤ f
      · rw [if_pos hf] at h
        by_cases hc : (A (l + 1) : Int) - A a < (w : Int) + 1
        · rw [if_pos hc] at h; cases h
        · rw [if_neg hc] at h
          have m := mono (l + 1) (x + 1) (by omega)
          have ih := hit_none mono x r (w + 1) s2 h
          rw [if_pos (by simp [hl, hf])]
          right
          rcases ih with z | z
          · rw [z]; omega
          · omega
      · rw [if_neg hf] at h
        have ih := hit_none mono x r w s2 h
        rw [if_neg (by simp [hf])]
        exact ih
    · left
      rw [List.countP_eq_zero]
      intro p hp k
      rw [Bool.and_eq_true, decide_eq_true_iff] at k
      rcases List.mem_cons.1 hp with rfl | hp
      · exact hl k.1
      · have := s1 p hp
        omega
theorem hit_some {A : Nat → Nat} {a l : Nat} : ∀ (L : List (Nat × Nat)) (w : Nat), L.Pairwise (fun p q => p.1 ≤ q.1) → hitR A a w L = some l → ((A (l + 1) : Int) - A a < (w + L.countP (fun p => decide (p.1 ≤ l) && decide (a ≤ p.2)) : Nat)) ∧ ∃ f, (l, f) ∈ L ∧ a ≤ f
  | [], _, _, h => by cases h
  | (l', f) :: r, w, so, h => by
    obtain ⟨s1, s2⟩ := List.pairwise_cons.1 so
    unfold hitR at h
    rw [List.countP_cons]
    by_cases hf : a ≤ f
    · rw [if_pos hf] at h
      by_cases hc : (A (l' + 1) : Int) - A a < (w : Int) + 1
      · rw [if_pos hc] at h
        injection h with h
        subst h
        refine ⟨?_, f, by simp, hf⟩
        rw [if_pos (by simp [hf])]
        omega
      · rw [if_neg hc] at h
        obtain ⟨i1, f', hm, hf'⟩ := hit_some r (w + 1) s2 h
        refine ⟨?_, f', List.mem_cons_of_mem _ hm, hf'⟩
        have := s1 _ hm
        rw [if_pos (by simp [hf]; exact this)]
        omega
    · rw [if_neg hf] at h
      obtain ⟨i1, f', hm, hf'⟩ := hit_some r w s2 h
      refine ⟨?_, f', List.mem_cons_of_mem _ hm, hf'⟩
      rw [if_neg (by simp [hf])]
      exact i1
/-- the first start from which a stretch is too full -/
def crowdP (A : Nat → Nat) (L : List (Nat × Nat)) : List Nat → Option (Nat × Nat)
  | [] => none
  | a :: as => match hitR A a 0 L with
    | some l => some (a, l)
    | none => crowdP A L as
theorem crowd_none {A : Nat → Nat} {L : List (Nat × Nat)} : ∀ as : List Nat, crowdP A L as = none → ∀ a ∈ as, hitR A a 0 L = none
  | [], _, _, h => nomatch h
  | b :: as, e, a, h => by
    unfold crowdP at e
    cases c : hitR A b 0 L with
    | some l => rw [c] at e; cases e
    | none =>
      rw [c] at e
      rcases List.mem_cons.1 h with rfl | h
      · exact c
      · exact crowd_none as e a h
theorem crowd_some {A : Nat → Nat} {L : List (Nat × Nat)} {a l : Nat} : ∀ as : List Nat, crowdP A L as = some (a, l) → a ∈ as ∧ hitR A a 0 L = some l
  | [], h => by cases h
  | b :: as, e => by
    unfold crowdP at e
    cases c : hitR A b 0 L with
    | some l' =>
      rw [c] at e
      injection e with e
      injection e with e1 e2
      subst e1
      subst e2
      exact ⟨by simp, c⟩
    | none =>
      rw [c] at e
      obtain ⟨h1, h2⟩ := crowd_some as e
      exact ⟨List.mem_cons_of_mem _ h1, h2⟩
end DT

namespace DT
/-! no full stretch: room for all -/
def closeL (ws : List Wn) : List (Nat × Nat) := ws.filterMap fun w => (dW w).map fun y => (y, rW w)
theorem close_count (x a : Nat) : ∀ ws : List Wn, ws.countP (fun w => dl dW x w && decide (a ≤ rW w)) = (closeL ws).countP (fun p => decide (p.1 ≤ x) && decide (a ≤ p.2))
  | [] => rfl
  | w :: ws => by
    rw [List.countP_cons, close_count x a ws]
    unfold closeL
    rw [List.filterMap_cons]
    cases e : dW w with
    | none =>
      have : dl dW x w = false := by unfold dl; rw [e]
      rw [this]
      simp
    | some y =>
      have : dl dW x w = decide (y ≤ x) := by unfold dl; rw [e]
      rw [this]
      simp only [Option.map_some]
      rw [List.countP_cons]
theorem ample_of {rss : List (List Q2)} {n : Nat} {lost : Nat → Bool} {L : List (Nat × Nat)} (h : Season rss n) (pm : L.Perm (closeL (winA rss n))) (so : L.Pairwise (fun p q => p.1 ≤ q.1)) (no : crowdP (aheadN lost) L (List.range rss.length) = none) : Ample rW dW lost rss.length 0 (winA rss n) := Ample.start (fun x a hx ha => by
  have m := ahead_le lost (show a ≤ x + 1 by omega)
  have k := hit_none (fun i j e => ahead_le lost e) x L 0 so (crowd_none _ no a (List.mem_range.2 (by omega)))
  rw [close_count, ← pm.countP_eq]
  omega) (win_rd h)
theorem had_betweenL {rss : List (List Q2)} {n t : Nat} {lost : Nat → Bool} {os : List (Option Wn)} {W : List Wn} (h : Season rss n) (am : Ample rW dW lost rss.length 0 (winA rss n)) (p : PlanTo rW dW lost rss.length (winA rss n) (t + 1) os W) (ht : t < rss.length) {pl : Nat} (hp : pl < n) : floorP (sumP ((colP rss pl).take (t + 1))) ≤ (hadO pl os : Int) ∧ (hadO pl os : Int) ≤ ceilP (sumP ((colP rss pl).take (t + 1))) := by
  have l := p.low am ht (fun w => decide (w.1 = pl))
  have u := p.high (fun w => decide (w.1 = pl))
  rw [winA_one hp] at l u
  have hx : t < (colP rss pl).length := by rw [colP_len]; exact ht
  rw [winP_low (h.unit pl hp) pl hx] at l
  rw [winP_high (h.unit pl hp) pl hx] at u
  have c := ceil_nnT (h.unit pl hp) (t + 1)
  have l : (floorP (sumP ((colP rss pl).take (t + 1)))).toNat ≤ hadO pl os := l
  have u : hadO pl os ≤ (ceilP (sumP ((colP rss pl).take (t + 1)))).toNat := u
  omega
/-- where an open hour is idle, each field has had all that may have come -/
theorem had_all {rss : List (List Q2)} {n t : Nat} {lost : Nat → Bool} {os : List (Option Wn)} {W : List Wn} (h : Season rss n) (p : PlanTo rW dW lost rss.length (winA rss n) t os W) (g : Hour rW dW lost rss.length t W none W) (e : lost t = false) (ht : t < rss.length) {pl : Nat} (hp : pl < n) : (hadO pl os : Int) = ceilP (sumP ((colP rss pl).take (t + 1))) := by
  have u := p.idle g e (fun w => decide (w.1 = pl))
  rw [winA_one hp, winP_high (h.unit pl hp) pl (by rw [colP_len]; exact ht)] at u
  have c := ceil_nnT (h.unit pl hp) (t + 1)
  have u : hadO pl os = (ceilP (sumP ((colP rss pl).take (t + 1)))).toNat := u
  omega
/-- fewer hours lost: no full stretch comes -/
theorem crowd_fewer {A B : Nat → Nat} {L : List (Nat × Nat)} {as : List Nat} (so : L.Pairwise (fun p q => p.1 ≤ q.1)) (rd : ∀ p ∈ L, p.2 ≤ p.1) (mA : ∀ i j, i ≤ j → A i ≤ A j) (mB : ∀ i j, i ≤ j → B i ≤ B j) (more : ∀ i j, i ≤ j → A j - A i ≤ B j - B i) (no : crowdP A L as = none) : crowdP B L as = none := by
  cases e : crowdP B L as with
  | none => rfl
  | some q =>
    obtain ⟨a, l⟩ := q
    obtain ⟨ha, hb⟩ := crowd_some as e
    obtain ⟨c1, f, hm, hf⟩ := hit_some L 0 so hb
    have al : a ≤ l := Nat.le_trans hf (rd _ hm)
    have k := hit_none mA l L 0 so (crowd_none as no a ha)
    have m1 := mA a (l + 1) (by omega)
    have m2 := mB a (l + 1) (by omega)
    have m3 := more a (l + 1) (by omega)
    rcases k with k | k
    · rw [k] at c1; omega
    · omega
end DT

namespace LamK
open PySem PySem.Spec PyProof.Rows L2 LamX NdefX
/-! min(xs, key=lambda x: ..), the lambda with captured names -/
def refO : V → Value
  | .ref a => .ref a
  | _ => .none
theorem vals_refs : ∀ {us : List V} {its : List Value}, Vals us its → (∀ u ∈ us, ∃ a, u = V.ref a) → its = us.map refO
  | [], _, .nil, _ => rfl
  | u :: us, i :: its, .cons r t, h => by
    obtain ⟨a, rfl⟩ := h u (by simp)
    obtain rfl : i = Value.ref a := r
    rw [vals_refs t fun z hz => h z (by simp [hz])]
    rfl
/-- a lambda's words as a nested def's -/
abbrev lamF (q : Str) (params : Arguments) (scope : Scope) (cl : List (Str × Addr)) (c : Addr) : NF := ⟨"<lambda>", q, params, [], scope, cl, c⟩
section
variable {P : Program} {w : World} {K : PySem.W.Frag} {mg : Str → Option Value} {base : Heap} {N ps fr : List Str}
/-- a lambda is called -/
theorem run_lam {k : Nat} {A : Around} {outer : List Env} {s : Shared} {H : Hp} {f c' : Addr} {pm ctv : Value} {params : Arguments} {body : Expr} {scope : Scope} {q : Str} {cl : List (Str × Addr)} {us : List Value} {vs : List V} {ws : List (Option V)} {Q : VK} {tb : TE}
    (S : NScope N ps fr scope) (hb : bindArgs (PySem.W.kla_fn "<lambda>" q params body scope cl pm (.ref c') ctv) ⟨us, []⟩ = pure (ps.zip us)) (hr : Room (k + 1) A) (e0 : Env0 P w K mg base A outer s H)
    (ho : s.heap.get? f = some (PySem.W.kla_obj "<lambda>" q params body scope cl pm c' ctv)) (hc : H c' = some (CodeO c' q)) (C : CellsAt cl fr ws s.heap H) (r : Vals vs us) (hl : vs.length = ps.length)
    (hbody : PE (ncx C8.CX0 P w K mg base N (lamF q params scope cl c') f A outer s H C8.E0) body tb) (ht : tb (startF N vs ws) H Q) :
    codeAny (model P w) A (.call (.ref f) ⟨us, []⟩) (CR C8.CX0 outer P w H s Q C8.E0) s := by
  have lim : s.heap.NoLimit := e0.mod.nolimit.keeps fun b o e => (e0.bs b o e).1
  refine PySem.W.kla_callFunE hr.depth ho rfl S.co S.gen rfl (codeO_at e0.hok hc) ?_
  rw [hb]
  refine wpAny_pure (wpAny_newFunctionEnv S.nocell (fun ⟨n, _⟩ hy => S.par n (List.of_mem_zip hy).1) (fun h₁ hns hsb => ⟨lim.fresh _ hsb, ?_⟩) S.kind)
  show codeAny _ _ (.expr body (envF (lamF q params scope cl c') f s.heap.objs.size)) _ _
  have kp : ∀ b o, s.heap.get? b = some o → h₁.get? b = some o := fun b o e => hsb.extBut b o (Nat.ne_of_lt (Heap.lt_size e)) (Heap.get?_push_of_some _ e)
  have I : Inv (ncx C8.CX0 P w K mg base N (lamF q params scope cl c') f A outer s H C8.E0) [] (startF N vs ws) H { s with heap := h₁, toks := s.toks + (ps.zip us).length } := inv_startN S hr.hd e0 hl r C hns kp
  refine PySem.W.kla_codeExpr (wpAny_mono (hbody.run [] _ _ H Q I ht) (fun v s' hq => ?_) fun e s' hs => hs)
  obtain ⟨w', H', J, rv, q⟩ := hq
  exact ⟨w', H', J.os, J.bare, J.base, J.hok, rv, q⟩
end
section
variable {X : Cx} {pins : List (Addr × Obj)} {σ : L2.St} {H : Hp} {s : Shared}
theorem min_lam {k : Nat} {N ps fr : List Str} {js : List Nat} {f c' l : Addr} {pm ctv : Value} {params : Arguments} {body : Expr} {scope : Scope} {q : Str} {cl : List (Str × Addr)} {us : List V} {tb : TE} {kf : Nat → Int} {E : Value → Shared → Prop} {Q : Value → Shared → Prop}
    (hh : X.A.handled = none) (S : NScope N [ps.headD ""] fr scope) (hb : ∀ u, bindArgs (PySem.W.kla_fn "<lambda>" q params body scope cl pm (.ref c') ctv) ⟨[u], []⟩ = pure ([ps.headD ""].zip [u])) (hr : Room (k + 2) X.A) (I : Inv X pins σ H s)
    (ho : s.heap.get? f = some (PySem.W.kla_obj "<lambda>" q params body scope cl pm c' ctv)) (hfn : H f = none) (hfr : f ∉ frs X.stack) (hc : H c' = some (CodeO c' q)) (cp : Caps X cl fr js)
    (hl : H l = some (.lst us)) (href : ∀ u ∈ us, ∃ a, u = V.ref a) (hne : 0 < us.length)
    (hbody : ∀ (A : Around) (outer : List Env) (s : Shared) (H : Hp), Room k (A.deeper (envF (lamF q params scope cl c') f s.heap.objs.size)) → PE (ncx C8.CX0 X.prog X.w X.K X.mg X.base N (lamF q params scope cl c') f A outer s H C8.E0) body tb)
    (turn : ∀ (i : Nat) (u : V), us[i]? = some u → tb (startF N [u] (js.map (slotAt σ))) H (fun v H' => v = .int (kf i) ∧ H' = H))
    (hQ : ∀ (i : Nat) (u : V) (s' : Shared), us[i]? = some u → (∀ j, j < us.length → kf i ≤ kf j) → Inv X pins σ H s' → Q (refO u) s') :
    wpAny (model X.prog X.w) X.A (call (.builtin "min") [.ref l] [(Str.ofString "key", .ref f)]) Q E s := by
  have lst : ∀ s', Inv X pins σ H s' → s'.heap.IsList l (us.map refO).toArray := fun s' I' => by
    obtain ⟨its, rv, pl, _⟩ := I'.list (SqL.of hl)
    rw [← vals_refs rv href]
    exact pl.isList
  have hL0 := lst s I
  refine PySem.call_min_walkK (wpAny_pyIter_list hL0 ?_)
  have hll : l < s.heap.objs.size := by obtain ⟨o, e, _⟩ := hL0; exact Heap.lt_size e
  have nI : l ≠ s.heap.objs.size := Nat.ne_of_lt hll
  have hs2 : (s.heap.push { cls := .type "list_iterator", data := .fields #[.ref l, .int 0 0] }).objs.size = s.heap.objs.size + 1 := Heap.size_push ..
  have fI : FpOk X pins H s.heap.objs.size := I.fpOk (Nat.le_refl _) (I.hok.fresh (Nat.le_refl _))
  have fS : FpOk X pins H (s.heap.objs.size + 1) := I.fpOk (Nat.le_succ _) (I.hok.fresh (Nat.le_succ _))
  have fl : f < s.heap.objs.size := Heap.lt_size ho
  have W := (Walks.list (prog := X.prog) (w := X.w) (A := X.A.in1) hh s.heap.objs.size l nI (us.map refO).toArray).toS
  have hn : (us.map refO).toArray.size = us.length := by simp
  have stayI : ∀ {wr : List Addr} {s1 s2 : Shared}, (∀ b ∈ wr, b = s.heap.objs.size ∨ b = s.heap.objs.size + 1) → Inv X pins σ H s1 → Moved wr (fun a b => b = a) s1 s2 → Inv X pins σ H s2 := fun {wr s1 s2} hwr I1 m => by
    rw [Moved.eq_with m]
    exact I1.turnedL (t' := s2.toks) (ch := wr) m.heap fun b hb => by
      rcases hwr b hb with rfl | rfl
      · exact fI
      · exact fS
  have wr2 : ∀ b ∈ (s.heap.push { cls := .type "list_iterator", data := .fields #[.ref l, .int 0 0] }).objs.size :: [s.heap.objs.size], b = s.heap.objs.size ∨ b = s.heap.objs.size + 1 := fun b hb => by
    rcases List.mem_cons.1 hb with rfl | hb
    · exact .inr hs2
    · exact .inl (List.mem_singleton.1 hb)
  refine ⟨s.heap.objs.size, _, _, _, _, _, _, fun s' => Inv X pins σ H s' ∧ s'.heap.get? f = some (PySem.W.kla_obj "<lambda>" q params body scope cl pm c' ctv), fun i v _ => ∃ t, v = Value.int (kf i) t, fun i j => decide (kf i < kf j), rfl, W, ⟨⟨_, Heap.get?_push_size _ rfl, rfl, rfl⟩, hL0.push _⟩, fun b hb => ?_, by rw [hn]; exact hne, ⟨?_, ?_, ?_, ?_⟩, ⟨I.kept (t' := s.toks) fun b o e => Heap.get?_push_of_some _ e, Heap.get?_push_of_some _ ho⟩, fun v s' hP hJ => ?_⟩
  · show b < (s.heap.push _).objs.size
    rw [hs2]
    rcases List.mem_cons.1 hb with rfl | hb
    · exact Nat.lt_succ_self _
    · rw [List.mem_singleton.1 hb]; exact Nat.lt_succ_of_lt hll
  · rintro s1 s2 ⟨I1, f1⟩ m
    refine ⟨stayI wr2 I1 m, m.heap _ _ (fun z => ?_) f1⟩
    rcases wr2 f z with e | e
    · rw [e] at fl; exact Nat.lt_irrefl _ fl
    · rw [e] at fl; exact absurd (Nat.lt_of_succ_lt fl) (Nat.lt_irrefl _)
  · intro i kv s1 s2 h _
    exact h
  · rintro i v s1 o Q1 E1 hi hP ⟨I1, f1⟩ hst hS hk
    have hv : (us.map refO)[i]? = some v := by simpa using hP
    rw [List.getElem?_map] at hv
    cases eu : us[i]? with
    | none => rw [eu] at hv; cases hv
    | some u =>
      rw [eu] at hv
      obtain rfl : refO u = v := Option.some.inj hv
      obtain ⟨a, rfl⟩ := href u (List.mem_of_getElem? eu)
      have hr1 : Room (k + 1) X.A.in1 := hr.in1
      have C := cells_of I1 cp
      refine wpAny_call (codeAny_mono (run_lam S (hb _) hr1 I1.env0.in1 f1 hc C (show Vals [V.ref a] [Value.ref a] from .cons rfl .nil) rfl (hbody _ _ s1 H (hr1.deeper _)) (turn i _ eu)) fun r s2 hq => ?_)
      cases r with
      | error e => exact hq.elim
      | ok fl =>
        cases fl with
        | next => exact False.elim hq
        | brk => exact False.elim hq
        | cont => exact False.elim hq
        | ret u2 =>
          obtain ⟨v2, H2, os, bare, un, hok, rv2, ev, eH⟩ := id hq
          rw [eH] at un hok
          have I2 : L2.Inv X pins σ H s2 := by
            obtain ⟨_, _, I2, _, _, eH⟩ := I1.after hq
            rw [eH] at I2
            exact I2
          rw [ev] at rv2
          have keepN : ∀ b ob, H b = none → b ∉ frs X.stack → s1.heap.get? b = some ob → s2.heap.get? b = some ob := fun b ob e1 e2 e => un.keep b ob e e1 e2 (by simp)
          have nfr : ∀ b, s.heap.objs.size ≤ b → b ∉ frs X.stack := fun b hb z => by
            rcases List.mem_cons.mp (I.stkSub _ z) with e | e
            · have h1 := I.lt
              rw [← e] at h1
              exact Nat.lt_irrefl _ (Nat.lt_of_lt_of_le h1 hb)
            · exact I.nofs hb e
          refine hk u2 s2 ⟨I2, keepN _ _ hfn hfr f1⟩ ⟨hst.1.at fun o e => keepN _ _ fI.1 (nfr _ (Nat.le_refl _)) e, lst s2 I2⟩ (keepN _ _ ?_ (nfr _ ?_) hS) rv2 fun j k' h => h
          · rw [hs2]; exact fS.1
          · rw [hs2]; exact Nat.le_succ _
  · rintro i j ki kj s1 Q1 E1 _ h1 h2 hq
    exact CmpOf.ints_lt (prog := X.prog) (w := X.w) (A := X.A.in1) (P := fun i v => ∃ t, v = .int (kf i) t) kf (fun i v h => h) i j _ _ _ _ _ h1 h2 hq
  · obtain ⟨lb, ll⟩ := argBest_lt kf ((us.map refO).toArray.size - 1)
    have hv : (us.map refO)[argBest (fun i j => decide (kf i < kf j)) ((us.map refO).toArray.size - 1)]? = some v := by simpa using hP
    rw [List.getElem?_map] at hv
    cases eu : us[argBest (fun i j => decide (kf i < kf j)) ((us.map refO).toArray.size - 1)]? with
    | none => rw [eu] at hv; cases hv
    | some u =>
      rw [eu] at hv
      obtain rfl : refO u = v := Option.some.inj hv
      exact hQ _ u s' eu (fun j hj => ll j (by rw [hn]; omega)) hJ.1
end
end LamK
namespace LamK
open PySem PySem.Spec PyProof.Rows L2 LamX NdefX
/-- min(xs, key=lambda x: ..): xs a list of things by address; kf: what the lambda tells of each -/
def tMinKey (T : List (Addr × Str)) (N : List Str) (js : List Nat) (t : TA) (tb : TE) : TE := fun σ H Q => t σ H fun vs H1 => Tabs T H1 ∧ ∃ (l : Addr) (us : List V), vs = [.ref l] ∧ H1 l = some (.lst us) ∧ (∀ u ∈ us, ∃ a, u = V.ref a) ∧ 0 < us.length ∧
  ∀ H2, ExtN H1 H2 → Tabs T H2 → ∃ kf : Nat → Int, (∀ (i : Nat) (u : V), us[i]? = some u → tb (startF N [u] (js.map (slotAt σ))) H2 (fun v H' => v = .int (kf i) ∧ H' = H2)) ∧
    ∀ (i : Nat) (u : V), us[i]? = some u → (∀ j, j < us.length → kf i ≤ kf j) → Q u H2
section
variable {X : Cx}
theorem pe_minKey {T : List (Addr × Str)} {k : Nat} {N fr : List Str} {a : Str} {js : List Nat} {c P : Addr} {params : Arguments} {body : Expr} {scope : Scope} {t : TA} {tb : TE} {e : Expr} {p pos lpos kpos : Pos}
    (TB : TabB X.base X.mg c P) (hcode : X.env.code = .ref c) (hmT : (P, X.env.qual ++ "<lambda>") ∈ T) (hu : ∀ p ∈ T, p.1 = P → p.2 = X.env.qual ++ "<lambda>") (hr : Room (k + 2) X.A)
    (S : NScope N [a] fr scope) (hfree : ∀ y ∈ scope.names, y.2 = .free → X.env.scope.names.lookup y.1 = some .cell ∨ X.env.scope.names.lookup y.1 = some .free) (hfr0 : ∀ y ∈ fr, (y, NameKind.free) ∈ scope.names) (hjs : js.map (fun j => X.N[j]?) = fr.map some)
    (hdef : defaultsOf params X.env = ([], [])) (hb : ∀ (q : Str) (cl : List (Str × Addr)) (pm cv ctv u : Value), bindArgs (PySem.W.kla_fn "<lambda>" q params body scope cl pm cv ctv) ⟨[u], []⟩ = pure ([a].zip [u]))
    (hg : Gl X "min") (hm : X.mg "min" = none) (ha : PA X [e] t)
    (hbody : ∀ (q : Str) (cl : List (Str × Addr)) (f c' : Addr) (A : Around) (outer : List Env) (s : Shared) (H : Hp), Room k (A.deeper (envF (lamF q params scope cl c') f s.heap.objs.size)) → PE (ncx C8.CX0 X.prog X.w X.K X.mg X.base N (lamF q params scope cl c') f A outer s H C8.E0) body tb)
    (he : backTo pos (starEach [e] X.env) = (false, eval e X.env) :: backTo pos (starEach [] X.env) := by rfl) (hpl : (backTo pos (starEach [e] X.env)).any (·.1) = false := by rfl) :
    PE X (.Call (.Name "min" p) [e] [⟨some "key", .Lambda params body scope lpos, kpos⟩] pos) (tMinKey T N js t tb) := by
  refine ⟨fun pins s σ H Q I h => ?_⟩
  have hfr1 : ∀ y ∈ scope.names, y.2 = .free → ∃ c, X.env.cells.lookup y.1 = some c := fun y hy e => (hfree y hy e).elim (fun z => I.ok.has _ (.inl z)) fun z => I.ok.has _ (.inr z)
  refine wpAny_Call_Name_kw (ld_blt I hg hm (show bootBuiltins "min" = some (.builtin "min") by decide +kernel) ?_ (by decide) (by decide))
  refine PyProof.Rows.callWith_kw (thn (ha.run pos pins s σ H _ I h) fun us s1 ⟨vs, H1, I1, r1, q1⟩ => ?_) he hpl (by rfl) (by rfl)
  obtain ⟨hT, l, xs, rfl, hl, href, hne, q2⟩ := q1
  obtain rfl := Vals.ref1 r1
  show wpAny _ _ (evalAll [do let v ← eval (.Lambda params body scope lpos) X.env; standAt pos; pure v]) _ _ s1
  refine wpAny_evalAll_cons (wpAny_bind (lam_make2 I1 TB hcode hmT hu hT hdef hfr1 fun f c' pm ctv H2 s2 I2 eN T2 hf hfn hfr hco => wpAny_bind (wpAny_standAt (wpAny_pure ?_))))
  refine wpAny_evalAll_nil ?_
  obtain ⟨kf, q3, q4⟩ := q2 H2 eN T2
  have hl2 : H2 l = some (.lst xs) := eN _ _ hl fun ps z => by cases z
  refine min_lam (ps := [a]) (fr := fr) (js := js) (kf := kf) hr.hd S (fun u => hb _ _ _ _ _ u) hr I2 hf hfn hfr hco (Caps.made I2.ok hfree hfr0 hjs) hl2 href hne (fun A outer s H hr => hbody _ _ _ _ A outer s H hr) q3 fun i u s' hu hle I3 => ?_
  exact ⟨u, H2, I3, by
    obtain ⟨a', rfl⟩ := href u (List.mem_of_getElem? hu)
    rfl, q4 i u hu hle⟩
end
end LamK
namespace LamK
open PySem PySem.Spec PyProof.Rows L2 TL
/-- a def by its body, its code object told -/
theorem fun_okC {P : Program} {w : World} {K : PySem.W.Frag} {mg : Str → Option Value} {base : Heap} {x qual : Str} {st : Stmt} {f c : Addr} {fd : FuncData} {N ps : List Str} {k : Nat} {sp : Sp} (F : Fun K x qual st f fd) (ec : fd.code = .ref c) (S : FnScope N ps (defScope st)) (len : ∀ vs H Q E, sp vs H Q E → vs.length = ps.length)
    (hbody : ∀ (A : Around) (outer : List Env) (s : Shared) (H : Hp) (vs : List V) (Q : VK) (E : XK), Room k (A.deeper (envOfC qual (defScope st) s.heap.objs.size f (.ref c))) → sp vs H Q E →
      ∃ t, PSs (cxOf CX0 P w K mg base N qual (defScope st) f (.ref c) A outer s H E).nox (defBody st) t ∧ t { nx := fun _ H' => Q .non H', rt := Q } (start N vs) H) : FnOk P w K mg base CX0 (k + 1) f fd ps sp := by
  obtain ⟨oc, od, kV, doc, pm, an, cdv, ct, osl, rfl, lk, hcd⟩ := F.ex
  obtain rfl : cdv = .ref c := ec
  refine fn_of lk hcd S len fun A outer s H vs Q E hr hsp => ?_
  obtain ⟨t, h, q⟩ := hbody A outer s H vs Q E hr hsp
  exact ⟨t, h.nox, q⟩
end LamK

namespace DT
open PySem PySem.Spec PyProof.Rows L2
/-! ### list.remove of anything told as data -/
theorem mt_removeD {X : Cx} (hu : X.A.units + 65 < cLine) : MtM X "list.remove" (fun x xs H Q => ∃ (l : Addr) (us : List V) (v : V) (d : PyData) (ds : List PyData) (j : Nat), x = .ref l ∧ xs = [v] ∧ H l = some (.lst us) ∧ DpAll X.K H us ds ∧ Dp X.K H v d ∧ PyData.plainAll ds = true ∧ d.plain = true ∧ d.depth ≤ 8 ∧ PySem.SeqAt.dataPlace ds d = some j ∧ Q .non (upd H l (.lst (us.eraseIdx j)))) := by
  intro pins s σ H x xs v us Q I rx rxs h
  obtain ⟨l, zs, z, d, ds, j, rfl, rfl, hH, hds, hd, pds, pd, dd, hj, q⟩ := h
  cases rx
  obtain ⟨u, rfl, ru⟩ := rxs.one
  obtain ⟨small, its, n, r, hl, e⟩ := I.lstM hH
  obtain ⟨as, rs⟩ := Dp.readsAll I ds zs its hds r
  obtain ⟨bs, rd⟩ := Dp.reads I d z u hd ru
  have hit : s.heap.IsList l its.toArray := ⟨_, e, rfl, n, rfl⟩
  have re := r.eraseIdx j
  refine PySem.SeqAt.remove_list_data hit (by simpa using rs) rd pds pd ?_ hj (by rw [List.size_toArray]; omega) ⟨.non, _, I.lset (its' := its.eraseIdx j) (t' := s.toks) hH e ?_ re ?_, rfl, q⟩
  · have : min (PyData.depthAll ds) d.depth ≤ 8 := Nat.le_trans (Nat.min_le_right _ _) dd
    omega
  · show its.toArray.eraseIdxIfInBounds j = (its.eraseIdx j).toArray
    rw [List.eraseIdxIfInBounds_toArray]
  · have := List.length_eraseIdx_le zs j
    omega
end DT
namespace DT
open PySem PySem.Spec PyProof.Rows L2
theorem unit65 {k : Nat} {A : Around} (hr : Room k A) : A.units + 65 < cLine := by
  have := hr.un
  omega
end DT

namespace DT
open PySem PySem.Spec PyProof.Rows L2 TL
/-- all that the text's top has written, by names -/
structure Env (K : PySem.W.Frag) (mg : Str → Option Value) where
  D_common : Df K mg "common" s_common ["a", "b"]
  D_plus : Df K mg "plus" s_plus ["a", "b"]
  D_floor_of : Df K mg "floor_of" s_floor_of ["a"]
  D_ceil_of : Df K mg "ceil_of" s_ceil_of ["a"]
  D_gains : Df K mg "gains" s_gains ["rows", "place"]
  D_first_hour : Df K mg "first_hour" s_first_hour ["counts", "k"]
  D_field_windows : Df K mg "field_windows" s_field_windows ["rows", "place"]
  D_windows : Df K mg "windows" s_windows ["rows"]
  D_open_ahead : Df K mg "open_ahead" s_open_ahead ["lost", "many"]
  D_crowded : Df K mg "crowded" s_crowded ["spans", "lost", "many"]
  D_plan_of : Df K mg "plan_of" s_plan_of ["spans", "lost", "many"]
  D_planned : Df K mg "planned" s_planned ["rows", "lost"]
  D__law_flow : Df K mg "_law_flow" s__law_flow ["_law_script", "_law_many"]
  D__law_whole : Df K mg "_law_whole" s__law_whole ["_law_found"]
  D__law_low : Df K mg "_law_low" s__law_low ["_law_top", "_law_bottom"]
  D__law_add : Df K mg "_law_add" s__law_add ["_law_a", "_law_b"]
  D__law_shares : Df K mg "_law_shares" s__law_shares ["_law_row", "_law_n"]
  D__law_many_fields : Df K mg "_law_many_fields" s__law_many_fields ["_law_one", "_law_top"]
  D__law_season : Df K mg "_law_season" s__law_season ["_law_row"]
  D__law_gains : Df K mg "_law_gains" s__law_gains ["_law_rows", "_law_n"]
  D__law_windows : Df K mg "_law_windows" s__law_windows ["_law_rows", "_law_n"]
  D__law_plan_keeps : Df K mg "_law_plan_keeps" s__law_plan_keeps ["_law_rows", "_law_n", "_law_lost_here", "_law_plan"]
  D__law_lost : Df K mg "_law_lost" s__law_lost ["_law_row", "_law_hours"]
  D__law_full : Df K mg "_law_full" s__law_full ["_law_rows", "_law_n", "_law_lost_here", "_law_first", "_law_last"]
  D_law : Df K mg "law" s_law ["_law_script"]
  m_abs : mg "abs" = none
  m_len : mg "len" = none
  m_range : mg "range" = none
  m_isinstance : mg "isinstance" = none
  m_int : mg "int" = none
  m_bool : mg "bool" = none
  m_tuple : mg "tuple" = none
  m_list : mg "list" = none
  m_any : mg "any" = none
  m_sum : mg "sum" = none
  m_min : mg "min" = none
  m_zip : mg "zip" = none
  m_enumerate : mg "enumerate" = none
  m_sorted : mg "sorted" = none
  c_plan_of : Addr
  P_plan_of : Addr
  e_plan_of : D_plan_of.fd.code = .ref c_plan_of
abbrev N_common : List Str := ["a", "b"]
theorem sc_common : FnScope N_common ["a", "b"] (defScope s_common) := ⟨rfl, rfl, rfl, by decide +kernel, rfl, by decide +kernel, by decide +kernel⟩
section
variable {P : Program} {w : World} {K : PySem.W.Frag} {mg : Str → Option Value} {base : Heap}
def sp_common : Sp := fun vs H Q _ => ∃ a b : Int, vs = [.int a, .int b] ∧ 0 < b ∧ Q (.int (gc a b)) H
theorem ok_common {k : Nat} (D : Df K mg "common" s_common ["a", "b"]) : FnOk P w K mg base CX0 (k + 1) D.f D.fd ["a", "b"] sp_common := by
  refine D.F.ok sc_common (fun vs H Q E h => ?_) (fun cdv A outer s H vs Q E hr h => ?_)
  · obtain ⟨a, b, rfl, _⟩ := h
    rfl
  · obtain ⟨a, b, rfl, hb, q⟩ := h
    refine ⟨_, (pss_cons (ps_while PassesOwn.never (pt_cmpR op_gt (pv 1) pe_int (nomark _)) (pss_one (ps_par (i := 0) (j := 1) (by rfl) sc_common.nd rfl rfl (by decide) rfl rfl (pa_cons (pv 1) (pa_cons (pe_op op_mod (pv 0) (pv 1)) pa_nil)) (by rfl))))
      (pss_one (ps_ret (pv 0)))), ?_⟩
    refine while_by (fun σ H' => ∃ x y : Int, σ = [some (.int x), some (.int y)] ∧ H' = H ∧ 0 ≤ y ∧ Int.gcd x y = Int.gcd a b ∧ (y = 0 → 0 ≤ x))
      (fun σ _ => match σ with | [_, some (.int y)] => y.toNat | _ => 0) ⟨a, b, rfl, rfl, by omega, rfl, by omega⟩ ?_ ?_
    · rintro σ H' ⟨x, y, rfl, rfl, h0, hg, hz⟩
      refine ⟨_, rfl, _, _, rfl, rfl, _, rfl, ite2 (fun e => ?_) (fun e => ?_)⟩
      · have e1 : 0 < y := of_decide_eq_true e
        refine ⟨_, rfl, _, rfl, _, rfl, _, _, rfl, rfl, e1, _, _, rfl, ⟨y, x % y, rfl, rfl, Int.emod_nonneg x (by omega), gc_step.trans hg, fun _ => by omega⟩, ?_⟩
        show (x % y).toNat < y.toNat
        have := Int.emod_lt_of_pos x e1
        have := Int.emod_nonneg x (show y ≠ 0 by omega)
        omega
      · have e1 : ¬ 0 < y := fun z => e (decide_eq_true z)
        have e2 : y = 0 := by omega
        subst e2
        refine ⟨_, rfl, ?_⟩
        have e3 : x = gc a b := by
          unfold gc
          rw [← hg, Int.gcd_zero]
          have := hz rfl
          omega
        rw [e3]
        exact q
    · rintro σ H' Q1 Q2 hq ⟨v, e, i, j, e1, e2, c, e3, r⟩
      exact ⟨v, e, i, j, e1, e2, c, e3, hq _ _ r⟩

end
-- END common
abbrev N_plus : List Str := ["a", "b", "shared", "rest", "top", "again"]
theorem sc_plus : FnScope N_plus ["a", "b"] (defScope s_plus) := ⟨rfl, rfl, rfl, by decide +kernel, rfl, by decide +kernel, by decide +kernel⟩
section
variable {P : Program} {w : World} {K : PySem.W.Frag} {mg : Str → Option Value} {base : Heap}
theorem ok_plus {k : Nat} (D : Df K mg "plus" s_plus ["a", "b"]) (D_common : Df K mg "common" s_common ["a", "b"]) : FnOk P w K mg base CX0 (k + 2) D.f D.fd ["a", "b"] (sp_two K lowC addP) := by
  have G_common : FnOk P w K mg base CX0 1 D_common.f D_common.fd ["a", "b"] sp_common := ok_common D_common
  refine D.F.ok sc_plus (fun vs H Q E h => len_two h) (fun cdv A outer s H vs Q E hr h => ?_)
  obtain ⟨v, u, x, y, n, m, rfl, ⟨p, rfl, hp⟩, ⟨r, rfl, hq⟩, ox, oy, hn, ⟨lx, ly⟩, q⟩ := h
  refine ⟨_, (pss_cons (ps_set (i := 2) sc_plus.nd rfl (.inl rfl) (pe_call G_common (hr.mono (by omega)) (by rfl) D_common.g D_common.F.kp D_common.b .nil pass0 (pa_cons (pe_ix ix_tup (pv 0) pe_int (fun _ _ => rfl)) (pa_cons (pe_ix ix_tup (pv 1) pe_int (fun _ _ => rfl)) pa_nil))))
      (pss_cons (ps_set (i := 3) sc_plus.nd rfl (.inl rfl) (pe_op op_fdivW (pe_ix ix_tup (pv 0) pe_int (fun _ _ => rfl)) (pv 2)))
      (pss_cons (ps_set (i := 4) sc_plus.nd rfl (.inl rfl) (pe_op op_add (pe_op op_mulW (pe_ix ix_tup (pv 0) pe_int (fun _ _ => rfl)) (pe_op op_fdivW (pe_ix ix_tup (pv 1) pe_int (fun _ _ => rfl)) (pv 2))) (pe_op op_mulW (pe_ix ix_tup (pv 1) pe_int (fun _ _ => rfl)) (pv 3))))
      (pss_cons (ps_set (i := 5) sc_plus.nd rfl (.inl rfl) (pe_call G_common (hr.mono (by omega)) (by rfl) D_common.g D_common.F.kp D_common.b .nil pass0 (pa_cons (pv 4) (pa_cons (pv 2) pa_nil))))
      (pss_one (ps_ret (pe_tup (pa_cons (pe_op op_fdivW (pv 4) (pv 5)) (pa_cons (pe_op op_mulW (pv 3) (pe_op op_fdivW (pe_ix ix_tup (pv 1) pe_int (fun _ _ => rfl)) (pv 5))) pa_nil))))))))), ?_⟩
  have hs := gc_pos (a := x.2) oy.pos
  have bs := oy.bot.gc (x := x.2) oy.pos
  have br := ox.bot.div (gc_dl x.2 y.2)
  have bt := (ox.top.mul (oy.bot.div (gc_dr x.2 y.2))).add ((oy.top.mul br).mono (show m + n ≤ n + m by omega))
  have hg := gc_pos (a := x.1 * (y.2 / gc x.2 y.2) + y.1 * (x.2 / gc x.2 y.2)) hs
  have bg := bs.gc (x := x.1 * (y.2 / gc x.2 y.2) + y.1 * (x.2 / gc x.2 y.2)) hs
  have gd : gc (x.1 * (y.2 / gc x.2 y.2) + y.1 * (x.2 / gc x.2 y.2)) (gc x.2 y.2) ∣ y.2 := Int.dvd_trans (gc_dr _ _) (gc_dr _ _)
  refine ⟨_, rfl, p, _, 1, _, rfl, rfl, hp, rfl, _, rfl, r, _, 1, _, rfl, rfl, hq, rfl, _, _, rfl, oy.pos, ?_⟩
  refine ⟨_, rfl, p, _, 1, _, rfl, rfl, hp, rfl, _, rfl, _, _, rfl, rfl, bd_divok hs bs (by omega), ?_⟩
  refine ⟨_, rfl, p, _, 0, _, rfl, rfl, hp, rfl, _, rfl, r, _, 1, _, rfl, rfl, hq, rfl, _, rfl, _, _, rfl, rfl, bd_divok hs bs (by omega), _, _, rfl, rfl, bd_mulok ox.top (oy.bot.div (gc_dr x.2 y.2)) (by omega), _, rfl, r, _, 0, _, rfl, rfl, hq, rfl, _, rfl, _, _, rfl, rfl, bd_mulok oy.top br (by omega), _, _, rfl, rfl, ?_⟩
  refine ⟨_, rfl, _, rfl, _, _, rfl, hs, ?_⟩
  refine ⟨_, rfl, _, rfl, _, _, rfl, rfl, bd_divok hg bg (by omega), _, rfl, _, rfl, r, _, 1, _, rfl, rfl, hq, rfl, _, rfl, _, _, rfl, rfl, bd_divok hg bg (by omega), _, _, rfl, rfl, bd_mulok br (oy.bot.div gd) (by omega), (by show 2 ≤ sizeLine; decide), fun t ht => ?_⟩
  refine q _ _ (same_upd ht) ?_
  obtain ⟨e1, e2⟩ := plus_is lx ly
  show Pr K _ _ (addP x y).1 (addP x y).2
  unfold addP lowP
  dsimp only
  rw [← e1, ← e2]
  exact Pr.new

end
-- END plus
abbrev N_floor_of : List Str := ["a"]
theorem sc_floor_of : FnScope N_floor_of ["a"] (defScope s_floor_of) := ⟨rfl, rfl, rfl, by decide +kernel, rfl, by decide +kernel, by decide +kernel⟩
section
variable {P : Program} {w : World} {K : PySem.W.Frag} {mg : Str → Option Value} {base : Heap}
def sp_floor_of (K : PySem.W.Frag) : Sp := fun vs H Q _ => ∃ (v : V) (a b : Int), vs = [v] ∧ Pr K H v a b ∧ 0 < b ∧ Bd 8000 b ∧ Q (.int (a / b)) H
theorem ok_floor_of {k : Nat} (D : Df K mg "floor_of" s_floor_of ["a"]) : FnOk P w K mg base CX0 (k + 1) D.f D.fd ["a"] (sp_floor_of K) := by
  refine D.F.ok sc_floor_of (fun vs H Q E h => ?_) (fun cdv A outer s H vs Q E hr h => ?_)
  · obtain ⟨v, a, b, rfl, _⟩ := h
    rfl
  · obtain ⟨v, a, b, rfl, ⟨p, rfl, hp⟩, hb, hB, q⟩ := h
    refine ⟨_, (pss_one (ps_ret (pe_op op_fdivW (pe_ix ix_tup (pv 0) pe_int (fun _ _ => rfl)) (pe_ix ix_tup (pv 0) pe_int (fun _ _ => rfl))))), ?_⟩
    exact ⟨_, rfl, p, _, 0, _, rfl, rfl, hp, rfl, _, rfl, p, _, 1, _, rfl, rfl, hp, rfl, _, _, rfl, rfl, bd_divok hb hB (by decide), q⟩

end
-- END floor_of
abbrev N_ceil_of : List Str := ["a"]
theorem sc_ceil_of : FnScope N_ceil_of ["a"] (defScope s_ceil_of) := ⟨rfl, rfl, rfl, by decide +kernel, rfl, by decide +kernel, by decide +kernel⟩
section
variable {P : Program} {w : World} {K : PySem.W.Frag} {mg : Str → Option Value} {base : Heap}
def sp_ceil_of (K : PySem.W.Frag) : Sp := fun vs H Q _ => ∃ (v : V) (a b : Int), vs = [v] ∧ Pr K H v a b ∧ 0 < b ∧ Bd 8000 b ∧ Q (.int (-(-a / b))) H
theorem ok_ceil_of {k : Nat} (D : Df K mg "ceil_of" s_ceil_of ["a"]) : FnOk P w K mg base CX0 (k + 1) D.f D.fd ["a"] (sp_ceil_of K) := by
  refine D.F.ok sc_ceil_of (fun vs H Q E h => ?_) (fun cdv A outer s H vs Q E hr h => ?_)
  · obtain ⟨v, a, b, rfl, _⟩ := h
    rfl
  · obtain ⟨v, a, b, rfl, ⟨p, rfl, hp⟩, hb, hB, q⟩ := h
    refine ⟨_, (pss_one (ps_ret (pe_un un_neg (pe_op op_fdivW (pe_un un_neg (pe_ix ix_tup (pv 0) pe_int (fun _ _ => rfl))) (pe_ix ix_tup (pv 0) pe_int (fun _ _ => rfl)))))), ?_⟩
    exact ⟨_, rfl, p, _, 0, _, rfl, rfl, hp, rfl, _, rfl, _, rfl, p, _, 1, _, rfl, rfl, hp, rfl, _, _, rfl, rfl, bd_divok hb hB (by decide), _, rfl, q⟩

end
-- END ceil_of
abbrev N_gains : List Str := ["rows", "place", "gain", "sums", "shares"]
theorem sc_gains : FnScope N_gains ["rows", "place"] (defScope s_gains) := ⟨rfl, rfl, rfl, by decide +kernel, rfl, by decide +kernel, by decide +kernel⟩
section
variable {P : Program} {w : World} {K : PySem.W.Frag} {mg : Str → Option Value} {base : Heap}
theorem ok_gains {k : Nat} (T : Env K mg) : FnOk P w K mg base CX0 (k + 3) T.D_gains.f T.D_gains.fd ["rows", "place"] (sp_gains K) := by
  have G_plus : FnOk P w K mg base CX0 2 T.D_plus.f T.D_plus.fd ["a", "b"] (sp_two K lowC addP) := ok_plus T.D_plus T.D_common
  refine T.D_gains.F.ok sc_gains (fun vs H Q E h => ?_) (fun cdv A outer s H vs Q E hr h => ?_)
  · obtain ⟨p, pl, rss, rfl, _⟩ := h
    rfl
  obtain ⟨p, pl, rss, rfl, ⟨us, ep, hA⟩, hl, hb, q⟩ := h
  have co := col_ok hb
  have cl := col_len rss pl
  refine ⟨_, (pss_cons (ps_set (i := 2) sc_gains.nd rfl (.inl rfl) (pe_tup (pa_cons pe_int (pa_cons pe_int pa_nil))))
      (pss_cons (ps_set (i := 3) sc_gains.nd rfl (.inl rfl) (pe_lst pa_nil))
      (pss_cons (ps_for PassesOwn.never rfl (pi_list (pv 0)) (pg_name (i := 4) sc_gains.nd rfl (.inl rfl)) (pss_cons (ps_set (i := 2) sc_gains.nd rfl (.inl rfl) (pe_call G_plus (hr.mono (by omega)) (by rfl) T.D_plus.g T.D_plus.F.kp T.D_plus.b .nil pass0 (pa_cons (pv 2) (pa_cons (pe_ix ix_list (pv 4) (pv 1) (fun _ _ => rfl)) pa_nil))))
      (pss_one (ps_expr (pe_bm PySem.F.plainAttrs_list PySem.F.slot_list_append PySem.F.type_list_append mt_append (pv 3) (pa_cons (pv 2) pa_nil))))))
      (pss_one (ps_ret (pv 3)))))), ?_⟩
  refine ⟨(by show 2 ≤ sizeLine; decide), fun t ht => ?_⟩
  have st := same_upd (o := .tup [.int 0, .int 1]) ht
  refine ⟨Nat.zero_le _, fun Ds hDs => ?_⟩
  have sD := same_upd (o := .lst []) hDs
  have nD : H Ds = none := st.free hDs
  refine ⟨_, rfl, p, rfl, ⟨_, SqL.of (sD _ _ (st _ _ ep))⟩, ?_⟩
  refine for_list (xs := us) (fun i σ H3 => ∃ (v : V) (y4 : Option V) (ws : List V), σ = [some (.ref p), some (.int (pl : Int)), some v, some (.ref Ds), y4] ∧ Pp K H3 v (sumP ((colP rss pl).take i)) ∧ H3 Ds = some (.lst ws) ∧ Pps K H3 ws ((gnM (colP rss pl)).take i) ∧ Same H H3)
    ⟨_, _, _, rfl, (Pr.new (K := K) (H := H) (p := t)).same sD, upd_same, .nil, st.trans sD⟩ (fun i σ H3 _ hW => ?_) (fun i x σ H3 hx hW => ?_) (fun σ H3 hW => ?_)
  · obtain ⟨_, _, _, _, _, _, _, sm⟩ := hW
    exact SqL.of (sm _ _ ep)
  · obtain ⟨v, y4, ws, rfl, hv, eD, hW, sm⟩ := hW
    obtain ⟨r, er, r', rfl, lr⟩ := hA.of hx
    have hi : i < rss.length := (List.getElem?_eq_some_iff.1 er).1
    have hrr := hb r (List.mem_of_getElem? er)
    obtain ⟨zs, ez, hz⟩ := lr.same sm
    obtain ⟨v1, g1, p1⟩ := pps_at hz (item_some hrr.2)
    have o1 := sum_ok co i (by omega)
    have o2 := item_ok hrr.1 hrr.2
    refine ⟨_, rfl, _, rfl, _, rfl, r', zs, _, v1, rfl, rfl, SqL.of ez, atI_nat g1, ?_⟩
    refine ⟨v, v1, _, _, 1 + 27 * i, 26, rfl, hv, p1, o1.1, o2.1, by omega, ⟨o1.2, o2.2⟩, fun H4 v4 s4 p4 => ?_⟩
    have eD4 := s4 _ _ eD
    have wl : ws.length = ((gnM (colP rss pl)).take i).length := hW.len
    rw [List.length_take, gnM_len, cl] at wl
    refine ⟨_, rfl, .inl ⟨rfl, _, SqL.of eD4⟩, _, rfl, Ds, ws, _, rfl, rfl, eD4, small1000 (by omega), ?_⟩
    have es : sumP ((colP rss pl).take (i + 1)) = addP (sumP ((colP rss pl).take i)) (itemP r pl) := sumP_take (col_at er)
    refine ⟨v4, _, _, rfl, ?_, upd_same, ?_, same_at nD (sm.trans s4)⟩
    · rw [es]
      exact p4.off (fun b o e nb => by rw [upd_ne nb]; exact e) eD4
    · rw [gnM_take (by omega), es]
      exact pps_grow eD4 (hW.same s4) p4
  · obtain ⟨v, y4, ws, rfl, hv, eD, hW, sm⟩ := hW
    rw [hA.1, ← cl, gnM_all] at hW
    exact ⟨_, rfl, q _ _ sm nD ⟨_, eD, hW⟩⟩

end
-- END gains
abbrev N_first_hour : List Str := ["counts", "k", "hour", "count"]
theorem sc_first_hour : FnScope N_first_hour ["counts", "k"] (defScope s_first_hour) := ⟨rfl, rfl, rfl, by decide +kernel, rfl, by decide +kernel, by decide +kernel⟩
section
variable {P : Program} {w : World} {K : PySem.W.Frag} {mg : Str → Option Value} {base : Heap}
theorem ok_first_hour {k : Nat} (T : Env K mg) : FnOk P w K mg base CX0 (k + 1) T.D_first_hour.f T.D_first_hour.fd ["counts", "k"] (sp_first_hour K) := by
  refine T.D_first_hour.F.ok sc_first_hour (fun vs H Q E h => ?_) (fun cdv A outer s H vs Q E hr h => ?_)
  · obtain ⟨p, cs, k, rfl, _⟩ := h
    rfl
  obtain ⟨p, cs, k, rfl, ep, q⟩ := h
  refine ⟨_, (pss_cons (ps_for PassesOwn.never rfl (pi_enum (by rfl) T.m_enumerate (pa_cons (pv 0) pa_nil)) (pg_tup rfl (pgs_cons (pg_name (i := 2) sc_first_hour.nd rfl (.inl rfl)) (pgs_cons (pg_name (i := 3) sc_first_hour.nd rfl (.inl rfl)) pgs_nil))) (pss_one (ps_if (pt_cmpR op_ge (pv 3) (pv 1) (nomark _)) (pss_one (ps_ret (pv 2))) pss_nil)))
      (pss_one (ps_ret pe_non))), ?_⟩
  refine ⟨_, rfl, p, _, rfl, SqL.of ep, ?_⟩
  refine for_it (walk_enum (xs := cs.map V.int)) (fun i σ H3 => ∃ y2 y3, σ = [some (.ref p), some (.int k), y2, y3] ∧ (∀ j, j < i → ¬ k ≤ cs.getD j 0) ∧ Same H H3) ⟨_, _, rfl, fun j hj => absurd hj (Nat.not_lt_zero _), Same.refl _⟩ (fun i σ H3 _ hW => ?_) (fun i x σ H3 H4 hi hW hy => ?_) (fun σ H3 hW => ?_)
  · obtain ⟨_, _, _, _, sm⟩ := hW
    exact SqL.of (sm _ _ ep)
  · obtain ⟨y2, y3, rfl, bef, sm⟩ := hW
    obtain ⟨T, x1, x2, rfl, nT, rfl, f1, f2⟩ := hy
    cases f1
    obtain ⟨c, hc, rfl⟩ := int_at f2
    have hil : i < cs.length := (List.getElem?_eq_some_iff.1 hc).1
    have st := same_upd (o := .tup [.int ((i : Nat) : Int), .int c]) nT
    refine ⟨T, _, rfl, SqT.of upd_same, rfl, _, _, rfl, _, _, rfl, rfl, ?_⟩
    refine ⟨_, rfl, _, rfl, _, _, rfl, rfl, _, rfl, ite2 (fun e => ?_) (fun e => ?_)⟩
    · have := q _ (sm.trans st)
      rw [firstK_some hil (by rw [getD_at hc]; simpa using e) bef] at this
      exact ⟨_, rfl, this⟩
    · refine ⟨_, _, rfl, fun j hj => ?_, sm.trans st⟩
      by_cases ej : j = i
      · subst ej
        rw [getD_at hc]
        simpa using e
      · exact bef j (by omega)
  · obtain ⟨y2, y3, rfl, bef, sm⟩ := hW
    rw [List.length_map] at bef
    have := q _ sm
    rw [firstK_none bef] at this
    exact this

end
-- END first_hour
abbrev N_field_windows : List Str := ["rows", "place", "sums", "may", "must", "gain", "k"]
theorem sc_field_windows : FnScope N_field_windows ["rows", "place"] (defScope s_field_windows) := ⟨rfl, rfl, rfl, by decide +kernel, rfl, by decide +kernel, by decide +kernel⟩
section
variable {P : Program} {w : World} {K : PySem.W.Frag} {mg : Str → Option Value} {base : Heap}
theorem ok_field_windows {k : Nat} (T : Env K mg) : FnOk P w K mg base CX0 (k + 4) T.D_field_windows.f T.D_field_windows.fd ["rows", "place"] (sp_field_windows K) := by
  have G_gains : FnOk P w K mg base CX0 3 T.D_gains.f T.D_gains.fd ["rows", "place"] (sp_gains K) := ok_gains T
  have G_floor_of : FnOk P w K mg base CX0 3 T.D_floor_of.f T.D_floor_of.fd ["a"] (sp_floor_of K) := ok_floor_of T.D_floor_of
  have G_ceil_of : FnOk P w K mg base CX0 3 T.D_ceil_of.f T.D_ceil_of.fd ["a"] (sp_ceil_of K) := ok_ceil_of T.D_ceil_of
  have G_first_hour : FnOk P w K mg base CX0 3 T.D_first_hour.f T.D_first_hour.fd ["counts", "k"] (sp_first_hour K) := ok_first_hour T
  refine T.D_field_windows.F.ok sc_field_windows (fun vs H Q E h => ?_) (fun cdv A outer s H vs Q E hr h => ?_)
  · obtain ⟨p, pl, rss, rfl, _⟩ := h
    rfl
  obtain ⟨p, pl, rss, rfl, lr, h0, hl, hb, hu, q⟩ := h
  have co := col_ok hb
  have cl := col_len rss pl
  have go := gnM_ok co (by omega)
  have gl := gnM_len (colP rss pl)
  refine ⟨_, (pss_cons (ps_set (i := 2) sc_field_windows.nd rfl (.inl rfl) (pe_call G_gains (hr.mono (by omega)) (by rfl) T.D_gains.g T.D_gains.F.kp T.D_gains.b .nil pass0 (pa_cons (pv 0) (pa_cons (pv 1) pa_nil))))
      (pss_cons (ps_set (i := 3) sc_field_windows.nd rfl (.inr rfl) (pe_lc (own := [("gain", 5)]) (g := gName 5) (tt := tYes) rfl sc_field_windows.nd (pi_list (pv 2)) (blkOk_by (N := N_field_windows) (sc := defScope s_field_windows) (by decide +kernel)) (fun _ _ _ _ _ => pg_name (i := 5) sc_field_windows.nd rfl (Or.inl rfl)) (fun _ _ _ _ _ => pts_nil) (fun _ _ _ _ _ => (pe_call G_ceil_of (hr.mono (by omega)) (by rfl) T.D_ceil_of.g T.D_ceil_of.F.kp T.D_ceil_of.b .nil pass0 (pa_cons (pv 5) pa_nil)))))
      (pss_cons (ps_set (i := 4) sc_field_windows.nd rfl (.inr rfl) (pe_lc (own := [("gain", 5)]) (g := gName 5) (tt := tYes) rfl sc_field_windows.nd (pi_list (pv 2)) (blkOk_by (N := N_field_windows) (sc := defScope s_field_windows) (by decide +kernel)) (fun _ _ _ _ _ => pg_name (i := 5) sc_field_windows.nd rfl (Or.inl rfl)) (fun _ _ _ _ _ => pts_nil) (fun _ _ _ _ _ => (pe_call G_floor_of (hr.mono (by omega)) (by rfl) T.D_floor_of.g T.D_floor_of.F.kp T.D_floor_of.b .nil pass0 (pa_cons (pv 5) pa_nil)))))
      (pss_one (ps_ret (pe_lc (own := [("k", 6)]) (g := gName 6) (tt := tYes) rfl sc_field_windows.nd (pi_range2 (by rfl) T.m_range (pa_cons pe_int (pa_cons (pe_op op_add (pe_ix ix_list (pv 3) (pe_un un_neg pe_int) (fun _ _ => rfl)) pe_int) pa_nil))) (blkOk_by (N := N_field_windows) (sc := defScope s_field_windows) (by decide +kernel)) (fun _ _ _ _ _ => pg_name (i := 6) sc_field_windows.nd rfl (Or.inl rfl)) (fun _ _ _ _ _ => pts_nil) (fun _ _ _ _ _ => (pe_tup (pa_cons (pv 1) (pa_cons (pv 6) (pa_cons (pe_call G_first_hour (hr.mono (by omega)) (by rfl) T.D_first_hour.g T.D_first_hour.F.kp T.D_first_hour.b .nil pass0 (pa_cons (pv 3) (pa_cons (pv 6) pa_nil))) (pa_cons (pe_call G_first_hour (hr.mono (by omega)) (by rfl) T.D_first_hour.g T.D_first_hour.F.kp T.D_first_hour.b .nil pass0 (pa_cons (pv 4) (pa_cons (pv 6) pa_nil))) pa_nil)))))))))))), ?_⟩
  refine ⟨_, rfl, _, rfl, p, pl, rss, rfl, lr, hl, hb, fun H1 Dg s1 nDg ⟨gs, eg, hg⟩ => ?_⟩
  have gsl := hg.len
  -- may
  refine ⟨_, rfl, Dg, rfl, ⟨_, SqL.of eg⟩, fun Dm hDm => ?_⟩
  have nDm : H Dm = none := s1.free hDm
  refine lc_list (xs := gs) (fun i H' => H' Dm = some (.lst ((((gnM (colP rss pl)).take i).map ceilP).map V.int)) ∧ Same H1 H') ⟨upd_same, same_upd hDm⟩ (fun i H' _ hW => SqL.of (hW.2 _ _ eg)) (fun i x H' hx hW => ?_) (fun H2 hW => ?_)
  · obtain ⟨eD, sm⟩ := hW
    obtain ⟨y, ey, py⟩ := pps_get hg hx
    have oy := go y (List.mem_of_getElem? ey)
    have hi := (List.getElem?_eq_some_iff.1 ey).1
    refine ⟨rfl, ?_⟩
    dsimp only [tYes]
    rw [if_pos rfl]
    refine ⟨_, rfl, x, y.1, y.2, rfl, py.same sm, oy.1.pos, oy.1.bot.mono (by decide), _, eD, small1000 (by simp; omega), ?_, same_at hDm sm⟩
    rw [upd_same, map_take_succ _ ey, List.map_append]
    rfl
  obtain ⟨em, s2⟩ := hW
  rw [hg.len, List.take_of_length_le (Nat.le_refl _)] at em
  -- must
  refine ⟨_, rfl, Dg, rfl, ⟨_, SqL.of (s2 _ _ eg)⟩, fun Dn hDn => ?_⟩
  refine lc_list (xs := gs) (fun i H' => H' Dn = some (.lst ((((gnM (colP rss pl)).take i).map floorP).map V.int)) ∧ Same H2 H') ⟨upd_same, same_upd hDn⟩ (fun i H' _ hW => SqL.of (hW.2 _ _ (s2 _ _ eg))) (fun i x H' hx hW => ?_) (fun H3 hW => ?_)
  · obtain ⟨eD, sm⟩ := hW
    obtain ⟨y, ey, py⟩ := pps_get hg hx
    have oy := go y (List.mem_of_getElem? ey)
    have hi := (List.getElem?_eq_some_iff.1 ey).1
    refine ⟨rfl, ?_⟩
    dsimp only [tYes]
    rw [if_pos rfl]
    refine ⟨_, rfl, x, y.1, y.2, rfl, (py.same s2).same sm, oy.1.pos, oy.1.bot.mono (by decide), _, eD, small1000 (by simp; omega), ?_, same_at hDn sm⟩
    rw [upd_same, map_take_succ _ ey, List.map_append]
    rfl
  obtain ⟨en, s3⟩ := hW
  rw [hg.len, List.take_of_length_le (Nat.le_refl _)] at en
  have em3 := s3 _ _ em
  -- the windows
  have cn := ceil_nn hu
  have cc := ceil_le hu
  have lastM : ((gnM (colP rss pl)).map ceilP).length - 1 < ((gnM (colP rss pl)).map ceilP).length := by rw [List.length_map]; omega
  have el : atI (((gnM (colP rss pl)).map ceilP).map V.int) (-1) = some (V.int (ceilP (sumP (colP rss pl)))) := by
    apply atI_last
    rw [List.length_map, List.length_map, List.getElem?_map, List.getElem?_map, gnM_last (by omega)]
    rfl
  refine ⟨_, rfl, _, rfl, Dm, _, _, _, rfl, rfl, SqL.of em3, el, _, _, rfl, rfl, 1, ceilP (sumP (colP rss pl)) + 1, rfl, ⟨by decide, by decide, by omega, by omega⟩, fun Dw hDw => ?_⟩
  have nDw : H Dw = none := ((s1.trans s2).trans s3).free hDw
  rw [show (ceilP (sumP (colP rss pl)) + 1 - 1).toNat = (ceilP (sumP (colP rss pl))).toNat by rw [Int.add_sub_cancel]]
  refine lc_range (lo := 1) (n := (ceilP (sumP (colP rss pl))).toNat) (fun i H' => ∃ us, H' Dw = some (.lst us) ∧ Al (WnV K H') us ((winP (colP rss pl) pl).take i) ∧ Same H3 H') ⟨[], upd_same, .nil, same_upd hDw⟩ (fun i H' hi hW => ?_) (fun H4 hW => ?_)
  · obtain ⟨us, eD, hV, sm⟩ := hW
    have wl : (winP (colP rss pl) pl).length = (ceilP (sumP (colP rss pl))).toNat := by unfold winP; simp
    have ul := hV.1
    rw [List.length_take, wl] at ul
    refine ⟨rfl, ?_⟩
    dsimp only [tYes]
    rw [if_pos rfl]
    refine ⟨_, rfl, _, rfl, _, rfl, _, rfl, Dm, _, _, rfl, sm _ _ em3, fun H5 s5 => ?_⟩
    refine ⟨_, rfl, _, rfl, Dn, _, _, rfl, s5 _ _ (sm _ _ en), fun H6 s6 => ?_⟩
    refine ⟨(by show 4 ≤ sizeLine; decide), fun t ht => ?_⟩
    have st := same_upd (o := .tup [.int (pl : Int), .int (1 + (i : Int)), oV (firstK ((gnM (colP rss pl)).map ceilP) (1 + (i : Int))), oV (firstK ((gnM (colP rss pl)).map floorP) (1 + (i : Int)))]) ht
    have sa := (s5.trans s6).trans st
    have eD2 := sa _ _ eD
    have ew : (winP (colP rss pl) pl)[i]? = some (pl, i + 1, firstK ((gnM (colP rss pl)).map ceilP) ((i : Int) + 1), firstK ((gnM (colP rss pl)).map floorP) ((i : Int) + 1)) := by
      unfold winP
      rw [List.getElem?_map, List.getElem?_range hi]
      rfl
    refine ⟨us, eD2, small1000 (by omega), us ++ [.ref t], upd_same, ?_, same_at hDw (sm.trans sa)⟩
    rw [List.take_add_one, ew]
    refine wn_grow eD2 (hV.imp fun _ _ _ => WnV.same sa) ⟨t, rfl, ?_⟩
    have e1 : (((i + 1 : Nat) : Int)) = 1 + (i : Int) := by omega
    rw [show ((i : Int) + 1) = 1 + (i : Int) by omega]
    show SqT K _ t [.int (pl : Int), .int ((i + 1 : Nat) : Int), _, _]
    rw [e1]
    exact SqT.of upd_same
  · obtain ⟨us, eD, hV, sm⟩ := hW
    have wl : (winP (colP rss pl) pl).length = (ceilP (sumP (colP rss pl))).toNat := by unfold winP; simp
    rw [← wl, List.take_of_length_le (Nat.le_refl _)] at hV
    exact q _ _ (((s1.trans s2).trans s3).trans sm) nDw ⟨us, eD, hV⟩

end
-- END field_windows
abbrev N_windows : List Str := ["rows", "found", "place"]
theorem sc_windows : FnScope N_windows ["rows"] (defScope s_windows) := ⟨rfl, rfl, rfl, by decide +kernel, rfl, by decide +kernel, by decide +kernel⟩
section
variable {P : Program} {w : World} {K : PySem.W.Frag} {mg : Str → Option Value} {base : Heap}
theorem ok_windows {k : Nat} (T : Env K mg) : FnOk P w K mg base CX0 (k + 5) T.D_windows.f T.D_windows.fd ["rows"] (sp_windows K) := by
  have G_field_windows : FnOk P w K mg base CX0 4 T.D_field_windows.f T.D_field_windows.fd ["rows", "place"] (sp_field_windows K) := ok_field_windows T
  refine T.D_windows.F.ok sc_windows (fun vs H Q E h => ?_) (fun cdv A outer s H vs Q E hr h => ?_)
  · obtain ⟨p, n, rss, rfl, _⟩ := h
    rfl
  obtain ⟨p, n, rss, rfl, lr, hl, hn, hb, hu, q⟩ := h
  obtain ⟨us, ep, hA⟩ := id lr
  refine ⟨_, (pss_cons (ps_set (i := 1) sc_windows.nd rfl (.inl rfl) (pe_lst pa_nil))
      (pss_cons (ps_if (pt_truth (pv 0) (by intro _; rfl)) (pss_one (ps_for PassesOwn.never rfl (pi_range1 (by rfl) T.m_range (pa_cons (pe_callB call_len_seq (by rfl) T.m_len PySem.boot_len (pa_cons (pe_ix ix_list (pv 0) pe_int (fun _ _ => rfl)) pa_nil)) pa_nil)) (pg_name (i := 2) sc_windows.nd rfl (.inl rfl)) (pss_one (ps_expr (pe_bm PySem.F.plainAttrs_list PySem.F.slot_list_extend PySem.F.type_list_extend mt_extend (pv 1) (pa_cons (pe_call G_field_windows (hr.mono (by omega)) (by rfl) T.D_field_windows.g T.D_field_windows.F.kp T.D_field_windows.b .nil pass0 (pa_cons (pv 0) (pa_cons (pv 2) pa_nil))) pa_nil)))))) pss_nil)
      (pss_one (ps_ret (pv 1))))), ?_⟩
  refine ⟨Nat.zero_le _, fun Dw hDw => ?_⟩
  have sD := same_upd (o := .lst []) hDw
  refine ⟨_, rfl, !us.isEmpty, .inl ⟨_, SqL.of (sD _ _ ep), rfl⟩, ?_⟩
  cases rss with
  | nil =>
    have e0 : us = [] := List.eq_nil_of_length_eq_zero hA.1
    subst e0
    refine iteF ⟨_, rfl, q _ _ sD hDw ⟨[], upd_same, ?_⟩⟩
    rw [if_pos rfl]
    exact .nil
  | cons r0 rs =>
    have hul : us.length = rs.length + 1 := hA.1
    obtain ⟨v0, e0, q0, rfl, l0⟩ := hA.at (i := 0) (x := r0) rfl
    obtain ⟨zs, ez, hz⟩ := l0.same sD
    have zl := hz.len
    have hr0 := hb r0 (by simp)
    have ne : us.isEmpty = false := by cases us with
      | nil => cases hul
      | cons _ _ => rfl
    rw [ne]
    refine iteT ?_
    refine ⟨_, rfl, p, us, 0, .ref q0, rfl, rfl, SqL.of (sD _ _ ep), atI_nat (j := 0) e0, q0, zs, rfl, .inl (SqL.of ez), (zs.length : Int), rfl, by omega, by omega, ?_⟩
    rw [show ((zs.length : Nat) : Int).toNat = n by rw [Int.toNat_natCast, zl]; exact hr0.2]
    refine for_range (lo := 0) (n := n) (fun i σ H3 => ∃ (y2 : Option V) (ws : List V), σ = [some (.ref p), some (.ref Dw), y2] ∧ H3 Dw = some (.lst ws) ∧ Al (WnV K H3) ws (winA (r0 :: rs) i) ∧ Same H H3) ⟨_, _, rfl, upd_same, .nil, sD⟩ (fun i σ H3 hi hW => ?_) (fun σ H3 hW => ?_)
    · obtain ⟨y2, ws, rfl, eD, hV, sm⟩ := hW
      refine ⟨_, rfl, .inl ⟨rfl, _, SqL.of eD⟩, _, rfl, _, rfl, p, i, r0 :: rs, ?_, lr.same sm, Nat.succ_pos _, hl, fun r hr => ⟨(hb r hr).1, by rw [(hb r hr).2]; exact hi⟩, hu i hi, fun H4 Df s4 nDf ⟨fs, ef, hf⟩ => ?_⟩
      · rw [Int.zero_add]
        rfl
      have eD4 := s4 _ _ eD
      have wl := winA_len hl hu i (by omega)
      have fl := winP_len hl (hu i hi)
      have l1 := hV.1
      have l2 := hf.1
      refine ⟨Dw, Df, ws, fs, rfl, rfl, eD4, ef, Nat.le_trans (show ws.length + fs.length ≤ 2000 by omega) (by decide), _, ws ++ fs, rfl, upd_same, ?_, same_at hDw (sm.trans s4)⟩
      rw [winA_succ]
      exact ((hV.imp fun _ _ _ => WnV.same s4).app hf).imp fun _ _ _ z => z.off eD4
    · obtain ⟨y2, ws, rfl, eD, hV, sm⟩ := hW
      refine ⟨_, rfl, q _ _ sm hDw ⟨ws, eD, ?_⟩⟩
      rw [if_neg (by intro z; cases z)]
      exact hV

end
-- END windows
end DT
namespace DT
open PySem PySem.Spec PyProof.Rows L2 LamX
/-! the plan as the program makes it: promises -/
theorem sqT_ext {K : PySem.W.Frag} {H H' : Hp} {t : Addr} {xs : List V} (e : ExtN H H') (h : SqT K H t xs) : SqT K H' t xs := by
  rcases h with (h | ⟨o, h⟩) | h
  · exact .inl (.inl (e _ _ h fun ps z => by cases z))
  · exact .inl (.inr ⟨o, e _ _ h fun ps z => by cases z⟩)
  · exact .inr h
theorem lst_ext {H H' : Hp} {p : Addr} {us : List V} (e : ExtN H H') (h : H p = some (.lst us)) : H' p = some (.lst us) := e _ _ h fun ps z => by cases z
theorem WnV.ext {K : PySem.W.Frag} {H H' : Hp} {v : V} {w : Wn} (e : ExtN H H') (h : WnV K H v w) : WnV K H' v w := by
  obtain ⟨t, rfl, h⟩ := h
  exact ⟨t, rfl, sqT_ext e h⟩
theorem LW.ext {K : PySem.W.Frag} {H H' : Hp} {p : Addr} {ws : List Wn} (e : ExtN H H') (h : LW K H p ws) : LW K H' p ws := by
  obtain ⟨us, h1, h2⟩ := h
  exact ⟨us, lst_ext e h1, h2.imp fun _ _ _ => WnV.ext e⟩
theorem Pps.ext {K : PySem.W.Frag} {H H' : Hp} (e : ExtN H H') : ∀ {vs : List V} {xs : List Q2}, Pps K H vs xs → Pps K H' vs xs
  | _, _, .nil => .nil
  | _, _, .cons ⟨p, r, h⟩ t => .cons ⟨p, r, sqT_ext e h⟩ (t.ext e)
theorem RowV.ext {K : PySem.W.Frag} {H H' : Hp} {v : V} {r : List Q2} (e : ExtN H H') (h : RowV K H v r) : RowV K H' v r := by
  obtain ⟨q, rfl, us, h1, h2⟩ := h
  exact ⟨q, rfl, us, lst_ext e h1, h2.ext e⟩
theorem LR.ext {K : PySem.W.Frag} {H H' : Hp} {p : Addr} {rss : List (List Q2)} (e : ExtN H H') (h : LR K H p rss) : LR K H' p rss := by
  obtain ⟨us, h1, h2⟩ := h
  exact ⟨us, lst_ext e h1, h2.imp fun _ _ _ => RowV.ext e⟩
theorem ExtN.same {H H1 H2 : Hp} (a : ExtN H H1) (b : Same H1 H2) : ExtN H H2 := fun c o h n => b _ _ (a c o h n)
theorem Same.extN {H H1 : Hp} (a : Same H H1) : ExtN H H1 := fun c o h _ => a _ _ h
theorem ExtN.put {H H1 : Hp} {D : Addr} {o : HO} (a : ExtN H H1) (n : H D = none) : ExtN H (upd H1 D o) := fun c x h nt => by
  rw [upd_ne fun z => by rw [z, n] at h; cases h]
  exact a c x h nt
/-! ### the hours that are lost -/
def lostF (ls : List Nat) (t : Nat) : Bool := decide (t ∈ ls)
theorem ntV_flat (ls : List Nat) : (ntV ls).all flatV = true := by
  rw [List.all_eq_true]
  intro v hv
  unfold ntV at hv
  obtain ⟨t, _, rfl⟩ := List.mem_map.1 hv
  rfl
theorem ntV_in (ls : List Nat) (t : Nat) : inV (.int (t : Int)) (ntV ls) = lostF ls t := by
  unfold lostF
  induction ls with
  | nil => rfl
  | cons a ls ih =>
    have e : inV (.int (t : Int)) (ntV (a :: ls)) = (decide ((a : Int) = (t : Int)) || inV (.int (t : Int)) (ntV ls)) := by
      first | rfl | (simp [ntV, inV]) | (unfold inV ntV; simp; rfl)
    rw [e, ih]
    by_cases h : t = a
    · subst h; simp
    · have : ¬ ((a : Int) = (t : Int)) := by omega
      simp [h, this]
/-- a turn of the plan as a value -/
def plV : Option Wn → V
  | none => .non
  | some w => .int w.1
def sp_open_ahead : Sp := fun vs H Q _ => ∃ (pl : Addr) (ls : List Nat) (many : Nat), vs = [.ref pl, .int many] ∧ H pl = some (.lst (ntV ls)) ∧ many ≤ 900 ∧ ∀ H' q, Same H H' → H q = none → H' q = some (.lst ((List.range (many + 1)).map fun t => V.int (aheadN (lostF ls) t : Nat))) → Q (.ref q) H'
/-- the stretch as it is told -/
def StrV (K : PySem.W.Frag) (H : Hp) (v : V) : Option (Nat × Nat) → Prop
  | none => v = .non
  | some (a, l) => Pr K H v a l
def WnOk (many : Nat) (w : Wn) : Prop := w.2.2.1.isSome = true ∧ ∀ y, dW w = some y → y < many
def sp_crowded (K : PySem.W.Frag) : Sp := fun vs H Q _ => ∃ (p pl : Addr) (ls : List Nat) (ws : List Wn) (many : Nat), vs = [.ref p, .ref pl, .int many] ∧ LW K H p ws ∧ H pl = some (.lst (ntV ls)) ∧ many ≤ 900 ∧ ws.length ≤ 900 ∧ (∀ w ∈ ws, WnOk many w) ∧
  ∀ H' v (L : List (Nat × Nat)), Same H H' → L.Perm (closeL ws) → L.Pairwise (fun p q => p.1 ≤ q.1) → StrV K H' v (crowdP (aheadN (lostF ls)) L (List.range many)) → Q v H'
def QL : Str := "plan_of" ++ ".<locals>." ++ "<lambda>"
def sp_plan_of (K : PySem.W.Frag) (PT : Addr) : Sp := fun vs H Q _ => ∃ (p pl : Addr) (ls : List Nat) (ws : List Wn) (many : Nat), vs = [.ref p, .ref pl, .int many] ∧ Tabs [(PT, QL)] H ∧ LW K H p ws ∧ H pl = some (.lst (ntV ls)) ∧ many ≤ 900 ∧ ws.length ≤ 900 ∧ (∀ w ∈ ws, WnOk many w) ∧
  ∀ H' q os W, ExtN H H' → Tabs [(PT, QL)] H' → H q = none → H' q = some (.lst (os.map plV)) → PlanTo rW dW (lostF ls) many ws many os W → Q (.ref q) H'
/-- what is planned -/
def PlanV (K : PySem.W.Frag) (H H' : Hp) (t : Addr) (ls : List Nat) (ws : List Wn) (many : Nat) : Option (Nat × Nat) → Prop
  | none => ∃ q os W, SqT K H' t [.str "plan", .ref q] ∧ H q = none ∧ H' q = some (.lst (os.map plV)) ∧ PlanTo rW dW (lostF ls) many ws many os W
  | some (a, l) => SqT K H' t [.str "stretch", .int a, .int l]
def sp_planned (K : PySem.W.Frag) (PT : Addr) : Sp := fun vs H Q _ => ∃ (p pl : Addr) (ls : List Nat) (n : Nat) (rss : List (List Q2)), vs = [.ref p, .ref pl] ∧ Tabs [(PT, QL)] H ∧ LR K H p rss ∧ H pl = some (.lst (ntV ls)) ∧ rss.length ≤ 61 ∧ n ≤ 12 ∧ (∀ r ∈ rss, AllOk 26 r ∧ r.length = n) ∧ (∀ pl, pl < n → Unit01 (colP rss pl)) ∧
  ∀ H' t (L : List (Nat × Nat)), ExtN H H' → Tabs [(PT, QL)] H' → L.Perm (closeL (winA rss n)) → L.Pairwise (fun p q => p.1 ≤ q.1) → PlanV K H H' t ls (winA rss n) rss.length (crowdP (aheadN (lostF ls)) L (List.range rss.length)) → Q (.ref t) H'
theorem winA_ok {rss : List (List Q2)} {n : Nat} (hu : ∀ pl, pl < n → Unit01 (colP rss pl)) : ∀ w ∈ winA rss n, WnOk rss.length w := fun w hw => by
  unfold winA at hw
  obtain ⟨pl, hp, hw⟩ := List.mem_flatMap.1 hw
  have hp := List.mem_range.1 hp
  unfold winP at hw
  obtain ⟨j, hj, rfl⟩ := List.mem_map.1 hw
  have hj := List.mem_range.1 hj
  by_cases h0 : 0 < (colP rss pl).length
  · refine ⟨?_, fun y e => ?_⟩
    · show (firstK ((gnM (colP rss pl)).map ceilP) ((j : Int) + 1)).isSome = true
      rw [first_is (hu pl hp) _ h0]
      exact decide_eq_true (by omega)
    · have e : firstK ((gnM (colP rss pl)).map floorP) ((j : Int) + 1) = some y := e
      unfold firstK at e
      have := List.mem_of_find?_eq_some e
      rw [List.mem_range, cs_len, colP_len] at this
      exact this
  · exfalso
    have : colP rss pl = [] := List.length_eq_zero_iff.1 (by omega)
    rw [this] at hj
    have c0 : ceilP (sumP []) = 0 := ceil0
    rw [c0] at hj
    simp at hj
end DT
namespace DT
open PySem PySem.Spec PyProof.Rows L2 LamX
/-- a pair of numbers in the heap -/
def TwV (H : Hp) (v : V) (p : Nat × Nat) : Prop := ∃ t, v = .ref t ∧ H t = some (.tup [.int (p.1 : Nat), .int (p.2 : Nat)])
theorem TwV.same {H H' : Hp} {v : V} {p : Nat × Nat} (e : Same H H') (h : TwV H v p) : TwV H' v p := by
  obtain ⟨t, rfl, h⟩ := h
  exact ⟨t, rfl, e _ _ h⟩
theorem TwV.off {H : Hp} {v : V} {p : Nat × Nat} {D : Addr} {us vs : List V} (hD : H D = some (.lst us)) (h : TwV H v p) : TwV (upd H D (.lst vs)) v p := by
  obtain ⟨t, rfl, h⟩ := h
  exact ⟨t, rfl, by rw [upd_ne fun z => by rw [z, hD] at h; cases h]; exact h⟩
/-- what two numbers lie at an address -/
def keyH (H : Hp) : V → Int × Int
  | .ref t => (match H t with
    | some (.tup [.int a, .int b]) => (a, b)
    | _ => (0, 0))
  | _ => (0, 0)
theorem TwV.key {H : Hp} {v : V} {p : Nat × Nat} (h : TwV H v p) : keyH H v = ((p.1 : Int), (p.2 : Int)) := by
  obtain ⟨t, rfl, h⟩ := h
  unfold keyH
  dsimp only
  rw [h]
def backK (z : Int × Int) : Nat × Nat := (z.1.toNat, z.2.toNat)
theorem al_key {H : Hp} : ∀ {vs : List V} {ps : List (Nat × Nat)}, Al (TwV H) vs ps → vs.map (fun v => backK (keyH H v)) = ps
  | [], [], _ => rfl
  | v :: vs, p :: ps, h => by
    have h0 := h.2 0 v p rfl rfl
    rw [List.map_cons, al_key (vs := vs) (ps := ps) ⟨by have := h.1; simpa using this, fun i v y e1 e2 => h.2 (i + 1) v y e1 e2⟩, h0.key]
    rfl
  | [], _ :: _, h => by cases h.1
  | _ :: _, [], h => by cases h.1
/-- sorted by their numbers -/
theorem sort_al {H : Hp} {xs ys : List V} {ps : List (Nat × Nat)} (h : Al (TwV H) xs ps) (s1 : SrtO.Srtd (ltP (keyH H)) ys) (s2 : SrtO.Stb (ltP (keyH H)) ys xs) :
    ∃ L : List (Nat × Nat), Al (TwV H) ys L ∧ L.Perm ps ∧ L.Pairwise (fun p q => p.1 ≤ q.1) := by
  have hm : ∀ y ∈ ys, ∃ p, TwV H y p := fun y hy => by
    obtain ⟨i, hi, e⟩ := List.getElem_of_mem (s2.perm.mem_iff.1 hy)
    have hl := h.1
    exact ⟨ps[i]'(by omega), h.2 i y _ (by rw [List.getElem?_eq_getElem hi, e]) (List.getElem?_eq_getElem (by omega))⟩
  have key : ∀ y ∈ ys, TwV H y (backK (keyH H y)) := fun y hy => by
    obtain ⟨p, hp⟩ := hm y hy
    rw [hp.key]
    exact hp
  refine ⟨ys.map fun v => backK (keyH H v), ⟨by rw [List.length_map], fun i v x e1 e2 => ?_⟩, ?_, ?_⟩
  · rw [List.getElem?_map, e1] at e2
    obtain rfl := Option.some.inj e2
    exact key v (List.mem_of_getElem? e1)
  · rw [← al_key h]
    exact s2.perm.map _
  · rw [List.pairwise_map]
    refine List.Pairwise.imp_of_mem (fun {a b} ha hb r => ?_) s1
    obtain ⟨pa, ha⟩ := hm a ha
    obtain ⟨pb, hb⟩ := hm b hb
    have r := SrtO.lexB_no.1 r
    rw [ha.key, hb.key] at r ⊢
    unfold backK
    dsimp only at r ⊢
    omega
end DT
namespace DT
open PySem PySem.Spec PyProof.Rows L2 LamX
/-! the plan hour by hour -/
structure PlI (K : PySem.W.Frag) (PT : Addr) (H : Hp) (Dw Dp : Addr) (ls : List Nat) (ws : List Wn) (many i : Nat) (H' : Hp) (us : List V) (W : List Wn) (os : List (Option Wn)) : Prop where
  nw : H Dw = none
  np : H Dp = none
  nwp : Dw ≠ Dp
  eW : H' Dw = some (.lst us)
  aW : Al (WnV K H') us W
  sub : ∀ w ∈ W, w ∈ ws
  wl : W.length ≤ ws.length
  eP : H' Dp = some (.lst (os.map plV))
  ol : os.length = i
  pt : PlanTo rW dW (lostF ls) many ws i os W
  ex : ExtN H H'
  tb : Tabs [(PT, QL)] H'
section
variable {K : PySem.W.Frag} {PT : Addr} {H : Hp} {Dw Dp : Addr} {ls : List Nat} {ws : List Wn} {many i : Nat} {H' H3 : Hp} {us : List V} {W : List Wn} {os : List (Option Wn)}
theorem PlI.ext (h : PlI K PT H Dw Dp ls ws many i H' us W os) (e : ExtN H' H3) (t : Tabs [(PT, QL)] H3) : PlI K PT H Dw Dp ls ws many i H3 us W os :=
  ⟨h.nw, h.np, h.nwp, lst_ext e h.eW, h.aW.imp fun _ _ _ => WnV.ext e, h.sub, h.wl, lst_ext e h.eP, h.ol, h.pt, h.ex.trans e, t⟩
theorem PlI.same (h : PlI K PT H Dw Dp ls ws many i H' us W os) (e : Same H' H3) : PlI K PT H Dw Dp ls ws many i H3 us W os := h.ext (Same.extN e) (h.tb.ext e)
theorem tabs_put {p : Addr} {xs ys : List V} (e : H' p = some (.lst xs)) (t : Tabs [(PT, QL)] H') : Tabs [(PT, QL)] (upd H' p (.lst ys)) := fun z hz => by
  obtain ⟨ps, h1, h2, h3⟩ := t z hz
  refine ⟨ps, by rw [upd_ne fun q => by rw [q, e] at h1; cases h1]; exact h1, h2, fun pos cv hc => ?_⟩
  obtain ⟨c, e1, e2⟩ := h3 pos cv hc
  exact ⟨c, e1, by rw [upd_ne fun q => by rw [q, e] at e2; unfold CodeO at e2; cases e2]; exact e2⟩
theorem PlI.tell (h : PlI K PT H Dw Dp ls ws many i H' us W os) {o : Option Wn} (g : Hour rW dW (lostF ls) many i W o W) : PlI K PT H Dw Dp ls ws many (i + 1) (upd H' Dp (.lst (os.map plV ++ [plV o]))) us W (os ++ [o]) :=
  ⟨h.nw, h.np, h.nwp, by rw [upd_ne h.nwp]; exact h.eW, h.aW.imp fun _ _ _ z => z.off h.eP, h.sub, h.wl, by rw [upd_same, List.map_append]; rfl, by rw [List.length_append, h.ol]; rfl, .snoc h.pt g, ExtN.put h.ex h.np, tabs_put h.eP h.tb⟩
theorem al_erase {α : Type} {R : V → α → Prop} {us : List V} {xs : List α} (h : Al R us xs) (j : Nat) : Al R (us.eraseIdx j) (xs.eraseIdx j) := by
  refine ⟨by rw [List.length_eraseIdx, List.length_eraseIdx, h.1], fun i v x e1 e2 => ?_⟩
  rw [List.getElem?_eraseIdx] at e1 e2
  split at e1
  · rename_i c
    rw [if_pos c] at e2
    exact h.2 i v x e1 e2
  · rename_i c
    rw [if_neg c] at e2
    exact h.2 (i + 1) v x e1 e2
theorem PlI.take (h : PlI K PT H Dw Dp ls ws many i H' us W os) {w : Wn} {j : Nat} (g : Hour rW dW (lostF ls) many i W (some w) (W.eraseIdx j)) :
    PlI K PT H Dw Dp ls ws many (i + 1) (upd (upd H' Dw (.lst (us.eraseIdx j))) Dp (.lst (os.map plV ++ [.int w.1]))) (us.eraseIdx j) (W.eraseIdx j) (os ++ [some w]) := by
  have eP : upd H' Dw (.lst (us.eraseIdx j)) Dp = some (.lst (os.map plV)) := by rw [upd_ne h.nwp.symm]; exact h.eP
  refine ⟨h.nw, h.np, h.nwp, by rw [upd_ne h.nwp, upd_same], (al_erase h.aW j).imp fun _ _ _ z => (z.off h.eW).off eP, fun w hw => h.sub w (List.mem_of_mem_eraseIdx hw), Nat.le_trans (List.length_eraseIdx_le _ _) h.wl, by rw [upd_same, List.map_append]; rfl, by rw [List.length_append, h.ol]; rfl, .snoc h.pt g, ExtN.put (ExtN.put h.ex h.nw) h.np, tabs_put eP (tabs_put h.eW h.tb)⟩
end
theorem datW_inj {a b : Wn} (h : PyData.eqv (datW a) (datW b) = true) : a.1 = b.1 ∧ a.2.1 = b.2.1 ∧ PyData.eqv (oD a.2.2.1) (oD b.2.2.1) = true ∧ PyData.eqv (oD a.2.2.2) (oD b.2.2.2) = true := by
  simp only [datW, PyData.eqv, PyData.eqvAll, Bool.and_eq_true, Bool.and_true] at h
  obtain ⟨h1, h2, h3, h4⟩ := h
  refine ⟨?_, ?_, h3, h4⟩
  · have := of_decide_eq_true (by simpa using h1 : decide ((a.1 : Int) = (b.1 : Int)) = true)
    omega
  · have := of_decide_eq_true (by simpa using h2 : decide ((a.2.1 : Int) = (b.2.1 : Int)) = true)
    omega
theorem oD_inj {a b : Option Nat} (h : PyData.eqv (oD a) (oD b) = true) : a = b := by
  cases a <;> cases b
  · rfl
  · simp [oD, PyData.eqv] at h
  · simp [oD, PyData.eqv] at h
  · simp [oD, PyData.eqv] at h
    congr 1
    omega
theorem datW_eq {a b : Wn} (h : PyData.eqv (datW a) (datW b) = true) : a = b := by
  obtain ⟨h1, h2, h3, h4⟩ := datW_inj h
  obtain ⟨a1, a2, a3, a4⟩ := a
  obtain ⟨b1, b2, b3, b4⟩ := b
  have e3 := oD_inj h3
  have e4 := oD_inj h4
  dsimp only at h1 h2 e3 e4
  rw [h1, h2, e3, e4]
theorem datW_refl (a : Wn) : PyData.eqv (datW a) (datW a) = true := by
  have o : ∀ x : Option Nat, PyData.eqv (oD x) (oD x) = true := fun x => by cases x <;> simp [oD, PyData.eqv]
  simp [datW, PyData.eqv, PyData.eqvAll, o]
/-- where an equal one lies first -/
theorem place_w {W : List Wn} {w : Wn} (h : w ∈ W) : ∃ j, PySem.SeqAt.dataPlace (W.map datW) (datW w) = some j ∧ W[j]? = some w := by
  cases e : PySem.SeqAt.dataPlace (W.map datW) (datW w) with
  | none =>
    unfold PySem.SeqAt.dataPlace at e
    rw [List.findIdx?_eq_none_iff] at e
    have := e (datW w) (List.mem_map.2 ⟨w, h, rfl⟩)
    rw [datW_refl] at this
    cases this
  | some j =>
    refine ⟨j, rfl, ?_⟩
    unfold PySem.SeqAt.dataPlace at e
    obtain ⟨hj, h2, _⟩ := List.findIdx?_eq_some_iff_getElem.1 e
    rw [List.length_map] at hj
    rw [List.getElem_map] at h2
    rw [List.getElem?_eq_getElem hj, datW_eq h2]
theorem plain_dw (w : Wn) : (datW w).plain = true := by
  have o : ∀ x : Option Nat, (oD x).plain = true := fun x => by cases x <;> simp [oD, PyData.plain]
  simp [datW, PyData.plain, PyData.plainAll, o]
theorem plain_dws : ∀ ws : List Wn, PyData.plainAll (ws.map datW) = true
  | [] => rfl
  | w :: ws => by
    rw [List.map_cons]
    simp only [PyData.plainAll, plain_dw, plain_dws ws, Bool.and_self]
theorem depth_dw (w : Wn) : (datW w).depth ≤ 8 := by
  have o : ∀ x : Option Nat, (oD x).depth ≤ 1 := fun x => by cases x <;> simp [oD, PyData.depth]
  have h1 := o w.2.2.1
  have h2 := o w.2.2.2
  simp only [datW, PyData.depth, PyData.depthAll]
  omega
end DT

namespace DT
open PySem PySem.Spec PyProof.Rows L2 TL
-- END @planp.lean
abbrev N_open_ahead : List Str := ["lost", "many", "counts", "hour"]
theorem sc_open_ahead : FnScope N_open_ahead ["lost", "many"] (defScope s_open_ahead) := ⟨rfl, rfl, rfl, by decide +kernel, rfl, by decide +kernel, by decide +kernel⟩
section
variable {P : Program} {w : World} {K : PySem.W.Frag} {mg : Str → Option Value} {base : Heap}
theorem ok_open_ahead {k : Nat} (T : Env K mg) : FnOk P w K mg base CX0 (k + 1) T.D_open_ahead.f T.D_open_ahead.fd ["lost", "many"] sp_open_ahead := by
  refine T.D_open_ahead.F.ok sc_open_ahead (fun vs H Q E h => ?_) (fun cdv A outer s H vs Q E hr h => ?_)
  · obtain ⟨p, ls, many, rfl, _⟩ := h
    rfl
  obtain ⟨pl, ls, many, rfl, el0, hm, q⟩ := h
  refine ⟨_, (pss_cons (ps_set (i := 2) sc_open_ahead.nd rfl (.inl rfl) (pe_lst (pa_cons pe_int pa_nil)))
      (pss_cons (ps_for PassesOwn.never rfl (pi_range1 (by rfl) T.m_range (pa_cons (pv 1) pa_nil)) (pg_name (i := 3) sc_open_ahead.nd rfl (.inl rfl)) (pss_one (ps_expr (pe_bm PySem.F.plainAttrs_list PySem.F.slot_list_append PySem.F.type_list_append mt_append (pv 2) (pa_cons (pe_op op_add (pe_ix ix_list (pv 2) (pe_un un_neg pe_int) (fun _ _ => rfl)) (pe_ifExp (pt_cmpR op_in_seq (pv 3) (pv 0) (by rfl)) pe_int pe_int)) pa_nil)))))
      (pss_one (ps_ret (pv 2))))), ?_⟩
  refine ⟨by decide, fun Dc hDc => ?_⟩
  have s0 := same_upd (o := .lst [.int 0]) hDc
  refine ⟨_, rfl, (many : Int), rfl, by omega, by omega, ?_⟩
  refine for_range (lo := 0) (n := many) (fun i σ H' => ∃ y3, σ = [some (.ref pl), some (.int (many : Int)), some (.ref Dc), y3] ∧ H' Dc = some (.lst ((List.range (i + 1)).map fun t => V.int (aheadN (lostF ls) t : Nat))) ∧ Same H H') ⟨_, rfl, upd_same, s0⟩ (fun i σ H' hi hW => ?_) (fun σ H' hW => ?_)
  · obtain ⟨y3, rfl, eD, sm⟩ := hW
    have hl : ((List.range (i + 1)).map fun t => V.int (aheadN (lostF ls) t : Nat)).length = i + 1 := by simp
    have el : atI ((List.range (i + 1)).map fun t => V.int (aheadN (lostF ls) t : Nat)) (-1) = some (V.int (aheadN (lostF ls) i : Nat)) := by
      apply atI_last
      rw [hl, Nat.add_sub_cancel, List.getElem?_map, List.getElem?_range (Nat.lt_succ_self i)]
      rfl
    have go : ∀ z : Int, z = (if lostF ls i then 0 else 1) → upd H' Dc (.lst (((List.range (i + 1)).map fun t => V.int (aheadN (lostF ls) t : Nat)) ++ [V.int ((aheadN (lostF ls) i : Nat) + z)])) Dc = some (.lst ((List.range (i + 1 + 1)).map fun t => V.int (aheadN (lostF ls) t : Nat))) := fun z ez => by
      rw [upd_same, List.range_succ (n := i + 1), List.map_append, List.map_cons, List.map_nil]
      have : ((aheadN (lostF ls) i : Nat) : Int) + z = ((aheadN (lostF ls) (i + 1) : Nat) : Int) := by
        show _ = ((aheadN (lostF ls) i + (if lostF ls i then 0 else 1) : Nat) : Int)
        rw [ez]
        cases lostF ls i <;> simp
      rw [this]
    refine ⟨_, rfl, .inl ⟨rfl, _, SqL.of eD⟩, _, rfl, _, rfl, Dc, _, _, _, rfl, rfl, SqL.of eD, el, _, rfl, _, rfl, pl, _, rfl, .inl (SqL.of (sm _ _ el0)), rfl, ntV_flat ls, _, rfl, ?_⟩
    rw [if_neg Bool.false_ne_true, show (0 : Int) + (i : Int) = (i : Int) by omega, ntV_in]
    cases e : lostF ls i with
    | true => exact iteT ⟨_, _, rfl, rfl, Dc, _, _, rfl, rfl, eD, small1000 (by rw [hl]; omega), _, rfl, go 0 (by rw [e]; rfl), same_at hDc sm⟩
    | false => exact iteF ⟨_, _, rfl, rfl, Dc, _, _, rfl, rfl, eD, small1000 (by rw [hl]; omega), _, rfl, go 1 (by rw [e]; rfl), same_at hDc sm⟩
  · obtain ⟨y3, rfl, eD, sm⟩ := hW
    exact ⟨_, rfl, q _ _ sm hDc eD⟩

end
-- END open_ahead
abbrev N_crowded : List Str := ["spans", "lost", "many", "first", "last", "closing", "ahead", "start", "within", "place", "k"]
theorem sc_crowded : FnScope N_crowded ["spans", "lost", "many"] (defScope s_crowded) := ⟨rfl, rfl, rfl, by decide +kernel, rfl, by decide +kernel, by decide +kernel⟩
section
variable {P : Program} {w : World} {K : PySem.W.Frag} {mg : Str → Option Value} {base : Heap}
theorem ok_crowded {k : Nat} (T : Env K mg) : FnOk P w K mg base CX0 (k + 3) T.D_crowded.f T.D_crowded.fd ["spans", "lost", "many"] (sp_crowded K) := by
  have G_open_ahead : FnOk P w K mg base CX0 1 T.D_open_ahead.f T.D_open_ahead.fd ["lost", "many"] sp_open_ahead := ok_open_ahead T
  refine T.D_crowded.F.ok sc_crowded (fun vs H Q E h => ?_) (fun cdv A outer s H vs Q E hr h => ?_)
  · obtain ⟨p, pl, ls, ws, many, rfl, _⟩ := h
    rfl
  obtain ⟨p, pl, ls, ws, many, rfl, lw, el, hm, hw, wk, q⟩ := h
  obtain ⟨us, ep, hA⟩ := id lw
  refine ⟨_, (pss_cons (ps_set (i := 5) sc_crowded.nd rfl (.inl rfl) (pe_callB cr_sortedPO (by rfl) T.m_sorted (by decide +kernel) (pa_cons (pe_lc (own := [("place", 9), ("k", 10), ("first", 3), ("last", 4)]) (g := gTup K 4 (gCons (gName 9) (gCons (gName 10) (gCons (gName 3) (gCons (gName 4) gNil))))) (tt := _) rfl sc_crowded.nd (pi_list (pv 0)) (blkOk_by (N := N_crowded) (sc := defScope s_crowded) (by decide +kernel)) (fun _ _ _ _ _ => pg_tup rfl (pgs_cons (pg_name (i := 9) sc_crowded.nd rfl (Or.inl rfl)) (pgs_cons (pg_name (i := 10) sc_crowded.nd rfl (Or.inl rfl)) (pgs_cons (pg_name (i := 3) sc_crowded.nd rfl (Or.inl rfl)) (pgs_cons (pg_name (i := 4) sc_crowded.nd rfl (Or.inl rfl)) pgs_nil))))) (fun _ _ _ _ _ => (pts_one (pt_cmpR op_notN (pv 4) pe_non (nomark _)))) (fun _ _ _ _ _ => (pe_tup (pa_cons (pv 4) (pa_cons (pv 3) pa_nil))))) pa_nil)))
      (pss_cons (ps_set (i := 6) sc_crowded.nd rfl (.inl rfl) (pe_call G_open_ahead (hr.mono (by omega)) (by rfl) T.D_open_ahead.g T.D_open_ahead.F.kp T.D_open_ahead.b .nil pass0 (pa_cons (pv 1) (pa_cons (pv 2) pa_nil))))
      (pss_cons (ps_for PassesOwn.never rfl (pi_range1 (by rfl) T.m_range (pa_cons (pv 2) pa_nil)) (pg_name (i := 7) sc_crowded.nd rfl (.inl rfl)) (pss_cons (ps_set (i := 8) sc_crowded.nd rfl (.inl rfl) pe_int)
      (pss_one (ps_for PassesOwn.never rfl (pi_list (pv 5)) (pg_tup rfl (pgs_cons (pg_name (i := 4) sc_crowded.nd rfl (.inl rfl)) (pgs_cons (pg_name (i := 3) sc_crowded.nd rfl (.inl rfl)) pgs_nil))) (pss_one (ps_if (pt_cmpR op_ge (pv 3) (pv 7) (nomark _)) (pss_cons (ps_aug (i := 8) sc_crowded.nd rfl (.inl rfl) pe_int ip_add)
      (pss_one (ps_if (pt_cmpR op_gt (pv 8) (pe_op op_sub (pe_ix ix_list (pv 6) (pe_op op_add (pv 4) pe_int) (fun _ _ => rfl)) (pe_ix ix_list (pv 6) (pv 7) (fun _ _ => rfl))) (nomark _)) (pss_one (ps_ret (pe_tup (pa_cons (pv 7) (pa_cons (pv 4) pa_nil))))) pss_nil))) pss_nil))))))
      (pss_one (ps_ret pe_non))))), ?_⟩
  refine ⟨_, rfl, p, rfl, ⟨_, SqL.of ep⟩, fun Dc hDc => ?_⟩
  refine lc_list (xs := us) (fun j H' => ∃ vs, H' Dc = some (.lst vs) ∧ Al (TwV H') vs (closeL (ws.take j)) ∧ Same H H') ⟨[], upd_same, .nil, same_upd hDc⟩ (fun j H' _ hW => ?_) (fun j x H' hx hW => ?_) (fun H1 hW => ?_)
  · obtain ⟨_, _, _, sm⟩ := hW
    exact SqL.of (sm _ _ ep)
  · obtain ⟨vs, eV, hV, sm⟩ := hW
    obtain ⟨w', ew, t, rfl, hT⟩ := hA.of hx
    have hwk := wk w' (List.mem_of_getElem? ew)
    obtain ⟨f0, ef⟩ := Option.isSome_iff_exists.1 hwk.1
    have er : rW w' = f0 := by unfold rW; rw [ef]; rfl
    have ec : closeL (ws.take (j + 1)) = closeL (ws.take j) ++ (match dW w' with | none => [] | some y => [(y, f0)]) := by
      rw [List.take_add_one, ew]
      unfold closeL
      rw [List.filterMap_append]
      congr 1
      show List.filterMap _ [w'] = _
      rw [List.filterMap_cons, List.filterMap_nil]
      cases dW w' with
      | none => rfl
      | some y => rw [← er]; rfl
    have vl := hV.1
    have cl : (closeL (ws.take j)).length ≤ 900 := by
      unfold closeL
      exact Nat.le_trans (List.length_filterMap_le _ _) (by rw [List.length_take]; omega)
    refine ⟨t, _, rfl, same_seqT sm hT, rfl, _, _, rfl, _, _, rfl, _, _, rfl, _, _, rfl, rfl, ?_⟩
    refine ⟨rfl, ?_⟩
    refine ⟨oV w'.2.2.2, rfl, rfl, _, rfl, ?_⟩
    cases ed : w'.2.2.2 with
    | none =>
      refine iteF ?_
      refine ⟨vs, eV, ?_, sm⟩
      rw [ec, show dW w' = none from ed, List.append_nil]
      exact hV
    | some y =>
      refine iteT ?_
      rw [ef]
      refine ⟨_, rfl, _, rfl, (by show 2 ≤ sizeLine; decide), fun tt htt => ?_⟩
      have st := same_upd (o := .tup [.int (y : Nat), .int (f0 : Nat)]) htt
      refine ⟨vs, st _ _ eV, small1000 (by omega), _, upd_same, ?_, same_at hDc (sm.trans st)⟩
      rw [ec, show dW w' = some y from ed]
      refine (Al.snoc (R := TwV (upd H' tt (.tup [.int (y : Nat), .int (f0 : Nat)]))) (hV.imp fun _ _ _ z => z.same st) ⟨tt, rfl, upd_same⟩).imp fun _ _ _ z => TwV.off (st _ _ eV) z
  obtain ⟨vs, eV, hV, s1⟩ := hW
  rw [hA.1, List.take_of_length_le (Nat.le_refl _)] at hV
  refine ⟨Dc, vs, keyH H1, rfl, SqL.of eV, fun x hx => ?_, fun ys Ds o1 o2 hDs => ?_⟩
  · obtain ⟨i, hi, e⟩ := List.getElem_of_mem hx
    have hl := hV.1
    have hp := hV.2 i x _ (by rw [List.getElem?_eq_getElem hi, e]) (List.getElem?_eq_getElem (show i < (closeL ws).length by omega))
    have hk := hp.key
    obtain ⟨t, rfl, ht⟩ := hp
    exact ⟨t, rfl, by rw [hk]; exact ht⟩
  obtain ⟨L, hL, pm, so⟩ := sort_al hV o1 o2
  have s2 := same_upd (o := .lst ys) hDs
  have s02 := s1.trans s2
  refine ⟨_, rfl, _, rfl, pl, ls, many, rfl, s02 _ _ el, hm, fun H2 Da s3 nDa eA => ?_⟩
  have s03 := s02.trans s3
  have eD2 : H2 Ds = some (.lst ys) := s3 _ _ upd_same
  have hL2 : Al (TwV H2) ys L := hL.imp fun _ _ _ z => (z.same s2).same s3
  have q' := fun H' v (s : Same H H') => q H' v L s pm so
  have lo : ∀ z ∈ L, z.1 < many := fun z hz => by
    have := pm.mem_iff.1 hz
    unfold closeL at this
    obtain ⟨w', hw', e⟩ := List.mem_filterMap.1 this
    cases ed : dW w' with
    | none => rw [ed] at e; cases e
    | some y =>
      rw [ed] at e
      obtain rfl := Option.some.inj e
      exact (wk w' hw').2 y ed
  clear q hV o1 o2 hL pm so
  have at_ : ∀ t, t ≤ many → ((List.range (many + 1)).map fun t => V.int (aheadN (lostF ls) t : Nat))[t]? = some (V.int (aheadN (lostF ls) t : Nat)) := fun t ht => by
    rw [List.getElem?_map, List.getElem?_range (by omega)]
    rfl
  refine ⟨_, rfl, (many : Int), rfl, by omega, by omega, ?_⟩
  refine for_range (lo := 0) (n := many) (fun i σ H' => ∃ y3 y4 y7 y8 y9 y10, σ = [some (.ref p), some (.ref pl), some (.int (many : Int)), y3, y4, some (.ref Ds), some (.ref Da), y7, y8, y9, y10] ∧ crowdP (aheadN (lostF ls)) L ((List.range many).drop i) = crowdP (aheadN (lostF ls)) L (List.range many) ∧ Same H2 H') ⟨_, _, _, _, _, _, rfl, rfl, Same.refl _⟩ (fun i σ H' hi hW => ?_) (fun σ H' hW => ?_)
  · obtain ⟨y3, y4, y7, y8, y9, y10, rfl, cr, sm⟩ := hW
    rw [List.drop_eq_getElem_cons (by simpa using hi), List.getElem_range] at cr
    have cr : (match hitR (aheadN (lostF ls)) i 0 L with | some l => some (i, l) | none => crowdP (aheadN (lostF ls)) L ((List.range many).drop (i + 1))) = crowdP (aheadN (lostF ls)) L (List.range many) := cr
    refine ⟨_, rfl, Ds, rfl, ⟨_, SqL.of (sm _ _ eD2)⟩, ?_⟩
    refine for_list (xs := ys) (fun j σ H3 => ∃ (y3 y4 : Option V) (wn : Nat), σ = [some (.ref p), some (.ref pl), some (.int (many : Int)), y3, y4, some (.ref Ds), some (.ref Da), some (.int (0 + (i : Int))), some (.int (wn : Int)), y9, y10] ∧ hitR (aheadN (lostF ls)) i wn (L.drop j) = hitR (aheadN (lostF ls)) i 0 L ∧ Same H2 H3) ⟨_, _, 0, rfl, rfl, sm⟩ (fun j σ H3 _ hW => ?_) (fun j x σ H3 hx hW => ?_) (fun σ H3 hW => ?_)
    · obtain ⟨_, _, _, _, _, sm3⟩ := hW
      exact SqL.of (sm3 _ _ eD2)
    · obtain ⟨y3, y4, wn, rfl, hh, sm3⟩ := hW
      obtain ⟨⟨l, f⟩, eL, t, rfl, ht⟩ := hL2.of hx
      have ht3 := sm3 _ _ ht
      have eA3 := sm3 _ _ eA
      have ln := lo _ (List.mem_of_getElem? eL)
      obtain ⟨hjl, ej⟩ := List.getElem?_eq_some_iff.1 eL
      rw [List.drop_eq_getElem_cons hjl, ej] at hh
      have hh : (if i ≤ f then (if (aheadN (lostF ls) (l + 1) : Int) - aheadN (lostF ls) i < (wn : Int) + 1 then some l else hitR (aheadN (lostF ls)) i (wn + 1) (L.drop (j + 1))) else hitR (aheadN (lostF ls)) i wn (L.drop (j + 1))) = hitR (aheadN (lostF ls)) i 0 L := hh
      refine ⟨t, _, rfl, SqT.of ht3, rfl, _, _, rfl, _, _, rfl, rfl, ?_⟩
      refine ⟨_, rfl, _, rfl, _, _, rfl, rfl, _, rfl, ite2 (fun e => ?_) (fun e => ?_)⟩
      · have e : i ≤ f := by simpa using e
        rw [if_pos e] at hh
        have a1 := at_ (l + 1) (by omega)
        have a2 := at_ i (by omega)
        refine ⟨_, rfl, _, _, rfl, rfl, ?_⟩
        refine ⟨_, rfl, _, rfl, _, rfl, _, _, rfl, rfl, Da, _, _, _, rfl, rfl, SqL.of eA3, atI_nat a1, _, rfl, _, rfl, Da, _, _, _, rfl, rfl, SqL.of eA3, by rw [Int.zero_add]; exact atI_nat a2, _, _, rfl, rfl, _, _, rfl, rfl, _, rfl, ite2 (fun e2 => ?_) (fun e2 => ?_)⟩
        · have e2 : (aheadN (lostF ls) (l + 1) : Int) - aheadN (lostF ls) i < (wn : Int) + 1 := by simpa using e2
          rw [if_pos e2] at hh
          rw [← hh] at cr
          refine ⟨_, rfl, _, rfl, (by show 2 ≤ sizeLine; decide), fun tt htt => ?_⟩
          have st := same_upd (o := .tup [.int (0 + (i : Int)), .int (l : Nat)]) htt
          have := q' _ (.ref tt) ((s03.trans sm3).trans st)
          rw [← cr] at this
          refine this ⟨tt, rfl, ?_⟩
          rw [Int.zero_add]
          exact SqT.of upd_same
        · have e2 : ¬ (aheadN (lostF ls) (l + 1) : Int) - aheadN (lostF ls) i < (wn : Int) + 1 := by simpa using e2
          rw [if_neg e2] at hh
          exact ⟨_, _, wn + 1, rfl, hh, sm3⟩
      · have e : ¬ i ≤ f := by simpa using e
        rw [if_neg e] at hh
        exact ⟨_, _, wn, rfl, hh, sm3⟩
    · obtain ⟨y3, y4, wn, rfl, hh, sm3⟩ := hW
      rw [hL2.1, List.drop_of_length_le (Nat.le_refl _)] at hh
      have hh : none = hitR (aheadN (lostF ls)) i 0 L := hh
      rw [← hh] at cr
      exact ⟨_, _, _, _, _, _, rfl, cr, sm3⟩
  · obtain ⟨y3, y4, y7, y8, y9, y10, rfl, cr, sm⟩ := hW
    rw [List.drop_of_length_le (by rw [List.length_range]; exact Nat.le_refl _)] at cr
    have := q' H' .non (s03.trans sm)
    rw [← cr] at this
    exact this rfl

end
-- END crowded
abbrev N_plan_of : List Str := ["spans", "lost", "many", "waiting", "plan", "hour", "span", "ready"]
theorem sc_plan_of : FnScope N_plan_of ["spans", "lost", "many"] (defScope s_plan_of) := ⟨rfl, rfl, rfl, by decide +kernel, rfl, by decide +kernel, by decide +kernel⟩
section
variable {P : Program} {w : World} {K : PySem.W.Frag} {mg : Str → Option Value} {base : Heap}
theorem ok_plan_of {k : Nat} (T : Env K mg) (TB : LamX.TabB base mg T.c_plan_of T.P_plan_of) : FnOk P w K mg base CX0 (k + 4) T.D_plan_of.f T.D_plan_of.fd ["spans", "lost", "many"] (sp_plan_of K T.P_plan_of) := by
  refine LamK.fun_okC T.D_plan_of.F T.e_plan_of sc_plan_of (fun vs H Q E h => ?_) (fun A outer s H vs Q E hr h => ?_)
  · obtain ⟨p, pl, ls, ws, many, rfl, _⟩ := h
    rfl
  obtain ⟨p, pl, ls, ws, many, rfl, tb, lw, el, hm, hw, wk, q⟩ := h
  obtain ⟨us, ep, hA⟩ := id lw
  refine ⟨_, (pss_cons (ps_set (i := 3) sc_plan_of.nd rfl (.inl rfl) (pe_callTy call_list_of (by rfl) T.m_list PyProof.Rows.boot_list (pa_cons (pv 0) pa_nil)))
      (pss_cons (ps_set (i := 4) sc_plan_of.nd rfl (.inl rfl) (pe_lst pa_nil))
      (pss_cons (ps_for PassesOwn.never rfl (pi_range1 (by rfl) T.m_range (pa_cons (pv 2) pa_nil)) (pg_name (i := 5) sc_plan_of.nd rfl (.inr rfl)) (pss_cons (ps_setLc (i := 7) (own := [("span", 6)]) (g := gName 6) (tt := _) rfl sc_plan_of.nd rfl rfl (sw_true rfl rfl rfl (by decide +kernel)) (pi_list (pv 3)) (blkOk_by (N := N_plan_of) (sc := defScope s_plan_of) (by decide +kernel)) (fun _ _ _ _ _ => pg_name (i := 6) sc_plan_of.nd rfl (Or.inl rfl)) (fun _ _ _ _ _ => (pts_one (PW.pt (pw_and (pt_cmpR op_le (pe_ix (r := rIxT K) ix_tup (pv 6) pe_int (fun _ _ => rfl)) (pv 5) (nomark _)) (pw_and1 (pt_cmpR (r := rIn K true) op_notIn_seq (pv 5) (pv 1) (by rfl))))))) (fun _ _ _ _ _ => (pv 6)))
      (pss_cons (ps_if (pt_not (pt_truth (pv 7) (by intro _; rfl))) (pss_cons (ps_expr (pe_bm PySem.F.plainAttrs_list PySem.F.slot_list_append PySem.F.type_list_append mt_append (pv 4) (pa_cons pe_non pa_nil)))
      (pss_one ps_continue)) pss_nil)
      (pss_cons (ps_set (i := 6) sc_plan_of.nd rfl (.inl rfl) (LamK.pe_minKey (T := [(T.P_plan_of, QL)]) (k := 1) (N := ["each", "many"]) (fr := ["many"]) (a := "each") (js := [2]) TB rfl (show (T.P_plan_of, QL) ∈ [(T.P_plan_of, QL)] from .head _) (fun p hp _ => by rw [List.mem_singleton.1 hp]; rfl) (hr.mono (by omega)) (NdefX.nscope_by (by decide +kernel)) (NdefX.ndef_free (sc := defScope s_plan_of) (fr := ["many"]) (by decide +kernel)) (NdefX.ndef_fr (sc := defScope s_plan_of) (by decide +kernel)) rfl rfl (fun _ _ _ _ _ _ => rfl) (by rfl) T.m_min (pa_cons (pv 7) pa_nil)
      (fun q cl f c' A outer s H hr => pe_ifExp (pt_cmpR op_isN (pe_ix (r := rIxT K) ix_tup (pv 0) pe_int (fun _ _ => rfl)) pe_non (nomark _)) (pv 1) (pe_ix (r := rIxT K) ix_tup (pv 0) pe_int (fun _ _ => rfl)))))
      (pss_cons (ps_expr (pe_bm PySem.F.plainAttrs_list PySem.F.slot_list_remove PySem.F.type_list_remove (mt_removeD (unit65 hr)) (pv 3) (pa_cons (pv 6) pa_nil)))
      (pss_one (ps_expr (pe_bm PySem.F.plainAttrs_list PySem.F.slot_list_append PySem.F.type_list_append mt_append (pv 4) (pa_cons (pe_ix ix_tup (pv 6) pe_int (fun _ _ => rfl)) pa_nil)))))))))
      (pss_one (ps_ret (pv 4)))))), ?_⟩
  refine ⟨_, rfl, p, us, rfl, .inl (SqL.of ep), fun Dw hDw => ?_⟩
  have s1 := same_upd (o := .lst us) hDw
  refine ⟨Nat.zero_le _, fun Dp hDp => ?_⟩
  have s2 := s1.trans (same_upd (o := .lst []) hDp)
  have nDp : H Dp = none := s1.free hDp
  have nwp : Dw ≠ Dp := fun z => by rw [← z, upd_same] at hDp; cases hDp
  refine ⟨_, rfl, (many : Int), rfl, by omega, by omega, ?_⟩
  refine for_range (lo := 0) (n := many) (fun i σ H' => ∃ (y5 y6 y7 : Option V) (us' : List V) (W : List Wn) (os : List (Option Wn)), σ = [some (.ref p), some (.ref pl), some (.int (many : Int)), some (.ref Dw), some (.ref Dp), y5, y6, y7] ∧ PlI K T.P_plan_of H Dw Dp ls ws many i H' us' W os)
    ⟨_, _, _, us, ws, [], rfl, hDw, nDp, nwp, by rw [upd_ne nwp, upd_same], hA.imp fun _ _ _ => WnV.same s2, fun w hw => hw, Nat.le_refl _, upd_same, rfl, .nil, Same.extN s2, tb.ext s2⟩ (fun i σ H' hi hW => ?_) (fun σ H' hW => ?_)
  · obtain ⟨y5, y6, y7, us', W, os, rfl, I⟩ := hW
    obtain ⟨eW, aW, sub, wl, ex⟩ : _ ∧ _ ∧ _ ∧ _ ∧ _ := ⟨I.eW, I.aW, I.sub, I.wl, I.ex⟩
    have al := aW.1
    obtain ⟨tst, htst⟩ : ∃ f : Wn → Bool, ∀ w, f w = (decide (rW w ≤ i) && !lostF ls i) := ⟨_, fun _ => rfl⟩
    refine ⟨_, rfl, Dw, rfl, ⟨_, SqL.of eW⟩, fun Dr hDr => ?_⟩
    refine lc_list (xs := us') (fun j H3 => ∃ rs, H3 Dr = some (.lst rs) ∧ Al (WnV K H3) rs ((W.take j).filter tst) ∧ Same H' H3) ⟨[], upd_same, .nil, same_upd hDr⟩ (fun j H3 _ hW => ?_) (fun j x H3 hx hW => ?_) (fun H3 hW => ?_)
    · obtain ⟨_, _, _, sm⟩ := hW
      exact SqL.of (sm _ _ eW)
    · obtain ⟨rs, eR, hR, sm⟩ := hW
      obtain ⟨w', ew, t, rfl, hT⟩ := aW.of hx
      have hwk := wk w' (sub _ (List.mem_of_getElem? ew))
      obtain ⟨f0, ef⟩ := Option.isSome_iff_exists.1 hwk.1
      have er : rW w' = f0 := by unfold rW; rw [ef]; rfl
      have hT3 := same_seqT sm hT
      have rl := hR.1
      have fl : ((W.take j).filter tst).length ≤ 900 := Nat.le_trans (List.length_filter_le _ _) (by rw [List.length_take]; omega)
      have ef2 : (W.take (j + 1)).filter tst = (W.take j).filter tst ++ (if tst w' then [w'] else []) := by
        rw [List.take_add_one, ew, List.filter_append]
        congr 1
        show List.filter _ [w'] = _
        rw [List.filter_cons, List.filter_nil]
      have put : tst w' = true → ∃ rs', upd H3 Dr (.lst (rs ++ [.ref t])) Dr = some (.lst rs') ∧ Al (WnV K (upd H3 Dr (.lst (rs ++ [.ref t])))) rs' ((W.take (j + 1)).filter tst) ∧ Same H' (upd H3 Dr (.lst (rs ++ [.ref t]))) := fun hc => by
        refine ⟨_, upd_same, ?_, same_at hDr sm⟩
        rw [ef2, if_pos hc]
        exact wn_grow eR hR ⟨t, rfl, hT3⟩
      have no : tst w' = false → ∃ rs', H3 Dr = some (.lst rs') ∧ Al (WnV K H3) rs' ((W.take (j + 1)).filter tst) ∧ Same H' H3 := fun hc => by
        refine ⟨_, eR, ?_, sm⟩
        rw [ef2, if_neg (by rw [hc]; exact Bool.false_ne_true), List.append_nil]
        exact hR
      refine ⟨rfl, ?_⟩
      refine ⟨_, rfl, t, _, 2, _, rfl, rfl, hT3, rfl, _, rfl, f0, 0 + (i : Int), by rw [ef]; rfl, rfl, _, rfl, ?_⟩
      rw [Int.zero_add]
      by_cases hf : f0 ≤ i
      · rw [decide_eq_true (show (f0 : Int) ≤ (i : Int) by omega)]
        refine iteT ?_
        refine ⟨_, rfl, _, rfl, pl, _, rfl, .inl (SqL.of (sm _ _ (lst_ext ex el))), rfl, ntV_flat ls, _, rfl, ?_⟩
        rw [if_pos rfl, ntV_in]
        cases e : lostF ls i with
        | true => exact iteF (no (by rw [htst, e]; simp))
        | false => exact iteT ⟨_, rfl, rs, eR, small1000 (by omega), put (by rw [htst, e, er, decide_eq_true hf]; rfl)⟩
      · rw [decide_eq_false (show ¬ (f0 : Int) ≤ (i : Int) by omega)]
        refine iteF (iteF (no ?_))
        rw [htst, er, decide_eq_false hf]
        rfl
    obtain ⟨rs, eR, hR, s3⟩ := hW
    rw [al, List.take_of_length_le (Nat.le_refl _)] at hR
    have I3 := I.same s3
    have rl := hR.1
    have osl : (os.map plV).length ≤ 900 := by rw [List.length_map, I.ol]; omega
    refine ⟨_, rfl, !rs.isEmpty, .inl ⟨_, SqL.of eR, rfl⟩, ?_⟩
    cases hf : W.filter tst with
    | nil =>
      have e0 : rs = [] := List.eq_nil_of_length_eq_zero (by rw [rl, hf]; rfl)
      rw [e0]
      refine iteT ?_
      have g : Hour rW dW (lostF ls) many i W none W := by
        cases e : lostF ls i with
        | true => exact .shut e
        | false =>
          refine .idle e fun w hw => ?_
          apply Nat.lt_of_not_le
          intro k
          have : w ∈ W.filter tst := List.mem_filter.2 ⟨hw, by rw [htst, e, decide_eq_true k]; rfl⟩
          rw [hf] at this
          cases this
      refine ⟨_, rfl, .inl ⟨rfl, _, SqL.of I3.eP⟩, Dp, _, _, rfl, rfl, I3.eP, small1000 (by omega), ?_⟩
      exact ⟨_, _, _, _, _, _, rfl, I3.tell g⟩
    | cons w0 W0 =>
      have ne : rs.isEmpty = false := by
        cases rs with
        | nil => rw [hf] at rl; cases rl
        | cons _ _ => rfl
      rw [ne]
      refine iteF ?_
      have pos : 0 < rs.length := by rw [rl, hf]; exact Nat.succ_pos _
      refine ⟨_, rfl, I3.tb, Dr, rs, rfl, eR, fun u hu => ?_, pos, fun H4 e4 t4 => ?_⟩
      · obtain ⟨j, hj, e⟩ := List.getElem_of_mem hu
        obtain ⟨_, _, t, h, _⟩ := hR.of (i := j) (v := u) (by rw [List.getElem?_eq_getElem hj, e])
        exact ⟨t, h⟩
      have I4 := I3.ext e4 t4
      have hR4 := hR.imp fun _ _ _ => WnV.ext e4
      clear hR I3
      obtain ⟨kf, hkf⟩ : ∃ kf : Nat → Int, ∀ j w, (W.filter tst)[j]? = some w → kf j = (((dW w).getD many : Nat) : Int) := ⟨fun j => (((W.filter tst)[j]?).map fun w => (((dW w).getD many : Nat) : Int)).getD 0, fun j w e => by dsimp only; rw [e]; rfl⟩
      refine ⟨kf, fun j u hu => ?_, fun j u hu hle => ?_⟩
      · obtain ⟨w', ew, t, rfl, hT⟩ := hR4.of hu
        rw [hkf _ _ ew]
        refine ⟨_, rfl, t, _, 3, _, rfl, rfl, hT, rfl, rfl, _, rfl, ?_⟩
        cases ed : w'.2.2.2 with
        | none => exact iteT ⟨_, rfl, by rw [show dW w' = none from ed]; rfl, rfl⟩
        | some y => exact iteF ⟨_, rfl, t, _, 3, _, rfl, rfl, hT, by rw [ed]; rfl, by rw [show dW w' = some y from ed]; rfl, rfl⟩
      · obtain ⟨w', ew, t, rfl, hT⟩ := hR4.of hu
        rw [hkf _ _ ew] at hle
        obtain ⟨hwW, hwt⟩ := List.mem_filter.1 (List.mem_of_getElem? ew)
        rw [htst, Bool.and_eq_true, decide_eq_true_iff] at hwt
        obtain ⟨jj, pj, ej⟩ := place_w hwW
        have nl : lostF ls i = false := by
          have := hwt.2
          cases e : lostF ls i with
          | true => rw [e] at this; cases this
          | false => rfl
        have g : Hour rW dW (lostF ls) many i W (some w') (W.eraseIdx jj) := .pick nl ej hwt.1 fun s' hs' hr' => by
          have hm : s' ∈ W.filter tst := List.mem_filter.2 ⟨hs', by rw [htst, nl, decide_eq_true hr']; rfl⟩
          obtain ⟨j', hj', e'⟩ := List.getElem_of_mem hm
          have := hle j' (by rw [rl]; exact hj')
          rw [hkf j' s' (by rw [List.getElem?_eq_getElem hj', e'])] at this
          omega
        have I5 := I4.take g
        have eP5 : upd H4 Dw (.lst (us'.eraseIdx jj)) Dp = some (.lst (os.map plV)) := by rw [upd_ne I4.nwp.symm]; exact I4.eP
        have hT5 : SqT K (upd H4 Dw (.lst (us'.eraseIdx jj))) t [.int w'.1, .int w'.2.1, oV w'.2.2.1, oV w'.2.2.2] := sqT_off hT (fun b o e nb => by rw [upd_ne nb]; exact e) I4.eW
        refine ⟨_, rfl, .inl ⟨rfl, _, SqL.of I4.eW⟩, _, rfl, Dw, us', .ref t, datW w', W.map datW, jj, rfl, rfl, I4.eW, al_dp (f := datW) (fun _ _ => WnV.dp) I4.aW, WnV.dp ⟨t, rfl, hT⟩, plain_dws W, plain_dw w', depth_dw w', pj, ?_⟩
        refine ⟨_, rfl, .inl ⟨rfl, _, SqL.of eP5⟩, _, rfl, t, _, 0, _, rfl, rfl, hT5, rfl, Dp, _, _, rfl, rfl, eP5, small1000 (by omega), ?_⟩
        exact ⟨_, _, _, _, _, _, rfl, I5⟩
  · obtain ⟨y5, y6, y7, us', W, os, rfl, I⟩ := hW
    exact ⟨_, rfl, q _ _ os W I.ex I.tb I.np I.eP I.pt⟩

end
-- END plan_of
abbrev N_planned : List Str := ["rows", "lost", "spans", "stretch"]
theorem sc_planned : FnScope N_planned ["rows", "lost"] (defScope s_planned) := ⟨rfl, rfl, rfl, by decide +kernel, rfl, by decide +kernel, by decide +kernel⟩
section
variable {P : Program} {w : World} {K : PySem.W.Frag} {mg : Str → Option Value} {base : Heap}
theorem ok_planned {k : Nat} (T : Env K mg) (TB : LamX.TabB base mg T.c_plan_of T.P_plan_of) : FnOk P w K mg base CX0 (k + 6) T.D_planned.f T.D_planned.fd ["rows", "lost"] (sp_planned K T.P_plan_of) := by
  have G_windows : FnOk P w K mg base CX0 5 T.D_windows.f T.D_windows.fd ["rows"] (sp_windows K) := ok_windows T
  have G_crowded : FnOk P w K mg base CX0 5 T.D_crowded.f T.D_crowded.fd ["spans", "lost", "many"] (sp_crowded K) := ok_crowded T
  have G_plan_of : FnOk P w K mg base CX0 5 T.D_plan_of.f T.D_plan_of.fd ["spans", "lost", "many"] (sp_plan_of K T.P_plan_of) := ok_plan_of T TB
  refine T.D_planned.F.ok sc_planned (fun vs H Q E h => ?_) (fun cdv A outer s H vs Q E hr h => ?_)
  · obtain ⟨p, pl, ls, n, rss, rfl, _⟩ := h
    rfl
  obtain ⟨p, pl, ls, n, rss, rfl, tb, lr, el, hl, hn, hok, hu, q⟩ := h
  obtain ⟨us, ep, hA⟩ := id lr
  refine ⟨_, (pss_cons (ps_set (i := 2) sc_planned.nd rfl (.inl rfl) (pe_call G_windows (hr.mono (by omega)) (by rfl) T.D_windows.g T.D_windows.F.kp T.D_windows.b .nil pass0 (pa_cons (pv 0) pa_nil)))
      (pss_cons (ps_set (i := 3) sc_planned.nd rfl (.inl rfl) (pe_call G_crowded (hr.mono (by omega)) (by rfl) T.D_crowded.g T.D_crowded.F.kp T.D_crowded.b .nil pass0 (pa_cons (pv 2) (pa_cons (pv 1) (pa_cons (pe_callB call_len_seq (by rfl) T.m_len PySem.boot_len (pa_cons (pv 0) pa_nil)) pa_nil)))))
      (pss_cons (ps_if (pt_cmpR op_notN (pv 3) pe_non (nomark _)) (pss_one (ps_ret (pe_tup (pa_cons pe_str (pa_cons (pe_ix ix_tup (pv 3) pe_int (fun _ _ => rfl)) (pa_cons (pe_ix ix_tup (pv 3) pe_int (fun _ _ => rfl)) pa_nil)))))) pss_nil)
      (pss_one (ps_ret (pe_tup (pa_cons pe_str (pa_cons (pe_call G_plan_of (hr.mono (by omega)) (by rfl) T.D_plan_of.g T.D_plan_of.F.kp T.D_plan_of.b .nil pass0 (pa_cons (pv 2) (pa_cons (pv 1) (pa_cons (pe_callB call_len_seq (by rfl) T.m_len PySem.boot_len (pa_cons (pv 0) pa_nil)) pa_nil)))) pa_nil)))))))), ?_⟩
  refine ⟨_, rfl, p, n, rss, rfl, lr, hl, by omega, hok, hu, fun H1 Ds s1 nDs lw => ?_⟩
  rw [show (if rss = [] then [] else winA rss n) = winA rss n by
    by_cases h : rss = []
    · rw [if_pos h, h, winA_nil]
    · rw [if_neg h]] at lw
  have wA := winA_len hl hu n (Nat.le_refl _)
  have wk := winA_ok hu
  have hul : us.length = rss.length := hA.1
  refine ⟨_, rfl, _, rfl, _, rfl, p, us, rfl, .inl (SqL.of (s1 _ _ ep)), ?_⟩
  refine ⟨Ds, pl, ls, winA rss n, rss.length, by rw [hul]; rfl, lw, s1 _ _ el, by omega, by omega, wk, fun H2 v L s2 pm so hv => ?_⟩
  have q' := fun H' t (e : LamX.ExtN H H') tb' => q H' t L e tb' pm so
  have s02 := s1.trans s2
  cases cr : crowdP (aheadN (lostF ls)) L (List.range rss.length) with
  | some z =>
    obtain ⟨a, l⟩ := z
    rw [cr] at hv
    obtain ⟨t, rfl, ht⟩ := hv
    refine ⟨_, rfl, rfl, _, rfl, ?_⟩
    refine iteT ?_
    refine ⟨_, rfl, t, _, 0, _, rfl, rfl, ht, rfl, _, rfl, t, _, 1, _, rfl, rfl, ht, rfl, (by show 3 ≤ sizeLine; decide), fun tt htt => ?_⟩
    have st := same_upd (o := .tup [.str "stretch", .int a, .int l]) htt
    refine q' _ tt (Same.extN (s02.trans st)) (tb.ext (s02.trans st)) ?_
    rw [cr]
    exact SqT.of upd_same
  | none =>
    rw [cr] at hv
    obtain rfl : v = .non := hv
    refine ⟨_, rfl, rfl, _, rfl, ?_⟩
    refine iteF ?_
    refine ⟨_, rfl, _, rfl, _, rfl, p, us, rfl, .inl (SqL.of (s02 _ _ ep)), ?_⟩
    refine ⟨Ds, pl, ls, winA rss n, rss.length, by rw [hul]; rfl, tb.ext s02, lw.same s2, s02 _ _ el, by omega, by omega, wk, fun H3 Dq os W e3 tb3 nDq eq pt => ?_⟩
    refine ⟨(by show 2 ≤ sizeLine; decide), fun tt htt => ?_⟩
    have st := same_upd (o := .tup [.str "plan", .ref Dq]) htt
    refine q' _ tt (ExtN.same ((Same.extN s02).trans e3) st) (tb3.ext st) ?_
    rw [cr]
    exact ⟨Dq, os, W, SqT.of upd_same, s02.free nDq, st _ _ eq, pt⟩

end
-- END planned
abbrev N__law_flow : List Str := ["_law_script", "_law_many", "_law_great", "_law_row", "_law_k", "_law_cell", "_law_mixed"]
theorem sc__law_flow : FnScope N__law_flow ["_law_script", "_law_many"] (defScope s__law_flow) := ⟨rfl, rfl, rfl, by decide +kernel, rfl, by decide +kernel, by decide +kernel⟩
section
variable {P : Program} {w : World} {K : PySem.W.Frag} {mg : Str → Option Value} {base : Heap}
def rs0 (rs : List Int) (z : Int) : List Int := rs ++ [z]
def sp__law_flow (K : PySem.W.Frag) : Sp := fun vs H Q _ => ∃ (a : Addr) (ns : List Int) (m : Nat), vs = [.ref a, .int m] ∧ SqL K H a (ns.map V.int) ∧ ns.length ≤ 63 ∧ m ≤ 700 ∧
  ∀ H' v rs, Same H H' → Ls H' v rs → rs.length = m → (∀ r ∈ rs, 0 ≤ r ∧ r < 1000000) → Q v H'
theorem ok__law_flow {k : Nat} (D : Df K mg "_law_flow" s__law_flow ["_law_script", "_law_many"]) (m_abs : mg "abs" = none) (m_len : mg "len" = none) (m_range : mg "range" = none) :
    FnOk P w K mg base CX0 (k + 1) D.f D.fd ["_law_script", "_law_many"] (sp__law_flow K) := by
  refine D.F.ok sc__law_flow (fun vs H Q E h => ?_) (fun cdv A outer s H vs Q E hr h => ?_)
  · obtain ⟨a, ns, m, rfl, _⟩ := h
    rfl
  · obtain ⟨a, ns, m, rfl, hS, hlen, hm, q⟩ := h
    refine ⟨_, (pss_cons (ps_set (i := 2) sc__law_flow.nd rfl (.inl rfl) pe_int)
      (pss_cons (ps_if (PW.pt (pw_and (pt_cmpR op_gt (pe_callB call_len_seq (by rfl) m_len PySem.boot_len (pa_cons (pv 0) pa_nil)) pe_int (nomark _)) (pw_and1 (pt_cmpR op_ge (pe_callB call_abs (by rfl) m_abs boot_abs (pa_cons (pe_ix ix_list (pv 0) pe_int (fun _ _ => rfl)) pa_nil)) (pe_op op_pow pe_int pe_int) (nomark _))))) (pss_one (ps_set (i := 2) sc__law_flow.nd rfl (.inl rfl) (pe_op op_sub (pe_callB call_abs (by rfl) m_abs boot_abs (pa_cons (pe_ix ix_list (pv 0) pe_int (fun _ _ => rfl)) pa_nil)) (pe_op op_pow pe_int pe_int)))) pss_nil)
      (pss_cons (ps_set (i := 3) sc__law_flow.nd rfl (.inl rfl) (pe_lst pa_nil))
      (pss_cons (ps_for PassesOwn.never rfl (pi_range1 (by rfl) m_range (pa_cons (pv 1) pa_nil)) (pg_name (i := 4) sc__law_flow.nd rfl (.inl rfl)) (pss_one (ps_if (pt_cmpR op_gt (pv 2) pe_int (nomark _)) (pss_cons (ps_expr (pe_bm PySem.F.plainAttrs_list PySem.F.slot_list_append PySem.F.type_list_append mt_append (pv 3) (pa_cons (pe_op op_mod (pv 2) pe_int) pa_nil)))
      (pss_one (ps_set (i := 2) sc__law_flow.nd rfl (.inl rfl) (pe_op op_fdivW (pv 2) pe_int)))) (pss_cons (ps_set (i := 5) sc__law_flow.nd rfl (.inl rfl) (pe_op op_add (pv 4) pe_int))
      (pss_cons (ps_if (pt_cmpR op_gt (pe_callB call_len_seq (by rfl) m_len PySem.boot_len (pa_cons (pv 0) pa_nil)) pe_int (nomark _)) (pss_one (ps_set (i := 5) sc__law_flow.nd rfl (.inl rfl) (pe_ix ix_list (pv 0) (pe_op op_mod (pv 4) (pe_callB call_len_seq (by rfl) m_len PySem.boot_len (pa_cons (pv 0) pa_nil))) (fun _ _ => rfl)))) pss_nil)
      (pss_cons (ps_set (i := 6) sc__law_flow.nd rfl (.inl rfl) (pe_op op_mod (pe_op op_add (pe_op op_add (pe_op op_mul (pv 5) pe_int) (pe_op op_mul (pv 4) pe_int)) pe_int) pe_int))
      (pss_cons (ps_set (i := 6) sc__law_flow.nd rfl (.inl rfl) (pe_op op_mod (pe_op op_add (pe_op op_add (pe_op op_mul (pv 6) pe_int) (pe_op op_mul (pv 4) pe_int)) (pe_callB call_len_seq (by rfl) m_len PySem.boot_len (pa_cons (pv 0) pa_nil))) pe_int))
      (pss_one (ps_expr (pe_bm PySem.F.plainAttrs_list PySem.F.slot_list_append PySem.F.type_list_append mt_append (pv 3) (pa_cons (pe_op op_mod (pe_op op_fdivW (pv 6) pe_int) pe_int) pa_nil)))))))))))
      (pss_one (ps_ret (pv 3))))))), ?_⟩
    -- the loop and what follows, for any great
    have c1 : ∀ x : Int, CDivW x 1000000 := fun x => bd_divok (n := 20) (by decide) (by unfold Bd; decide) (by decide)
    have c19 : ∀ x : Int, CDivW x 19 := fun x => bd_divok (n := 20) (by decide) (by unfold Bd; decide) (by decide)
    have mk : ∀ x c : Int, -(2 ^ 64) < c → c < 2 ^ 64 → CMul x c := fun x c h1 h2 => .inr ⟨h1, h2⟩
    refine ⟨_, rfl, a, _, rfl, .inl hS, _, _, rfl, rfl, _, rfl, ite2 (fun e => ?_) (fun e => ?_)⟩
    · have hpos : 0 < ns.length := by
        have := of_decide_eq_true e
        rw [List.length_map] at this
        omega
      have g0 : atI (ns.map V.int) 0 = some (.int (ns.getD 0 0)) := ls_at (j := 0) hpos
      refine ⟨_, rfl, a, _, 0, _, rfl, rfl, hS, g0, _, rfl, _, _, rfl, rfl, ⟨by decide, by decide, by decide⟩, _, _, rfl, rfl, _, rfl, ite2 (fun e2 => ?_) (fun e2 => ?_)⟩
      · refine ⟨_, rfl, a, _, 0, _, rfl, rfl, hS, g0, _, rfl, _, _, rfl, rfl, ⟨by decide, by decide, by decide⟩, _, _, rfl, rfl, ?_⟩
        refine ⟨Nat.zero_le _, fun p hp => ?_⟩
        refine ⟨_, rfl, (m : Int), rfl, (by omega), (by omega), ?_⟩
        refine for_range (n := m) (fun i σ H3 => ∃ (g : Int) (rs : List Int) (y4 y5 y6 : Option V), σ = [some (.ref a), some (.int m), some (.int g), some (.ref p), y4, y5, y6] ∧ Same H H3 ∧ H3 p = some (.lst (rs.map V.int)) ∧ rs.length = i ∧ ∀ r ∈ rs, 0 ≤ r ∧ r < 1000000)
          ⟨_, [], _, _, _, rfl, same_upd hp, upd_same, rfl, fun r hr => nomatch hr⟩ (fun i σ H3 hi hW => ?_) (fun σ H3 hW => ?_)
        · obtain ⟨g, rs, y4, y5, y6, rfl, sm, hL, hl, hb⟩ := hW
          have hS3 := sm.seq hS
          have step : ∀ (z : Int), (0 ≤ z ∧ z < 1000000) →
              Same H (upd H3 p (.lst ((rs0 rs z).map V.int))) ∧ (upd H3 p (.lst ((rs0 rs z).map V.int))) p = some (.lst ((rs0 rs z).map V.int)) ∧ (rs0 rs z).length = i + 1 ∧ ∀ r ∈ rs0 rs z, 0 ≤ r ∧ r < 1000000 := by
            intro z hz
            refine ⟨fun b o eb => ?_, upd_same, ?_, ?_⟩
            · rw [upd_ne (ne_of_none eb hp)]
              exact sm _ _ eb
            · unfold rs0
              rw [List.length_append, hl]
              rfl
            · intro r hr
              unfold rs0 at hr
              rcases List.mem_append.1 hr with h | h
              · exact hb r h
              · rw [List.mem_singleton.1 h]
                exact hz
          have em : ∀ z : Int, (rs.map V.int) ++ [V.int z] = (rs0 rs z).map V.int := fun z => by
            unfold rs0
            rw [List.map_append]
            rfl
          have hsz : (rs.map V.int).length < sizeLine := small1000 (by rw [List.length_map]; omega)
          refine ⟨_, rfl, _, _, rfl, rfl, _, rfl, ite2 (fun e => ?_) (fun e => ?_)⟩
          · refine ⟨_, rfl, .inl ⟨rfl, _, SqL.of hL⟩, _, rfl, _, _, rfl, rfl, (by show (0 : Int) < _; decide), p, _, _, rfl, rfl, hL, hsz, ?_⟩
            rw [em]
            refine ⟨_, rfl, _, _, rfl, rfl, c1 _, ?_⟩
            exact ⟨_, _, _, _, _, rfl, step _ ⟨Int.emod_nonneg _ (by decide), Int.emod_lt_of_pos _ (by decide)⟩⟩
          · refine ⟨_, rfl, _, _, rfl, rfl, ?_⟩
            refine ⟨_, rfl, a, _, rfl, .inl hS3, _, _, rfl, rfl, _, rfl, ite2 (fun e1 => ?_) (fun e1 => ?_)⟩
            · have hpos : 0 < ns.length := by
                have := of_decide_eq_true e1
                rw [List.length_map] at this
                omega
              have hlt : i % ns.length < ns.length := Nat.mod_lt _ hpos
              have gk : atI (ns.map V.int) ((0 + (i : Int)) % ((ns.map V.int).length : Int)) = some (.int (ns.getD (i % ns.length) 0)) := by
                rw [Int.zero_add, List.length_map, ← Int.natCast_emod]
                exact ls_at hlt
              refine ⟨_, rfl, _, rfl, _, rfl, a, _, rfl, .inl hS3, _, _, rfl, rfl, (by rw [List.length_map]; omega), a, _, _, _, rfl, rfl, hS3, gk, ?_⟩
              refine ⟨_, rfl, _, _, rfl, rfl, mk _ _ (by decide) (by decide), _, rfl, _, _, rfl, rfl, mk _ _ (by decide) (by decide), _, _, rfl, rfl, _, _, rfl, rfl, _, _, rfl, rfl, (by show (0 : Int) < _; decide), ?_⟩
              refine ⟨_, rfl, _, _, rfl, rfl, mk _ _ (by decide) (by decide), _, rfl, _, _, rfl, rfl, mk _ _ (by decide) (by decide), _, _, rfl, rfl, _, rfl, a, _, rfl, .inl hS3, _, _, rfl, rfl, _, _, rfl, rfl, (by show (0 : Int) < _; decide), ?_⟩
              refine ⟨_, rfl, .inl ⟨rfl, _, SqL.of hL⟩, _, rfl, _, _, rfl, rfl, c19 _, _, _, rfl, rfl, (by show (0 : Int) < _; decide), p, _, _, rfl, rfl, hL, hsz, ?_⟩
              rw [em]
              exact ⟨_, _, _, _, _, rfl, step _ ⟨Int.emod_nonneg _ (by decide), Int.emod_lt_of_pos _ (by decide)⟩⟩
            · refine ⟨_, rfl, _, _, rfl, rfl, mk _ _ (by decide) (by decide), _, rfl, _, _, rfl, rfl, mk _ _ (by decide) (by decide), _, _, rfl, rfl, _, _, rfl, rfl, _, _, rfl, rfl, (by show (0 : Int) < _; decide), ?_⟩
              refine ⟨_, rfl, _, _, rfl, rfl, mk _ _ (by decide) (by decide), _, rfl, _, _, rfl, rfl, mk _ _ (by decide) (by decide), _, _, rfl, rfl, _, rfl, a, _, rfl, .inl hS3, _, _, rfl, rfl, _, _, rfl, rfl, (by show (0 : Int) < _; decide), ?_⟩
              refine ⟨_, rfl, .inl ⟨rfl, _, SqL.of hL⟩, _, rfl, _, _, rfl, rfl, c19 _, _, _, rfl, rfl, (by show (0 : Int) < _; decide), p, _, _, rfl, rfl, hL, hsz, ?_⟩
              rw [em]
              exact ⟨_, _, _, _, _, rfl, step _ ⟨Int.emod_nonneg _ (by decide), Int.emod_lt_of_pos _ (by decide)⟩⟩
        · obtain ⟨g, rs, y4, y5, y6, rfl, sm, hL, hl, hb⟩ := hW
          exact ⟨_, rfl, q H3 _ rs sm ⟨p, rfl, hL⟩ hl hb⟩
      · refine ⟨Nat.zero_le _, fun p hp => ?_⟩
        refine ⟨_, rfl, (m : Int), rfl, (by omega), (by omega), ?_⟩
        refine for_range (n := m) (fun i σ H3 => ∃ (g : Int) (rs : List Int) (y4 y5 y6 : Option V), σ = [some (.ref a), some (.int m), some (.int g), some (.ref p), y4, y5, y6] ∧ Same H H3 ∧ H3 p = some (.lst (rs.map V.int)) ∧ rs.length = i ∧ ∀ r ∈ rs, 0 ≤ r ∧ r < 1000000)
          ⟨_, [], _, _, _, rfl, same_upd hp, upd_same, rfl, fun r hr => nomatch hr⟩ (fun i σ H3 hi hW => ?_) (fun σ H3 hW => ?_)
        · obtain ⟨g, rs, y4, y5, y6, rfl, sm, hL, hl, hb⟩ := hW
          have hS3 := sm.seq hS
          have step : ∀ (z : Int), (0 ≤ z ∧ z < 1000000) →
              Same H (upd H3 p (.lst ((rs0 rs z).map V.int))) ∧ (upd H3 p (.lst ((rs0 rs z).map V.int))) p = some (.lst ((rs0 rs z).map V.int)) ∧ (rs0 rs z).length = i + 1 ∧ ∀ r ∈ rs0 rs z, 0 ≤ r ∧ r < 1000000 := by
            intro z hz
            refine ⟨fun b o eb => ?_, upd_same, ?_, ?_⟩
            · rw [upd_ne (ne_of_none eb hp)]
              exact sm _ _ eb
            · unfold rs0
              rw [List.length_append, hl]
              rfl
            · intro r hr
              unfold rs0 at hr
              rcases List.mem_append.1 hr with h | h
              · exact hb r h
              · rw [List.mem_singleton.1 h]
                exact hz
          have em : ∀ z : Int, (rs.map V.int) ++ [V.int z] = (rs0 rs z).map V.int := fun z => by
            unfold rs0
            rw [List.map_append]
            rfl
          have hsz : (rs.map V.int).length < sizeLine := small1000 (by rw [List.length_map]; omega)
          refine ⟨_, rfl, _, _, rfl, rfl, _, rfl, ite2 (fun e => ?_) (fun e => ?_)⟩
          · refine ⟨_, rfl, .inl ⟨rfl, _, SqL.of hL⟩, _, rfl, _, _, rfl, rfl, (by show (0 : Int) < _; decide), p, _, _, rfl, rfl, hL, hsz, ?_⟩
            rw [em]
            refine ⟨_, rfl, _, _, rfl, rfl, c1 _, ?_⟩
            exact ⟨_, _, _, _, _, rfl, step _ ⟨Int.emod_nonneg _ (by decide), Int.emod_lt_of_pos _ (by decide)⟩⟩
          · refine ⟨_, rfl, _, _, rfl, rfl, ?_⟩
            refine ⟨_, rfl, a, _, rfl, .inl hS3, _, _, rfl, rfl, _, rfl, ite2 (fun e1 => ?_) (fun e1 => ?_)⟩
            · have hpos : 0 < ns.length := by
                have := of_decide_eq_true e1
                rw [List.length_map] at this
                omega
              have hlt : i % ns.length < ns.length := Nat.mod_lt _ hpos
              have gk : atI (ns.map V.int) ((0 + (i : Int)) % ((ns.map V.int).length : Int)) = some (.int (ns.getD (i % ns.length) 0)) := by
                rw [Int.zero_add, List.length_map, ← Int.natCast_emod]
                exact ls_at hlt
              refine ⟨_, rfl, _, rfl, _, rfl, a, _, rfl, .inl hS3, _, _, rfl, rfl, (by rw [List.length_map]; omega), a, _, _, _, rfl, rfl, hS3, gk, ?_⟩
              refine ⟨_, rfl, _, _, rfl, rfl, mk _ _ (by decide) (by decide), _, rfl, _, _, rfl, rfl, mk _ _ (by decide) (by decide), _, _, rfl, rfl, _, _, rfl, rfl, _, _, rfl, rfl, (by show (0 : Int) < _; decide), ?_⟩
              refine ⟨_, rfl, _, _, rfl, rfl, mk _ _ (by decide) (by decide), _, rfl, _, _, rfl, rfl, mk _ _ (by decide) (by decide), _, _, rfl, rfl, _, rfl, a, _, rfl, .inl hS3, _, _, rfl, rfl, _, _, rfl, rfl, (by show (0 : Int) < _; decide), ?_⟩
              refine ⟨_, rfl, .inl ⟨rfl, _, SqL.of hL⟩, _, rfl, _, _, rfl, rfl, c19 _, _, _, rfl, rfl, (by show (0 : Int) < _; decide), p, _, _, rfl, rfl, hL, hsz, ?_⟩
              rw [em]
              exact ⟨_, _, _, _, _, rfl, step _ ⟨Int.emod_nonneg _ (by decide), Int.emod_lt_of_pos _ (by decide)⟩⟩
            · refine ⟨_, rfl, _, _, rfl, rfl, mk _ _ (by decide) (by decide), _, rfl, _, _, rfl, rfl, mk _ _ (by decide) (by decide), _, _, rfl, rfl, _, _, rfl, rfl, _, _, rfl, rfl, (by show (0 : Int) < _; decide), ?_⟩
              refine ⟨_, rfl, _, _, rfl, rfl, mk _ _ (by decide) (by decide), _, rfl, _, _, rfl, rfl, mk _ _ (by decide) (by decide), _, _, rfl, rfl, _, rfl, a, _, rfl, .inl hS3, _, _, rfl, rfl, _, _, rfl, rfl, (by show (0 : Int) < _; decide), ?_⟩
              refine ⟨_, rfl, .inl ⟨rfl, _, SqL.of hL⟩, _, rfl, _, _, rfl, rfl, c19 _, _, _, rfl, rfl, (by show (0 : Int) < _; decide), p, _, _, rfl, rfl, hL, hsz, ?_⟩
              rw [em]
              exact ⟨_, _, _, _, _, rfl, step _ ⟨Int.emod_nonneg _ (by decide), Int.emod_lt_of_pos _ (by decide)⟩⟩
        · obtain ⟨g, rs, y4, y5, y6, rfl, sm, hL, hl, hb⟩ := hW
          exact ⟨_, rfl, q H3 _ rs sm ⟨p, rfl, hL⟩ hl hb⟩
    · refine ⟨Nat.zero_le _, fun p hp => ?_⟩
      refine ⟨_, rfl, (m : Int), rfl, (by omega), (by omega), ?_⟩
      refine for_range (n := m) (fun i σ H3 => ∃ (g : Int) (rs : List Int) (y4 y5 y6 : Option V), σ = [some (.ref a), some (.int m), some (.int g), some (.ref p), y4, y5, y6] ∧ Same H H3 ∧ H3 p = some (.lst (rs.map V.int)) ∧ rs.length = i ∧ ∀ r ∈ rs, 0 ≤ r ∧ r < 1000000)
        ⟨_, [], _, _, _, rfl, same_upd hp, upd_same, rfl, fun r hr => nomatch hr⟩ (fun i σ H3 hi hW => ?_) (fun σ H3 hW => ?_)
      · obtain ⟨g, rs, y4, y5, y6, rfl, sm, hL, hl, hb⟩ := hW
        have hS3 := sm.seq hS
        have step : ∀ (z : Int), (0 ≤ z ∧ z < 1000000) →
            Same H (upd H3 p (.lst ((rs0 rs z).map V.int))) ∧ (upd H3 p (.lst ((rs0 rs z).map V.int))) p = some (.lst ((rs0 rs z).map V.int)) ∧ (rs0 rs z).length = i + 1 ∧ ∀ r ∈ rs0 rs z, 0 ≤ r ∧ r < 1000000 := by
          intro z hz
          refine ⟨fun b o eb => ?_, upd_same, ?_, ?_⟩
          · rw [upd_ne (ne_of_none eb hp)]
            exact sm _ _ eb
          · unfold rs0
            rw [List.length_append, hl]
            rfl
          · intro r hr
            unfold rs0 at hr
            rcases List.mem_append.1 hr with h | h
            · exact hb r h
            · rw [List.mem_singleton.1 h]
              exact hz
        have em : ∀ z : Int, (rs.map V.int) ++ [V.int z] = (rs0 rs z).map V.int := fun z => by
          unfold rs0
          rw [List.map_append]
          rfl
        have hsz : (rs.map V.int).length < sizeLine := small1000 (by rw [List.length_map]; omega)
        refine ⟨_, rfl, _, _, rfl, rfl, _, rfl, ite2 (fun e => ?_) (fun e => ?_)⟩
        · refine ⟨_, rfl, .inl ⟨rfl, _, SqL.of hL⟩, _, rfl, _, _, rfl, rfl, (by show (0 : Int) < _; decide), p, _, _, rfl, rfl, hL, hsz, ?_⟩
          rw [em]
          refine ⟨_, rfl, _, _, rfl, rfl, c1 _, ?_⟩
          exact ⟨_, _, _, _, _, rfl, step _ ⟨Int.emod_nonneg _ (by decide), Int.emod_lt_of_pos _ (by decide)⟩⟩
        · refine ⟨_, rfl, _, _, rfl, rfl, ?_⟩
          refine ⟨_, rfl, a, _, rfl, .inl hS3, _, _, rfl, rfl, _, rfl, ite2 (fun e1 => ?_) (fun e1 => ?_)⟩
          · have hpos : 0 < ns.length := by
              have := of_decide_eq_true e1
              rw [List.length_map] at this
              omega
            have hlt : i % ns.length < ns.length := Nat.mod_lt _ hpos
            have gk : atI (ns.map V.int) ((0 + (i : Int)) % ((ns.map V.int).length : Int)) = some (.int (ns.getD (i % ns.length) 0)) := by
              rw [Int.zero_add, List.length_map, ← Int.natCast_emod]
              exact ls_at hlt
            refine ⟨_, rfl, _, rfl, _, rfl, a, _, rfl, .inl hS3, _, _, rfl, rfl, (by rw [List.length_map]; omega), a, _, _, _, rfl, rfl, hS3, gk, ?_⟩
            refine ⟨_, rfl, _, _, rfl, rfl, mk _ _ (by decide) (by decide), _, rfl, _, _, rfl, rfl, mk _ _ (by decide) (by decide), _, _, rfl, rfl, _, _, rfl, rfl, _, _, rfl, rfl, (by show (0 : Int) < _; decide), ?_⟩
            refine ⟨_, rfl, _, _, rfl, rfl, mk _ _ (by decide) (by decide), _, rfl, _, _, rfl, rfl, mk _ _ (by decide) (by decide), _, _, rfl, rfl, _, rfl, a, _, rfl, .inl hS3, _, _, rfl, rfl, _, _, rfl, rfl, (by show (0 : Int) < _; decide), ?_⟩
            refine ⟨_, rfl, .inl ⟨rfl, _, SqL.of hL⟩, _, rfl, _, _, rfl, rfl, c19 _, _, _, rfl, rfl, (by show (0 : Int) < _; decide), p, _, _, rfl, rfl, hL, hsz, ?_⟩
            rw [em]
            exact ⟨_, _, _, _, _, rfl, step _ ⟨Int.emod_nonneg _ (by decide), Int.emod_lt_of_pos _ (by decide)⟩⟩
          · refine ⟨_, rfl, _, _, rfl, rfl, mk _ _ (by decide) (by decide), _, rfl, _, _, rfl, rfl, mk _ _ (by decide) (by decide), _, _, rfl, rfl, _, _, rfl, rfl, _, _, rfl, rfl, (by show (0 : Int) < _; decide), ?_⟩
            refine ⟨_, rfl, _, _, rfl, rfl, mk _ _ (by decide) (by decide), _, rfl, _, _, rfl, rfl, mk _ _ (by decide) (by decide), _, _, rfl, rfl, _, rfl, a, _, rfl, .inl hS3, _, _, rfl, rfl, _, _, rfl, rfl, (by show (0 : Int) < _; decide), ?_⟩
            refine ⟨_, rfl, .inl ⟨rfl, _, SqL.of hL⟩, _, rfl, _, _, rfl, rfl, c19 _, _, _, rfl, rfl, (by show (0 : Int) < _; decide), p, _, _, rfl, rfl, hL, hsz, ?_⟩
            rw [em]
            exact ⟨_, _, _, _, _, rfl, step _ ⟨Int.emod_nonneg _ (by decide), Int.emod_lt_of_pos _ (by decide)⟩⟩
      · obtain ⟨g, rs, y4, y5, y6, rfl, sm, hL, hl, hb⟩ := hW
        exact ⟨_, rfl, q H3 _ rs sm ⟨p, rfl, hL⟩ hl hb⟩

end
-- END _law_flow
abbrev N__law_whole : List Str := ["_law_found"]
theorem sc__law_whole : FnScope N__law_whole ["_law_found"] (defScope s__law_whole) := ⟨rfl, rfl, rfl, by decide +kernel, rfl, by decide +kernel, by decide +kernel⟩
section
variable {P : Program} {w : World} {K : PySem.W.Frag} {mg : Str → Option Value} {base : Heap}
def sp__law_whole : Sp := fun vs H Q _ => ∃ i : Int, vs = [.int i] ∧ Q (.bl true) H
theorem ok__law_whole {k : Nat} (D : Df K mg "_law_whole" s__law_whole ["_law_found"]) (m_isinstance : mg "isinstance" = none) (m_int : mg "int" = none) (m_bool : mg "bool" = none) : FnOk P w K mg base CX0 (k + 1) D.f D.fd ["_law_found"] sp__law_whole := by
  refine D.F.ok sc__law_whole (fun vs H Q E h => ?_) (fun cdv A outer s H vs Q E hr h => ?_)
  · obtain ⟨a, rfl, _⟩ := h
    rfl
  · obtain ⟨i, rfl, q⟩ := h
    refine ⟨_, (pss_one (ps_ret (pe_and (pe_callB call_isi (by rfl) m_isinstance PyProof.Rows.boot_isinstance (pa_cons (pv 0) (pa_cons (pe_bltn (v := .ty "int") (by rfl) m_int PyProof.Rows.boot_int rfl) pa_nil))) (pe_one (pe_not (pe_callB call_isi (by rfl) m_isinstance PyProof.Rows.boot_isinstance (pa_cons (pv 0) (pa_cons (pe_bltn (v := .ty "bool") (by rfl) m_bool PyProof.Rows.boot_bool rfl) pa_nil)))))))), ?_⟩
    refine ⟨_, rfl, _, _, _, _, true, rfl, .ty "int", .base (.int i), kit_ty (by decide +kernel), true, rfl, iteT ?_⟩
    exact ⟨_, rfl, _, _, _, _, false, rfl, .ty "bool", .base (.int i), kit_ty (by decide +kernel), false, rfl, q⟩

end
-- END _law_whole
abbrev N__law_low : List Str := ["_law_top", "_law_bottom", "_law_one", "_law_other"]
theorem sc__law_low : FnScope N__law_low ["_law_top", "_law_bottom"] (defScope s__law_low) := ⟨rfl, rfl, rfl, by decide +kernel, rfl, by decide +kernel, by decide +kernel⟩
section
variable {P : Program} {w : World} {K : PySem.W.Frag} {mg : Str → Option Value} {base : Heap}
theorem ok__law_low {k : Nat} (D : Df K mg "_law_low" s__law_low ["_law_top", "_law_bottom"]) (m_abs : mg "abs" = none) : FnOk P w K mg base CX0 (k + 1) D.f D.fd ["_law_top", "_law_bottom"] (sp_lowest K) := by
  refine D.F.ok sc__law_low (fun vs H Q E h => ?_) (fun cdv A outer s H vs Q E hr h => ?_)
  · obtain ⟨a, b, rfl, _⟩ := h
    rfl
  · obtain ⟨a, b, rfl, hb, hB, q⟩ := h
    refine ⟨_, (pss_cons (ps_set (i := 2) sc__law_low.nd rfl (.inl rfl) (pe_callB call_abs (by rfl) m_abs boot_abs (pa_cons (pv 0) pa_nil)))
      (pss_cons (ps_set (i := 3) sc__law_low.nd rfl (.inl rfl) (pv 1))
      (pss_cons (ps_while PassesOwn.never (pt_cmpR op_gt (pv 3) pe_int (nomark _)) (pss_one (ps_par (i := 2) (j := 3) (by rfl) sc__law_low.nd rfl rfl (by decide) rfl rfl (pa_cons (pv 3) (pa_cons (pe_op op_mod (pv 2) (pv 3)) pa_nil)) (by rfl))))
      (pss_one (ps_ret (pe_tup (pa_cons (pe_op op_fdivW (pv 0) (pv 2)) (pa_cons (pe_op op_fdivW (pv 1) (pv 2)) pa_nil)))))))), ?_⟩
    refine ⟨_, rfl, _, rfl, ?_⟩
    refine ⟨_, rfl, ?_⟩
    refine while_by (fun σ H' => ∃ x y : Int, σ = [some (.int a), some (.int b), some (.int x), some (.int y)] ∧ H' = H ∧ 0 ≤ y ∧ Int.gcd x y = Int.gcd a b ∧ (y = 0 → 0 ≤ x))
      (fun σ _ => match σ with | [_, _, _, some (.int y)] => y.toNat | _ => 0) ⟨_, b, rfl, rfl, by omega, gc_abs a b, by omega⟩ ?_ ?_
    · rintro σ H' ⟨x, y, rfl, rfl, h0, hg, hz⟩
      refine ⟨_, rfl, _, _, rfl, rfl, _, rfl, ite2 (fun e => ?_) (fun e => ?_)⟩
      · have e1 : 0 < y := of_decide_eq_true e
        refine ⟨_, rfl, _, rfl, _, rfl, _, _, rfl, rfl, e1, _, _, rfl, ⟨y, x % y, rfl, rfl, Int.emod_nonneg x (by omega), gc_step.trans hg, fun _ => by omega⟩, ?_⟩
        show (x % y).toNat < y.toNat
        have := Int.emod_lt_of_pos x e1
        have := Int.emod_nonneg x (show y ≠ 0 by omega)
        omega
      · have e1 : ¬ 0 < y := fun z => e (decide_eq_true z)
        have e2 : y = 0 := by omega
        subst e2
        have e3 : x = gc a b := by
          unfold gc
          rw [← hg, Int.gcd_zero]
          have := hz rfl
          omega
        subst e3
        have hg := gc_pos (a := a) hb
        have hk := hB.gc (x := a) hb
        refine ⟨_, rfl, _, rfl, _, _, rfl, rfl, bd_divok hg hk (by decide), _, rfl, _, rfl, _, _, rfl, rfl, bd_divok hg hk (by decide), (by show 2 ≤ sizeLine; decide), fun p hp => ?_⟩
        exact q _ _ (same_upd hp) Pr.new
    · rintro σ H' Q1 Q2 hq ⟨v, e, i, j, e1, e2, c, e3, r⟩
      exact ⟨v, e, i, j, e1, e2, c, e3, hq _ _ r⟩

end
-- END _law_low
abbrev N__law_add : List Str := ["_law_a", "_law_b"]
theorem sc__law_add : FnScope N__law_add ["_law_a", "_law_b"] (defScope s__law_add) := ⟨rfl, rfl, rfl, by decide +kernel, rfl, by decide +kernel, by decide +kernel⟩
section
variable {P : Program} {w : World} {K : PySem.W.Frag} {mg : Str → Option Value} {base : Heap}
theorem ok__law_add {k : Nat} (D : Df K mg "_law_add" s__law_add ["_law_a", "_law_b"]) (D__law_low : Df K mg "_law_low" s__law_low ["_law_top", "_law_bottom"]) (m_abs : mg "abs" = none) : FnOk P w K mg base CX0 (k + 2) D.f D.fd ["_law_a", "_law_b"] (sp_two K anyC addP) := by
  have G__law_low : FnOk P w K mg base CX0 1 D__law_low.f D__law_low.fd ["_law_top", "_law_bottom"] (sp_lowest K) := ok__law_low D__law_low m_abs
  refine D.F.ok sc__law_add (fun vs H Q E h => len_two h) (fun cdv A outer s H vs Q E hr h => ?_)
  obtain ⟨v, u, x, y, n, m, rfl, ⟨p, rfl, hp⟩, ⟨r, rfl, hq⟩, ox, oy, hn, _, q⟩ := h
  refine ⟨_, (pss_one (ps_ret (pe_call G__law_low (hr.mono (by omega)) (by rfl) D__law_low.g D__law_low.F.kp D__law_low.b .nil pass0 (pa_cons (pe_op op_add (pe_op op_mulW (pe_ix ix_tup (pv 0) pe_int (fun _ _ => rfl)) (pe_ix ix_tup (pv 1) pe_int (fun _ _ => rfl))) (pe_op op_mulW (pe_ix ix_tup (pv 1) pe_int (fun _ _ => rfl)) (pe_ix ix_tup (pv 0) pe_int (fun _ _ => rfl)))) (pa_cons (pe_op op_mulW (pe_ix ix_tup (pv 0) pe_int (fun _ _ => rfl)) (pe_ix ix_tup (pv 1) pe_int (fun _ _ => rfl))) pa_nil))))), ?_⟩
  refine ⟨_, rfl, p, _, 0, _, rfl, rfl, hp, rfl, _, rfl, r, _, 1, _, rfl, rfl, hq, rfl, _, _, rfl, rfl, bd_mulok ox.top oy.bot (by omega), ?_⟩
  refine ⟨_, rfl, r, _, 0, _, rfl, rfl, hq, rfl, _, rfl, p, _, 1, _, rfl, rfl, hp, rfl, _, _, rfl, rfl, bd_mulok oy.top ox.bot (by omega), _, _, rfl, rfl, ?_⟩
  refine ⟨_, rfl, p, _, 1, _, rfl, rfl, hp, rfl, _, rfl, r, _, 1, _, rfl, rfl, hq, rfl, _, _, rfl, rfl, bd_mulok ox.bot oy.bot (by omega), ?_⟩
  exact ⟨_, _, rfl, Int.mul_pos ox.pos oy.pos, (ox.bot.mul oy.bot).mono (by omega), fun H' r' sm pr => q _ _ sm pr⟩

end
-- END _law_add
abbrev N__law_shares : List Str := ["_law_row", "_law_n", "_law_weights", "_law_whole_here", "_law_one", "_law_weight"]
theorem sc__law_shares : FnScope N__law_shares ["_law_row", "_law_n"] (defScope s__law_shares) := ⟨rfl, rfl, rfl, by decide +kernel, rfl, by decide +kernel, by decide +kernel⟩
section
variable {P : Program} {w : World} {K : PySem.W.Frag} {mg : Str → Option Value} {base : Heap}
def sp__law_shares (K : PySem.W.Frag) : Sp := fun vs H Q _ => ∃ (pr : Addr) (rs : List Int) (n : Nat), vs = [.ref pr, .int n] ∧ H pr = some (.lst (rs.map V.int)) ∧ 1 ≤ n ∧ n ≤ 24 ∧ n < rs.length ∧ (∀ r ∈ rs, 0 ≤ r ∧ r < 1000000) ∧
  ∀ H' p ws, Same H H' → H p = none → WsOk n ws → LP K H' p (sharesOf ws) → Q (.ref p) H'
theorem same_free {H H' : Hp} (s : Same H H') {p : Addr} (h : H' p = none) : H p = none := s.free h
theorem ws_in {rs : List Int} {n : Nat} {f : Int → Int} (hb : ∀ r ∈ rs, 0 ≤ r ∧ r < 1000000) (hf : ∀ r : Int, 0 ≤ r → r < 1000000 → 0 ≤ f r ∧ f r < 1000000) : ∀ w ∈ (rs.take n).map f, 0 ≤ w ∧ w < 1000000 := fun w hw => by
  obtain ⟨r, hr, rfl⟩ := List.mem_map.1 hw
  have h := hb r (List.mem_of_mem_take hr)
  exact hf r h.1 h.2
theorem sum_set' {ws : List Int} {j : Nat} {z : Int} (d : Int) (h : ws[j]? = some z) : (ws.set j (z + d)).sum = ws.sum + d := by
  rw [sum_set h]
  omega
theorem ok__law_shares {k : Nat} (D : Df K mg "_law_shares" s__law_shares ["_law_row", "_law_n"]) (D__law_low : Df K mg "_law_low" s__law_low ["_law_top", "_law_bottom"]) (m_abs : mg "abs" = none) (m_int : mg "int" = none) (m_sum : mg "sum" = none) : FnOk P w K mg base CX0 (k + 2) D.f D.fd ["_law_row", "_law_n"] (sp__law_shares K) := by
  have G__law_low : FnOk P w K mg base CX0 1 D__law_low.f D__law_low.fd ["_law_top", "_law_bottom"] (sp_lowest K) := ok__law_low D__law_low m_abs
  refine D.F.ok sc__law_shares (fun vs H Q E h => ?_) (fun cdv A outer s H vs Q E hr h => ?_)
  · obtain ⟨pr, rs, n, rfl, _⟩ := h
    rfl
  obtain ⟨pr, rs, n, rfl, epr, hn1, hn2, hnr, hb, q⟩ := h
  have bn := hb _ (getD_in hnr)
  have c5 : ∀ x : Int, CDivW x 5 := fun x => bd_divok (n := 20) (by decide) (by unfold Bd; decide) (by decide)
  have c131 : ∀ x : Int, CDivW x 131 := fun x => bd_divok (n := 20) (by decide) (by unfold Bd; decide) (by decide)
  refine ⟨_, (pss_cons (ps_setLc (i := 2) (own := [("_law_one", 4)]) (g := gName 4) (tt := tYes) rfl sc__law_shares.nd rfl rfl (sw_true rfl rfl rfl (by decide +kernel)) (pi_list (pe_slice sl_list (pv 0) po_none (po_some (pv 1)))) (blkOk_by (N := N__law_shares) (sc := defScope s__law_shares) (by decide +kernel)) (fun _ _ _ _ _ => pg_name (i := 4) sc__law_shares.nd rfl (Or.inl rfl)) (fun _ _ _ _ _ => pts_nil) (fun _ _ _ _ _ => (pe_op op_mod (pv 4) pe_int)))
      (C8.pss_cut (ps_if (pt_cmpR op_eq (pe_op op_mod (pe_ix ix_list (pv 0) (pv 1) (fun _ _ => rfl)) pe_int) pe_int (nomark _)) (pss_one (ps_setLc (i := 2) (own := [("_law_one", 4)]) (g := gName 4) (tt := tYes) rfl sc__law_shares.nd rfl rfl (sw_true rfl rfl rfl (by decide +kernel)) (pi_list (pe_slice sl_list (pv 0) po_none (po_some (pv 1)))) (blkOk_by (N := N__law_shares) (sc := defScope s__law_shares) (by decide +kernel)) (fun _ _ _ _ _ => pg_name (i := 4) sc__law_shares.nd rfl (Or.inl rfl)) (fun _ _ _ _ _ => pts_nil) (fun _ _ _ _ _ => (pe_op op_mod (pv 4) pe_int)))) pss_nil)
      (C8.pss_cut (ps_if (pt_cmpR op_eq (pe_op op_mod (pe_ix ix_list (pv 0) (pv 1) (fun _ _ => rfl)) pe_int) pe_int (nomark _)) (pss_one (ps_setLc (i := 2) (own := [("_law_one", 4)]) (g := gName 4) (tt := tYes) rfl sc__law_shares.nd rfl rfl (sw_true rfl rfl rfl (by decide +kernel)) (pi_list (pe_slice sl_list (pv 0) po_none (po_some (pv 1)))) (blkOk_by (N := N__law_shares) (sc := defScope s__law_shares) (by decide +kernel)) (fun _ _ _ _ _ => pg_name (i := 4) sc__law_shares.nd rfl (Or.inl rfl)) (fun _ _ _ _ _ => pts_nil) (fun _ _ _ _ _ => (pe_op op_mul (pv 4) (pe_callTy call_int1 (by rfl) m_int PyProof.Rows.boot_int (pa_cons (pe_cmpR op_eq (pe_op op_mod (pv 4) pe_int) pe_int (nomark _)) pa_nil)))))) pss_nil)
      (C8.pss_cut (ps_if (pt_cmpR op_eq (pe_op op_mod (pe_ix ix_list (pv 0) (pv 1) (fun _ _ => rfl)) pe_int) pe_int (nomark _)) (pss_one (ps_setLc (i := 2) (own := [("_law_one", 4)]) (g := gName 4) (tt := tYes) rfl sc__law_shares.nd rfl rfl (sw_true rfl rfl rfl (by decide +kernel)) (pi_list (pe_slice sl_list (pv 0) po_none (po_some (pv 1)))) (blkOk_by (N := N__law_shares) (sc := defScope s__law_shares) (by decide +kernel)) (fun _ _ _ _ _ => pg_name (i := 4) sc__law_shares.nd rfl (Or.inl rfl)) (fun _ _ _ _ _ => pts_nil) (fun _ _ _ _ _ => pe_int))) pss_nil)
      (pss_cons (ps_augS (pv 2) (pe_op op_mod (pe_op op_fdivW (pe_ix ix_list (pv 0) (pv 1) (fun _ _ => rfl)) pe_int) (pv 1)) get_list (pe_op op_add pe_int (pe_op op_mod (pe_op op_fdivW (pe_ix ix_list (pv 0) (pv 1) (fun _ _ => rfl)) pe_int) pe_int)) ip_add set_list)
      (pss_cons (ps_set (i := 3) sc__law_shares.nd rfl (.inr rfl) (pe_callB (cr_sum rfl) (by rfl) m_sum (by decide +kernel) (pa_cons (pv 2) pa_nil)))
      (pss_one (ps_ret (pe_lc (own := [("_law_weight", 5)]) (g := gName 5) (tt := tYes) rfl sc__law_shares.nd (pi_list (pv 2)) (blkOk_by (N := N__law_shares) (sc := defScope s__law_shares) (by decide +kernel)) (fun _ _ _ _ _ => pg_name (i := 5) sc__law_shares.nd rfl (Or.inl rfl)) (fun _ _ _ _ _ => pts_nil) (fun _ _ _ _ _ => (pe_call G__law_low (hr.mono (by omega)) (by rfl) D__law_low.g D__law_low.F.kp D__law_low.b .nil pass0 (pa_cons (pv 5) (pa_cons (pv 3) pa_nil))))))))))))), ?_⟩
  -- the first weights
  refine ⟨_, rfl, _, rfl, _, rfl, pr, _, rfl, SqL.of epr, fun pc hc => ?_⟩
  rw [cut_to rs n (by omega)]
  refine ⟨pc, rfl, ⟨_, SqL.of upd_same⟩, fun Dd hD => ?_⟩
  have nD : H Dd = none := same_free (same_upd hc) hD
  refine lc_list (xs := (rs.take n).map V.int) (fun i H' => H' Dd = some (.lst ((((rs.take n).take i).map (fun r => r % 12)).map V.int)) ∧ Same (upd H pc (.lst ((rs.take n).map V.int))) H') ⟨upd_same, same_upd hD⟩ (fun i H' _ hW => SqL.of (hW.2 _ _ upd_same)) (fun i x H' hx hW => ?_) (fun H6 hW => ?_)
  · obtain ⟨eD, sm⟩ := hW
    obtain ⟨r, hr', rfl⟩ := int_at hx
    refine ⟨rfl, ?_⟩
    dsimp only [tYes]
    rw [if_pos rfl]
    refine ⟨_, rfl, _, _, rfl, rfl, (by show (0 : Int) < _; decide), _, eD, small1000 (by rw [List.length_map, List.length_map, List.length_take, List.length_take]; omega), ?_, same_at hD sm⟩
    rw [upd_same]
    exact congrArg (fun z => some (HO.lst z)) (take_map hr' (fun r => r % 12))
  obtain ⟨eD0, sm0⟩ := hW
  rw [List.length_map, List.take_of_length_le (Nat.le_refl _)] at eD0
  have mid0 : ∃ (pw : Addr) (ws : List Int), H6 pw = some (.lst (ws.map V.int)) ∧ ws.length = n ∧ (∀ w ∈ ws, 0 ≤ w ∧ w < 1000000) ∧ H pw = none ∧ Same H H6 ∧ Dd = pw :=
    ⟨Dd, _, eD0, by rw [List.length_map, List.length_take]; omega, ws_in hb fun r h1 h2 => ⟨Int.emod_nonneg _ (by decide), Int.lt_of_lt_of_le (Int.emod_lt_of_pos _ (by decide)) (by decide)⟩, nD, (same_upd hc).trans sm0, rfl⟩
  obtain ⟨pw, ws, eW, lW, bW, nW, s6, rfl⟩ := mid0
  refine ⟨fun σ H' => ∃ (pw : Addr) (ws : List Int) (y3 y4 y5 : Option V), σ = [some (.ref pr), some (.int n), some (.ref pw), y3, y4, y5] ∧ H' pw = some (.lst (ws.map V.int)) ∧ ws.length = n ∧ (∀ w ∈ ws, 0 ≤ w ∧ w < 1000000) ∧ H pw = none ∧ Same H H', ?_, fun H7σ H7 hm => ?_⟩
  · refine ⟨_, rfl, _, rfl, pr, _, _, _, rfl, rfl, SqL.of (s6 _ _ epr), ls_at hnr, _, _, rfl, rfl, (by show (0 : Int) < _; decide), rfl, _, rfl, ite2 (fun e => ?_) (fun e => ?_)⟩
    · refine ⟨_, rfl, _, rfl, _, rfl, pr, _, rfl, (SqL.of (s6 _ _ epr)), fun pc hc => ?_⟩
      rw [cut_to rs n (by omega)]
      refine ⟨pc, rfl, ⟨_, SqL.of upd_same⟩, fun Dd hD => ?_⟩
      have nD : H6 Dd = none := same_free (same_upd hc) hD
      refine lc_list (xs := (rs.take n).map V.int) (fun i H' => H' Dd = some (.lst ((((rs.take n).take i).map (fun r => r % 2)).map V.int)) ∧ Same (upd H6 pc (.lst ((rs.take n).map V.int))) H') ⟨upd_same, same_upd hD⟩ (fun i H' _ hW => SqL.of (hW.2 _ _ upd_same)) (fun i x H' hx hW => ?_) (fun H' hW => ?_)
      · obtain ⟨eD, sm⟩ := hW
        obtain ⟨r, hr', rfl⟩ := int_at hx
        refine ⟨rfl, ?_⟩
        dsimp only [tYes]
        rw [if_pos rfl]
        refine ⟨_, rfl, _, _, rfl, rfl, (by show (0 : Int) < _; decide), _, eD, small1000 (by rw [List.length_map, List.length_map, List.length_take, List.length_take]; omega), ?_, same_at hD sm⟩
        rw [upd_same]
        exact congrArg (fun z => some (HO.lst z)) (take_map hr' (fun r => r % 2))
      · obtain ⟨eD, sm⟩ := hW
        rw [List.length_map, List.take_of_length_le (Nat.le_refl _)] at eD
        exact ⟨Dd, _, _, _, _, rfl, eD, (by rw [List.length_map, List.length_take]; omega), ws_in hb (fun r h1 h2 => ⟨Int.emod_nonneg _ (by decide), Int.lt_of_lt_of_le (Int.emod_lt_of_pos _ (by decide)) (by decide)⟩), same_free s6 nD, s6.trans ((same_upd hc).trans sm)⟩
    · exact ⟨Dd, ws, _, _, _, rfl, eW, lW, bW, nW, s6⟩
  obtain ⟨pw, ws, y3, y4, y5, rfl, eW, lW, bW, nW, sM⟩ := hm
  refine ⟨fun σ H' => ∃ (pw : Addr) (ws : List Int) (y3 y4 y5 : Option V), σ = [some (.ref pr), some (.int n), some (.ref pw), y3, y4, y5] ∧ H' pw = some (.lst (ws.map V.int)) ∧ ws.length = n ∧ (∀ w ∈ ws, 0 ≤ w ∧ w < 1000000) ∧ H pw = none ∧ Same H H', ?_, fun H8σ H8 hm => ?_⟩
  · refine ⟨_, rfl, _, rfl, pr, _, _, _, rfl, rfl, SqL.of (sM _ _ epr), ls_at hnr, _, _, rfl, rfl, (by show (0 : Int) < _; decide), rfl, _, rfl, ite2 (fun e => ?_) (fun e => ?_)⟩
    · refine ⟨_, rfl, _, rfl, _, rfl, pr, _, rfl, (SqL.of (sM _ _ epr)), fun pc hc => ?_⟩
      rw [cut_to rs n (by omega)]
      refine ⟨pc, rfl, ⟨_, SqL.of upd_same⟩, fun Dd hD => ?_⟩
      have nD : H7 Dd = none := same_free (same_upd hc) hD
      refine lc_list (xs := (rs.take n).map V.int) (fun i H' => H' Dd = some (.lst ((((rs.take n).take i).map (fun r => r * (if decide (V.int (r % 3) = V.int 0) = true then 1 else 0))).map V.int)) ∧ Same (upd H7 pc (.lst ((rs.take n).map V.int))) H') ⟨upd_same, same_upd hD⟩ (fun i H' _ hW => SqL.of (hW.2 _ _ upd_same)) (fun i x H' hx hW => ?_) (fun H' hW => ?_)
      · obtain ⟨eD, sm⟩ := hW
        obtain ⟨r, hr', rfl⟩ := int_at hx
        refine ⟨rfl, ?_⟩
        dsimp only [tYes]
        rw [if_pos rfl]
        refine ⟨_, rfl, _, rfl, _, _, rfl, rfl, (by show (0 : Int) < _; decide), rfl, .inr ⟨_, rfl, _, _, rfl, rfl, .inr ⟨by split <;> decide, by split <;> decide⟩, _, eD, small1000 (by rw [List.length_map, List.length_map, List.length_take, List.length_take]; omega), ?_, same_at hD sm⟩⟩
        rw [upd_same]
        exact congrArg (fun z => some (HO.lst z)) (take_map hr' (fun r => r * (if decide (V.int (r % 3) = V.int 0) = true then 1 else 0)))
      · obtain ⟨eD, sm⟩ := hW
        rw [List.length_map, List.take_of_length_le (Nat.le_refl _)] at eD
        exact ⟨Dd, _, _, _, _, rfl, eD, (by rw [List.length_map, List.length_take]; omega), ws_in hb (fun r h1 h2 => by split <;> omega), same_free sM nD, sM.trans ((same_upd hc).trans sm)⟩
    · exact ⟨pw, ws, _, _, _, rfl, eW, lW, bW, nW, sM⟩
  obtain ⟨pw, ws, y3, y4, y5, rfl, eW, lW, bW, nW, sM⟩ := hm
  refine ⟨fun σ H' => ∃ (pw : Addr) (ws : List Int) (y3 y4 y5 : Option V), σ = [some (.ref pr), some (.int n), some (.ref pw), y3, y4, y5] ∧ H' pw = some (.lst (ws.map V.int)) ∧ ws.length = n ∧ (∀ w ∈ ws, 0 ≤ w ∧ w < 1000000) ∧ H pw = none ∧ Same H H', ?_, fun H9σ H9 hm => ?_⟩
  · refine ⟨_, rfl, _, rfl, pr, _, _, _, rfl, rfl, SqL.of (sM _ _ epr), ls_at hnr, _, _, rfl, rfl, (by show (0 : Int) < _; decide), rfl, _, rfl, ite2 (fun e => ?_) (fun e => ?_)⟩
    · refine ⟨_, rfl, _, rfl, _, rfl, pr, _, rfl, (SqL.of (sM _ _ epr)), fun pc hc => ?_⟩
      rw [cut_to rs n (by omega)]
      refine ⟨pc, rfl, ⟨_, SqL.of upd_same⟩, fun Dd hD => ?_⟩
      have nD : H8 Dd = none := same_free (same_upd hc) hD
      refine lc_list (xs := (rs.take n).map V.int) (fun i H' => H' Dd = some (.lst ((((rs.take n).take i).map (fun _ => 0)).map V.int)) ∧ Same (upd H8 pc (.lst ((rs.take n).map V.int))) H') ⟨upd_same, same_upd hD⟩ (fun i H' _ hW => SqL.of (hW.2 _ _ upd_same)) (fun i x H' hx hW => ?_) (fun H' hW => ?_)
      · obtain ⟨eD, sm⟩ := hW
        obtain ⟨r, hr', rfl⟩ := int_at hx
        refine ⟨rfl, ?_⟩
        dsimp only [tYes]
        rw [if_pos rfl]
        refine ⟨_, eD, small1000 (by rw [List.length_map, List.length_map, List.length_take, List.length_take]; omega), ?_, same_at hD sm⟩
        rw [upd_same]
        exact congrArg (fun z => some (HO.lst z)) (take_map hr' (fun _ => 0))
      · obtain ⟨eD, sm⟩ := hW
        rw [List.length_map, List.take_of_length_le (Nat.le_refl _)] at eD
        exact ⟨Dd, _, _, _, _, rfl, eD, (by rw [List.length_map, List.length_take]; omega), ws_in hb (fun r h1 h2 => ⟨by decide, by decide⟩), same_free sM nD, sM.trans ((same_upd hc).trans sm)⟩
    · exact ⟨pw, ws, _, _, _, rfl, eW, lW, bW, nW, sM⟩
  obtain ⟨pw, ws, y3, y4, y5, rfl, eW, lW, bW, nW, sM⟩ := hm
  -- one of them raised
  have hL9 : SqL K H9 pr (rs.map V.int) := SqL.of (sM _ _ epr)
  have j1 := Int.emod_nonneg (rs.getD n 0 / 5) (show (n : Int) ≠ 0 by omega)
  have j2 := Int.emod_lt_of_pos (rs.getD n 0 / 5) (show (0 : Int) < n by omega)
  obtain ⟨j, hj, hjn⟩ : ∃ j : Nat, rs.getD n 0 / 5 % (n : Int) = (j : Int) ∧ j < n := ⟨(rs.getD n 0 / 5 % (n : Int)).toNat, by omega, by omega⟩
  have hwj : ws[j]? = some (ws.getD j 0) := by
    rw [List.getElem?_eq_getElem (by omega)]
    simp [List.getD, List.getElem?_eq_getElem (show j < ws.length by omega)]
  have bj := bW _ (getD_in (show j < ws.length by omega))
  have d1 := Int.emod_nonneg (rs.getD n 0 / 131) (show (4 : Int) ≠ 0 by decide)
  have d2 := Int.emod_lt_of_pos (rs.getD n 0 / 131) (show (0 : Int) < 4 by decide)
  refine ⟨_, rfl, _, rfl, _, rfl, pr, _, _, _, rfl, rfl, hL9, ls_at hnr, _, _, rfl, rfl, c5 _, _, rfl, _, _, rfl, rfl, (by show (0 : Int) < n; omega), ?_⟩
  refine ⟨pw, _, j, .int (ws.getD j 0), rfl, congrArg V.int hj, SqL.of eW, by rw [List.getElem?_map, hwj]; rfl, ?_⟩
  refine ⟨_, rfl, _, rfl, pr, _, _, _, rfl, rfl, hL9, ls_at hnr, _, _, rfl, rfl, c131 _, _, _, rfl, rfl, (by show (0 : Int) < _; decide), _, _, rfl, rfl, _, _, rfl, rfl, ?_⟩
  refine ⟨pw, _, _, j, rfl, rfl, eW, ?_, ?_⟩
  · rw [hj, List.length_map]
    unfold ixN
    rw [if_pos (by omega), if_pos (by omega), Int.toNat_natCast]
  rw [show (ws.map V.int).set j (V.int (ws.getD j 0 + (1 + rs.getD n 0 / 131 % 4))) = (ws.set j (ws.getD j 0 + (1 + rs.getD n 0 / 131 % 4))).map V.int from by rw [List.map_set]]
  obtain ⟨vs, evs⟩ : ∃ vs, vs = ws.set j (ws.getD j 0 + (1 + rs.getD n 0 / 131 % 4)) := ⟨_, rfl⟩
  rw [← evs]
  have hvs : WsOk n vs := by
    have hb2 : ∀ w ∈ vs, 0 ≤ w ∧ w < 1000005 := by
      intro w hw
      rw [evs] at hw
      rcases List.mem_or_eq_of_mem_set hw with h | h
      · have := bW w h
        omega
      · omega
    have hl : vs.length = n := by rw [evs, List.length_set, lW]
    have hs : vs.sum = ws.sum + (1 + rs.getD n 0 / 131 % 4) := by
      rw [evs]
      exact sum_set' _ hwj
    have h0 := sum_bound (ws := ws) fun w hw => by have := bW w hw; omega
    have h1 := sum_bound hb2
    rw [hl] at h1
    exact ⟨hl, hb2, by omega, h1.2⟩
  obtain ⟨hl, hb2, hs1, hs2⟩ := hvs
  -- their sum
  have s10 : Same H (upd H9 pw (.lst (vs.map V.int))) := same_at nW sM
  refine ⟨_, rfl, pw, vs, rfl, SqL.of upd_same, ?_⟩
  refine ⟨_, rfl, pw, rfl, ⟨_, SqL.of upd_same⟩, fun Dd' hD => ?_⟩
  have nD' : H Dd' = none := same_free s10 hD
  refine lc_list (xs := vs.map V.int) (fun i H' => ∃ us, H' Dd' = some (.lst us) ∧ Pps K H' us ((sharesOf vs).take i) ∧ Same (upd H9 pw (.lst (vs.map V.int))) H') ⟨[], upd_same, .nil, same_upd hD⟩ (fun i H' _ hW => ?_) (fun i x H' hx hW => ?_) (fun H' hW => ?_)
  · obtain ⟨us, _, _, sm⟩ := hW
    exact SqL.of (sm _ _ upd_same)
  · obtain ⟨us, eD, hP, sm⟩ := hW
    obtain ⟨r, hr', rfl⟩ := int_at hx
    have br := hb2 r (List.mem_of_getElem? hr')
    have hi := (List.getElem?_eq_some_iff.1 hr').1
    refine ⟨rfl, ?_⟩
    dsimp only [tYes]
    rw [if_pos rfl]
    refine ⟨_, rfl, _, rfl, r, vs.sum, rfl, hs1, Bd.of (m := 30000000) (by omega) (by omega) (by decide +kernel), fun H11 v11 s11 p11 => ?_⟩
    have eD11 := s11 _ _ eD
    refine ⟨us, eD11, small1000 (by rw [hP.len, List.length_take, shares_len]; omega), us ++ [v11], upd_same, ?_, same_at hD (sm.trans s11)⟩
    have et : (sharesOf vs).take (i + 1) = (sharesOf vs).take i ++ [lowP r vs.sum] := by
      rw [List.take_add_one]
      unfold sharesOf
      rw [List.getElem?_map, hr']
      rfl
    rw [et]
    exact pps_grow eD11 (hP.same s11) p11
  · obtain ⟨us, eD, hP, sm⟩ := hW
    rw [List.length_map, List.take_of_length_le (by rw [shares_len]; omega)] at hP
    exact q _ _ vs (s10.trans sm) nD' ⟨hl, hb2, hs1, hs2⟩ ⟨us, eD, hP⟩

end
-- END _law_shares
abbrev N__law_many_fields : List Str := ["_law_one", "_law_top"]
theorem sc__law_many_fields : FnScope N__law_many_fields ["_law_one", "_law_top"] (defScope s__law_many_fields) := ⟨rfl, rfl, rfl, by decide +kernel, rfl, by decide +kernel, by decide +kernel⟩
section
variable {P : Program} {w : World} {K : PySem.W.Frag} {mg : Str → Option Value} {base : Heap}
def sp__law_many_fields : Sp := fun vs H Q _ => ∃ x t : Int, vs = [.int x, .int t] ∧ 1 ≤ t ∧ ∀ n : Int, 1 ≤ n → n ≤ t → Q (.int n) H
theorem ok__law_many_fields {k : Nat} (D : Df K mg "_law_many_fields" s__law_many_fields ["_law_one", "_law_top"]) (m_min : mg "min" = none) : FnOk P w K mg base CX0 (k + 1) D.f D.fd ["_law_one", "_law_top"] sp__law_many_fields := by
  refine D.F.ok sc__law_many_fields (fun vs H Q E h => ?_) (fun cdv A outer s H vs Q E hr h => ?_)
  · obtain ⟨x, t, rfl, _⟩ := h
    rfl
  obtain ⟨x, t, rfl, ht, q⟩ := h
  refine ⟨_, (pss_cons (ps_if (pt_cmpR op_eq (pe_op op_mod (pv 0) pe_int) pe_int (nomark _)) (pss_one (ps_ret (pe_op op_add pe_int (pe_op op_mod (pe_op op_fdivW (pv 0) pe_int) (pv 1))))) pss_nil)
      (pss_one (ps_ret (pe_op op_add pe_int (pe_op op_mod (pe_op op_fdivW (pv 0) pe_int) (pe_callB (call_min2 rfl) (by rfl) m_min (by decide +kernel) (pa_cons (pv 1) (pa_cons pe_int pa_nil)))))))), ?_⟩
  have c4 : ∀ x : Int, CDivW x 4 := fun x => bd_divok (n := 20) (by decide) (by unfold Bd; decide) (by decide)
  refine ⟨_, rfl, _, _, rfl, rfl, (by show (0 : Int) < _; decide), rfl, _, rfl, ite2 (fun e => ?_) (fun e => ?_)⟩
  · have h1 := Int.emod_nonneg (x / 4) (show t ≠ 0 by omega)
    have h2 := Int.emod_lt_of_pos (x / 4) (show 0 < t by omega)
    exact ⟨_, rfl, _, _, rfl, rfl, c4 _, _, rfl, _, _, rfl, rfl, (show 0 < t by omega), _, _, rfl, rfl, q _ (by omega) (by omega)⟩
  · have hm : 0 < (if (5 : Int) < t then 5 else t) := by split <;> omega
    have hm2 : (if (5 : Int) < t then 5 else t) ≤ t := by split <;> omega
    have h1 := Int.emod_nonneg (x / 4) (show (if (5 : Int) < t then 5 else t) ≠ 0 by omega)
    have h2 := Int.emod_lt_of_pos (x / 4) hm
    exact ⟨_, rfl, _, _, rfl, rfl, c4 _, _, rfl, _, _, rfl, _, _, rfl, rfl, hm, _, _, rfl, rfl, q _ (by omega) (by omega)⟩

end
-- END _law_many_fields
abbrev N__law_season : List Str := ["_law_row", "_law_n", "_law_hours", "_law_step", "_law_rows", "_law_k"]
theorem sc__law_season : FnScope N__law_season ["_law_row"] (defScope s__law_season) := ⟨rfl, rfl, rfl, by decide +kernel, rfl, by decide +kernel, by decide +kernel⟩
section
variable {P : Program} {w : World} {K : PySem.W.Frag} {mg : Str → Option Value} {base : Heap}
theorem ok__law_season {k : Nat} (T : Env K mg) : FnOk P w K mg base CX0 (k + 3) T.D__law_season.f T.D__law_season.fd ["_law_row"] (sp_season K) := by
  have G__law_many_fields : FnOk P w K mg base CX0 2 T.D__law_many_fields.f T.D__law_many_fields.fd ["_law_one", "_law_top"] sp__law_many_fields := ok__law_many_fields T.D__law_many_fields T.m_min
  have G__law_shares : FnOk P w K mg base CX0 2 T.D__law_shares.f T.D__law_shares.fd ["_law_row", "_law_n"] (sp__law_shares K) := ok__law_shares T.D__law_shares T.D__law_low T.m_abs T.m_int T.m_sum
  refine T.D__law_season.F.ok sc__law_season (fun vs H Q E h => ?_) (fun cdv A outer s H vs Q E hr h => ?_)
  · obtain ⟨pr, rs, rfl, _⟩ := h
    rfl
  obtain ⟨pr, rs, rfl, epr, hrl, hb, q⟩ := h
  have c15 : ∀ x : Int, CDivW x 15 := fun x => bd_divok (n := 20) (by decide) (by unfold Bd; decide) (by decide)
  have hS := fun {H' : Hp} (sm : Same H H') => (SqL.of (sm _ _ epr) : SqL K H' pr (rs.map V.int))
  refine ⟨_, (pss_cons (ps_set (i := 1) sc__law_season.nd rfl (.inr rfl) (pe_call G__law_many_fields (hr.mono (by omega)) (by rfl) T.D__law_many_fields.g T.D__law_many_fields.F.kp T.D__law_many_fields.b .nil pass0 (pa_cons (pe_ix ix_list (pv 0) pe_int (fun _ _ => rfl)) (pa_cons pe_int pa_nil))))
      (pss_cons (ps_set (i := 2) sc__law_season.nd rfl (.inl rfl) (pe_op op_mod (pe_ix ix_list (pv 0) pe_int (fun _ _ => rfl)) pe_int))
      (C8.pss_cut (ps_if (pt_cmpR op_eq (pe_op op_mod (pe_ix ix_list (pv 0) pe_int (fun _ _ => rfl)) pe_int) pe_int (nomark _)) (pss_one (ps_set (i := 2) sc__law_season.nd rfl (.inl rfl) (pe_op op_mod (pe_ix ix_list (pv 0) pe_int (fun _ _ => rfl)) pe_int))) pss_nil)
      (C8.pss_cut (ps_if (PW.pt (pw_and (pt_cmpR op_eq (pe_op op_mod (pe_ix ix_list (pv 0) pe_int (fun _ _ => rfl)) pe_int) pe_int (nomark _)) (pw_and1 (pt_cmpR op_lt (pv 1) pe_int (nomark _))))) (pss_one (ps_set (i := 2) sc__law_season.nd rfl (.inl rfl) (pe_op op_mod (pe_ix ix_list (pv 0) pe_int (fun _ _ => rfl)) pe_int))) pss_nil)
      (pss_cons (ps_set (i := 3) sc__law_season.nd rfl (.inr rfl) (pe_op op_add (pv 1) pe_int))
      (C8.pss_cut (ps_if (pt_cmpR op_eq (pe_op op_mod (pe_ix ix_list (pv 0) pe_int (fun _ _ => rfl)) pe_int) pe_int (nomark _)) (pss_one (ps_set (i := 3) sc__law_season.nd rfl (.inr rfl) pe_int)) pss_nil)
      (C8.pss_cut (ps_if (pt_cmpR op_gt (pe_op op_mul (pv 2) (pv 3)) pe_int (nomark _)) (pss_one (ps_set (i := 2) sc__law_season.nd rfl (.inl rfl) (pe_op op_fdivW pe_int (pv 3)))) pss_nil)
      (pss_cons (ps_set (i := 4) sc__law_season.nd rfl (.inr rfl) (pe_lc (own := [("_law_k", 5)]) (g := gName 5) (tt := tYes) rfl sc__law_season.nd (pi_range1 (by rfl) T.m_range (pa_cons (pv 2) pa_nil)) (blkOk_by (N := N__law_season) (sc := defScope s__law_season) (by decide +kernel)) (fun _ _ _ _ _ => pg_name (i := 5) sc__law_season.nd rfl (Or.inl rfl)) (fun _ _ _ _ _ => pts_nil) (fun _ _ _ _ _ => (pe_call G__law_shares (hr.mono (by omega)) (by rfl) T.D__law_shares.g T.D__law_shares.F.kp T.D__law_shares.b .nil pass0 (pa_cons (pe_slice (r := rSlL K) sl_list (pv 0) (po_some (pe_op op_add pe_int (pe_op op_mul (pv 5) (pv 3)))) po_none) (pa_cons (pv 1) pa_nil))))))
      (C8.pss_cut (ps_if (pt_cmpR op_eq (pe_op op_mod (pe_op op_fdivW (pe_ix ix_list (pv 0) pe_int (fun _ _ => rfl)) pe_int) pe_int) pe_int (nomark _)) (pss_one (ps_set (i := 4) sc__law_season.nd rfl (.inr rfl) (pe_lc (own := [("_law_k", 5)]) (g := gName 5) (tt := tYes) rfl sc__law_season.nd (pi_range1 (by rfl) T.m_range (pa_cons (pv 2) pa_nil)) (blkOk_by (N := N__law_season) (sc := defScope s__law_season) (by decide +kernel)) (fun _ _ _ _ _ => pg_name (i := 5) sc__law_season.nd rfl (Or.inl rfl)) (fun _ _ _ _ _ => pts_nil) (fun _ _ _ _ _ => (pe_ifExp (pt_cmpR op_lt (pe_op op_mod (pv 5) pe_int) pe_int (nomark _)) (pe_ix (r := rIxL K) ix_list (pv 4) pe_int (fun _ _ => rfl)) (pe_ix (r := rIxL K) ix_list (pv 4) (pv 5) (fun _ _ => rfl))))))) pss_nil)
      (pss_one (ps_ret (pe_tup (pa_cons (pv 1) (pa_cons (pv 4) pa_nil)))))))))))))), ?_⟩
  refine ⟨_, rfl, pr, _, _, _, rfl, rfl, hS (Same.refl _), ls_z 0 rfl (by omega), _, 12, rfl, by decide, fun n' hn1 hn2 => ?_⟩
  obtain ⟨n, rfl⟩ : ∃ n : Nat, n' = (n : Int) := ⟨n'.toNat, by omega⟩
  have mb : ∀ (x m : Int), 0 < m → 0 ≤ x % m ∧ x % m < m := fun x m hm => ⟨Int.emod_nonneg _ (by omega), Int.emod_lt_of_pos _ hm⟩
  refine ⟨_, rfl, pr, _, _, _, rfl, rfl, hS (Same.refl _), ls_z 1 rfl (by omega), _, _, rfl, rfl, (by show (0 : Int) < 13; decide), ?_⟩
  refine ⟨fun σ H' => ∃ (h : Nat), σ = [some (.ref pr), some (.int (n : Int)), some (.int (h : Int)), none, none, none] ∧ h ≤ 60 ∧ Same H H', ?_, fun σ1 H1 hm => ?_⟩
  · refine ⟨_, rfl, pr, _, _, _, rfl, rfl, hS (Same.refl _), ls_z 2 rfl (by omega), _, _, rfl, rfl, (by show (0 : Int) < 5; decide), rfl, _, rfl, ite2 (fun e => ?_) (fun e => ?_)⟩
    · refine ⟨_, rfl, pr, _, _, _, rfl, rfl, hS (Same.refl _), ls_z 1 rfl (by omega), _, _, rfl, rfl, (by show (0 : Int) < 61; decide), ?_⟩
      have := mb (rs.getD 1 0) 61 (by decide)
      exact ⟨(rs.getD 1 0 % 61).toNat, by rw [Int.toNat_of_nonneg this.1]; rfl, by omega, Same.refl _⟩
    · have := mb (rs.getD 1 0) 13 (by decide)
      exact ⟨(rs.getD 1 0 % 13).toNat, by rw [Int.toNat_of_nonneg this.1]; rfl, by omega, Same.refl _⟩
  obtain ⟨h1, rfl, hh1, s1⟩ := hm
  refine ⟨fun σ H' => ∃ (h : Nat), σ = [some (.ref pr), some (.int (n : Int)), some (.int (h : Int)), none, none, none] ∧ h ≤ 60 ∧ Same H H', ?_, fun σ2 H2 hm => ?_⟩
  · refine ⟨_, rfl, pr, _, _, _, rfl, rfl, hS s1, ls_z 2 rfl (by omega), _, _, rfl, rfl, (by show (0 : Int) < 5; decide), rfl, _, rfl, ite2 (fun e => ?_) (fun e => ?_)⟩
    · refine ⟨_, rfl, _, _, rfl, rfl, _, rfl, ite2 (fun e => ?_) (fun e => ?_)⟩
      · refine ⟨_, rfl, pr, _, _, _, rfl, rfl, hS s1, ls_z 1 rfl (by omega), _, _, rfl, rfl, (by show (0 : Int) < 41; decide), ?_⟩
        have := mb (rs.getD 1 0) 41 (by decide)
        exact ⟨(rs.getD 1 0 % 41).toNat, by rw [Int.toNat_of_nonneg this.1]; rfl, by omega, s1⟩
      · exact ⟨h1, rfl, hh1, s1⟩
    · exact iteF ⟨h1, rfl, hh1, s1⟩
  obtain ⟨h2, rfl, hh2, s2⟩ := hm
  refine ⟨_, rfl, _, _, rfl, rfl, ?_⟩
  refine ⟨fun σ H' => ∃ (st : Nat), σ = [some (.ref pr), some (.int (n : Int)), some (.int (h2 : Int)), some (.int (st : Int)), none, none] ∧ (st = 0 ∨ st = n + 1) ∧ Same H H', ?_, fun σ3 H3 hm => ?_⟩
  · refine ⟨_, rfl, pr, _, _, _, rfl, rfl, hS s2, ls_z 2 rfl (by omega), _, _, rfl, rfl, (by show (0 : Int) < 3; decide), rfl, _, rfl, ite2 (fun e => ?_) (fun e => ?_)⟩
    · exact ⟨0, rfl, .inl rfl, s2⟩
    · exact ⟨n + 1, rfl, .inr rfl, s2⟩
  obtain ⟨st, rfl, hst, s3⟩ := hm
  refine ⟨fun σ H' => ∃ (h : Nat), σ = [some (.ref pr), some (.int (n : Int)), some (.int (h : Int)), some (.int (st : Int)), none, none] ∧ h ≤ 60 ∧ h * st ≤ 420 ∧ Same H H', ?_, fun σ4 H4 hm => ?_⟩
  · have stn : st ≤ 13 := by omega
    have m1 : ((h2 * st : Nat) : Int) = (h2 : Int) * (st : Int) := by rw [Int.natCast_mul]
    refine ⟨_, rfl, _, rfl, _, _, rfl, rfl, .inr ⟨by omega, by omega⟩, _, _, rfl, rfl, _, rfl, ite2 (fun e => ?_) (fun e => ?_)⟩
    · have e : (420 : Int) < (h2 : Int) * (st : Int) := by simpa using e
      have sp : 0 < st := Nat.pos_of_ne_zero fun z => by rw [z] at e; simp at e
      refine ⟨_, rfl, _, _, rfl, rfl, bd_divok (n := 20) (by omega) (Bd.of (m := 100) (by omega) (by omega) (by decide)) (by decide), ?_⟩
      have e1 := Nat.div_mul_le_self 420 st
      have e2 : 420 / st < h2 := by
        apply Nat.lt_of_mul_lt_mul_right (a := st)
        omega
      exact ⟨420 / st, rfl, by omega, e1, s3⟩
    · have e : (h2 : Int) * (st : Int) ≤ 420 := by
        have := e
        simp at this
        omega
      exact ⟨h2, rfl, hh2, by omega, s3⟩
  obtain ⟨h4, rfl, hh4, hm4, s4⟩ := hm
  refine ⟨_, rfl, (h4 : Int), rfl, by omega, by omega, fun Dr hDr => ?_⟩
  have nDr : H Dr = none := s4.free hDr
  refine lc_range (lo := 0) (n := h4) (fun i H' => ∃ (us : List V) (wss : List (List Int)), H' Dr = some (.lst us) ∧ wss.length = i ∧ (∀ ws ∈ wss, WsOk n ws) ∧ Al (RowV K H') us (wss.map sharesOf) ∧ (∀ u ∈ us, u ≠ .ref Dr) ∧ Same H4 H') ⟨[], [], upd_same, rfl, (fun _ z => nomatch z), .nil, (fun _ z => nomatch z), same_upd hDr⟩ (fun i H' hi hW => ?_) (fun H5 hW => ?_)
  · obtain ⟨us, wss, eD, wl, wo, hV, nd, sm⟩ := hW
    have pk : (i + 1) * st ≤ 420 := Nat.le_trans (Nat.mul_le_mul_right st hi) hm4
    have pk2 : (i + 1) * st = i * st + st := Nat.succ_mul i st
    have m1 : ((i * st : Nat) : Int) = (i : Int) * (st : Int) := by rw [Int.natCast_mul]
    have room : 3 + i * st + n < 440 := by omega
    refine ⟨rfl, ?_⟩
    dsimp only [tYes]
    rw [if_pos rfl]
    refine ⟨_, rfl, _, rfl, _, rfl, _, _, rfl, rfl, .inr ⟨by omega, by omega⟩, _, _, rfl, rfl, ((3 + i * st : Nat) : Int), ?_, ?_⟩
    · rw [Int.zero_add, Int.natCast_add, m1]
      rfl
    refine ⟨pr, _, rfl, hS (s4.trans sm), fun pc hc => ?_⟩
    rw [cut_from rs (3 + i * st) (by omega)]
    have sc := same_upd (o := .lst ((rs.drop (3 + i * st)).map V.int)) hc
    refine ⟨_, rfl, pc, rs.drop (3 + i * st), n, rfl, upd_same, by omega, by omega, by rw [List.length_drop]; omega, fun r hr => hb r (List.mem_of_mem_drop hr), fun H6 p6 ws s6 n6 wk l6 => ?_⟩
    have sa := sc.trans s6
    have eD6 := sa _ _ eD
    have ul := hV.1
    rw [List.length_map, wl] at ul
    have n6' : V.ref p6 ≠ V.ref Dr := fun z => by
      injection z with z
      rw [z, sc _ _ eD] at n6
      cases n6
    obtain ⟨g1, g2⟩ := rows_grow eD6 (hV.imp fun _ _ _ => RowV.same sa) nd ⟨p6, rfl, l6⟩ n6'
    refine ⟨us, eD6, small1000 (by omega), _, wss ++ [ws], upd_same, by rw [List.length_append, wl]; rfl, fun x hx => ?_, ?_, g2, same_at hDr (sm.trans sa)⟩
    · rcases List.mem_append.1 hx with hx | hx
      · exact wo x hx
      · rw [List.mem_singleton.1 hx]; exact wk
    · rw [List.map_append]
      exact g1
  obtain ⟨us, wss, eD, wl, wo, hV, nd, s5⟩ := hW
  have sH5 := s4.trans s5
  refine ⟨fun σ H' => ∃ (pR : Addr) (wss : List (List Int)) (y5 : Option V), σ = [some (.ref pr), some (.int (n : Int)), some (.int (h4 : Int)), some (.int (st : Int)), some (.ref pR), y5] ∧ wss.length ≤ 60 ∧ (∀ ws ∈ wss, WsOk n ws) ∧ LR K H' pR (wss.map sharesOf) ∧ Same H H', ?_, fun σ6 H6 hm => ?_⟩
  · refine ⟨_, rfl, pr, _, _, _, rfl, rfl, hS sH5, ls_z 2 rfl (by omega), _, _, rfl, rfl, c15 _, _, _, rfl, rfl, (by show (0 : Int) < 4; decide), rfl, _, rfl, ite2 (fun e => ?_) (fun e => ?_)⟩
    · refine ⟨_, rfl, (h4 : Int), rfl, by omega, by omega, fun Dn hDn => ?_⟩
      refine lc_range (lo := 0) (n := h4) (fun i H' => ∃ (vs : List V) (xss : List (List Int)), H' Dn = some (.lst vs) ∧ xss.length = i ∧ (∀ ws ∈ xss, WsOk n ws) ∧ Al (RowV K H') vs (xss.map sharesOf) ∧ (∀ u ∈ vs, u ≠ .ref Dn) ∧ Same H5 H') ⟨[], [], upd_same, rfl, (fun _ z => nomatch z), .nil, (fun _ z => nomatch z), same_upd hDn⟩ (fun i H' hi hW => ?_) (fun H7 hW => ?_)
      · obtain ⟨vs, xss, eN, xl, xo, hX, nx, sm⟩ := hW
        have ul := hX.1
        rw [List.length_map, xl] at ul
        have put : ∀ j, j < h4 → ∃ v ws, us[j]? = some v ∧ WsOk n ws ∧ RowV K H' v (sharesOf ws) ∧ v ≠ .ref Dn := fun j hj => by
          have ej : wss[j]? = some wss[j] := List.getElem?_eq_getElem (by omega)
          obtain ⟨v, ev, q', rfl, l'⟩ := hV.at (i := j) (x := sharesOf wss[j]) (by rw [List.getElem?_map, ej]; rfl)
          refine ⟨_, _, ev, wo _ (List.mem_of_getElem? ej), ⟨q', rfl, l'.same sm⟩, fun z => ?_⟩
          injection z with z
          obtain ⟨_, e', _⟩ := l'
          rw [z, hDn] at e'
          cases e'
        have fin : ∀ v ws, WsOk n ws → RowV K H' v (sharesOf ws) → v ≠ .ref Dn → ∃ acc, H' Dn = some (.lst acc) ∧ acc.length < sizeLine ∧ ∃ (vs : List V) (xss : List (List Int)), upd H' Dn (.lst (acc ++ [v])) Dn = some (.lst vs) ∧ xss.length = i + 1 ∧ (∀ ws ∈ xss, WsOk n ws) ∧ Al (RowV K (upd H' Dn (.lst (acc ++ [v])))) vs (xss.map sharesOf) ∧ (∀ u ∈ vs, u ≠ .ref Dn) ∧ Same H5 (upd H' Dn (.lst (acc ++ [v]))) := fun v ws wk hv nv => by
          obtain ⟨g1, g2⟩ := rows_grow eN hX nx hv nv
          refine ⟨vs, eN, small1000 (by omega), _, xss ++ [ws], upd_same, by rw [List.length_append, xl]; rfl, fun x hx => ?_, ?_, g2, same_at hDn sm⟩
          · rcases List.mem_append.1 hx with hx | hx
            · exact xo x hx
            · rw [List.mem_singleton.1 hx]; exact wk
          · rw [List.map_append]
            exact g1
        refine ⟨rfl, ?_⟩
        dsimp only [tYes]
        rw [if_pos rfl]
        refine ⟨_, rfl, _, _, rfl, rfl, (by show (0 : Int) < 3; decide), _, _, rfl, rfl, _, rfl, ite2 (fun e => ?_) (fun e => ?_)⟩
        · obtain ⟨v, ws, ev, wk, hv, nv⟩ := put 0 (by omega)
          exact ⟨_, rfl, Dr, us, 0, v, rfl, rfl, SqL.of (sm _ _ eD), atI_nat (j := 0) ev, fin v ws wk hv nv⟩
        · obtain ⟨v, ws, ev, wk, hv, nv⟩ := put i hi
          exact ⟨_, rfl, _, rfl, Dr, us, _, v, rfl, rfl, SqL.of (sm _ _ eD), by rw [Int.zero_add]; exact atI_nat ev, fin v ws wk hv nv⟩
      · obtain ⟨vs, xss, eN, xl, xo, hX, nx, sm⟩ := hW
        exact ⟨Dn, xss, _, rfl, by omega, xo, ⟨vs, eN, hX⟩, sH5.trans sm⟩
    · exact ⟨Dr, wss, _, rfl, by omega, wo, ⟨us, eD, hV⟩, sH5⟩
  obtain ⟨pR, xss, y5, rfl, xl, xo, lR, s6⟩ := hm
  refine ⟨_, rfl, _, rfl, (by show 2 ≤ sizeLine; decide), fun t ht => ?_⟩
  have st' := same_upd (o := .tup [.int (n : Int), .ref pR]) ht
  exact q _ t pR n xss (s6.trans st') (SqT.of upd_same) (by omega) (by omega) xl xo (lR.same st')

end
-- END _law_season
abbrev N__law_gains : List Str := ["_law_rows", "_law_n", "_law_now", "_law_found", "_law_shares_here", "_law_place", "_law_a", "_law_b"]
theorem sc__law_gains : FnScope N__law_gains ["_law_rows", "_law_n"] (defScope s__law_gains) := ⟨rfl, rfl, rfl, by decide +kernel, rfl, by decide +kernel, by decide +kernel⟩
section
variable {P : Program} {w : World} {K : PySem.W.Frag} {mg : Str → Option Value} {base : Heap}
theorem ok__law_gains {k : Nat} (T : Env K mg) : FnOk P w K mg base CX0 (k + 3) T.D__law_gains.f T.D__law_gains.fd ["_law_rows", "_law_n"] (sp_lgains K) := by
  have G__law_add : FnOk P w K mg base CX0 2 T.D__law_add.f T.D__law_add.fd ["_law_a", "_law_b"] (sp_two K anyC addP) := ok__law_add T.D__law_add T.D__law_low T.m_abs
  refine T.D__law_gains.F.ok sc__law_gains (fun vs H Q E h => ?_) (fun cdv A outer s H vs Q E hr h => ?_)
  · obtain ⟨p, n, rss, rfl, _⟩ := h
    rfl
  obtain ⟨p, n, rss, rfl, lr, hl, hn, hb, q⟩ := h
  obtain ⟨us, ep, hA⟩ := id lr
  refine ⟨_, (pss_cons (ps_setLc (i := 2) (own := [("_law_place", 5)]) (g := gName 5) (tt := tYes) rfl sc__law_gains.nd rfl rfl (sw_true rfl rfl rfl (by decide +kernel)) (pi_range1 (by rfl) T.m_range (pa_cons (pv 1) pa_nil)) (blkOk_by (N := N__law_gains) (sc := defScope s__law_gains) (by decide +kernel)) (fun _ _ _ _ _ => pg_name (i := 5) sc__law_gains.nd rfl (Or.inl rfl)) (fun _ _ _ _ _ => pts_nil) (fun _ _ _ _ _ => (pe_tup (pa_cons pe_int (pa_cons pe_int pa_nil)))))
      (pss_cons (ps_set (i := 3) sc__law_gains.nd rfl (.inl rfl) (pe_lst pa_nil))
      (pss_cons (ps_for PassesOwn.never rfl (pi_list (pv 0)) (pg_name (i := 4) sc__law_gains.nd rfl (.inl rfl)) (pss_cons (ps_setLc (i := 2) (own := [("_law_a", 6), ("_law_b", 7)]) (g := gTup K 2 (gCons (gName 6) (gCons (gName 7) gNil))) (tt := tYes) rfl sc__law_gains.nd rfl rfl (sw_true rfl rfl rfl (by decide +kernel)) (pi_zip (by rfl) T.m_zip (pa_cons (pv 2) (pa_cons (pv 4) pa_nil))) (blkOk_by (N := N__law_gains) (sc := defScope s__law_gains) (by decide +kernel)) (fun _ _ _ _ _ => pg_tup rfl (pgs_cons (pg_name (i := 6) sc__law_gains.nd rfl (Or.inl rfl)) (pgs_cons (pg_name (i := 7) sc__law_gains.nd rfl (Or.inl rfl)) pgs_nil))) (fun _ _ _ _ _ => pts_nil) (fun _ _ _ _ _ => (pe_call G__law_add (hr.mono (by omega)) (by rfl) T.D__law_add.g T.D__law_add.F.kp T.D__law_add.b .nil pass0 (pa_cons (pv 6) (pa_cons (pv 7) pa_nil)))))
      (pss_one (ps_expr (pe_bm PySem.F.plainAttrs_list PySem.F.slot_list_append PySem.F.type_list_append mt_append (pv 3) (pa_cons (pv 2) pa_nil))))))
      (pss_one (ps_ret (pv 3)))))), ?_⟩
  refine ⟨_, rfl, (n : Int), rfl, by omega, by omega, fun D0 hD0 => ?_⟩
  refine lc_range (lo := 0) (n := n) (fun i H' => ∃ us, H' D0 = some (.lst us) ∧ Pps K H' us (List.replicate i (0, 1)) ∧ Same H H') ⟨[], upd_same, .nil, same_upd hD0⟩ (fun i H' hi hW => ?_) (fun H1 hW => ?_)
  · obtain ⟨us, eD, hV, sm⟩ := hW
    have hvl := hV.len
    rw [List.length_replicate] at hvl
    refine ⟨rfl, ?_⟩
    dsimp only [tYes]
    rw [if_pos rfl]
    refine ⟨(by show 2 ≤ sizeLine; decide), fun t ht => ?_⟩
    have st := same_upd (o := .tup [.int 0, .int 1]) ht
    have eD2 := st _ _ eD
    refine ⟨us, eD2, small1000 (by omega), us ++ [.ref t], upd_same, ?_, same_at hD0 (sm.trans st)⟩
    rw [rep1]
    exact pps_grow eD2 (hV.same st) (x := (0, 1)) Pr.new
  obtain ⟨vs, eD, hV, s1⟩ := hW
  refine ⟨Nat.zero_le _, fun Df hDf => ?_⟩
  have sF := same_upd (o := .lst []) hDf
  have nDf : H Df = none := s1.free hDf
  refine ⟨_, rfl, p, rfl, ⟨_, SqL.of (sF _ _ (s1 _ _ ep))⟩, ?_⟩
  have n0 : D0 ≠ Df := fun z => by rw [← z, eD] at hDf; cases hDf
  refine for_list (xs := us) (fun i σ H3 => ∃ (q : Addr) (y4 y5 y6 y7 : Option V) (ws : List V), σ = [some (.ref p), some (.int (n : Int)), some (.ref q), some (.ref Df), y4, y5, y6, y7] ∧ q ≠ Df ∧ LP K H3 q (nowM rss n i) ∧ H3 Df = some (.lst ws) ∧ Al (RowV K H3) ws ((gnR rss n).take i) ∧ (∀ u ∈ ws, u ≠ .ref Df) ∧ Same H H3)
    ⟨D0, _, _, _, _, [], rfl, n0, ⟨vs, sF _ _ eD, by rw [nowM_zero]; exact hV.same sF⟩, upd_same, .nil, (fun _ z => nomatch z), s1.trans sF⟩ (fun i σ H3 _ hW => ?_) (fun i x σ H3 hx hW => ?_) (fun σ H3 hW => ?_)
  · obtain ⟨_, _, _, _, _, _, _, _, _, _, _, _, sm⟩ := hW
    exact SqL.of (sm _ _ ep)
  · obtain ⟨q, y4, y5, y6, y7, ws, rfl, nq, lq, eF, hG, nd, sm⟩ := hW
    obtain ⟨r, er, r', rfl, lr'⟩ := hA.of hx
    have hi : i < rss.length := (List.getElem?_eq_some_iff.1 er).1
    have hrr := hb r (List.mem_of_getElem? er)
    obtain ⟨as, ea, ha⟩ := id lq
    obtain ⟨bs, eb, hbs⟩ := lr'.same sm
    have ok1 := nowM_ok hb (show i ≤ rss.length by omega)
    have nl := nowM_len rss n i
    have al := ha.len
    have bl := hbs.len
    refine ⟨_, rfl, _, rfl, q, r', as, bs, rfl, SqL.of ea, SqL.of eb, fun Dn hDn => ?_⟩
    refine lc_it (walk_zip (xs := as) (ys := bs) (n := n) (by rw [al, bl, nl, hrr.2, Nat.min_self])) (fun j H' => ∃ vs, H' Dn = some (.lst vs) ∧ Pps K H' vs ((List.zipWith addP (nowM rss n i) r).take j) ∧ Same H3 H') ⟨[], upd_same, .nil, same_upd hDn⟩ (fun j H' _ hW => ?_) (fun j x H' H'' hj hW hy' => ?_) (fun H4 hW => ?_)
    · obtain ⟨vs, _, _, sm'⟩ := hW
      exact ⟨SqL.of (sm' _ _ ea), SqL.of (sm' _ _ eb)⟩
    · obtain ⟨vs, eD', hV', sm'⟩ := hW
      obtain ⟨T, x1, x2, rfl, nT, rfl, f1, f2⟩ := hy'
      obtain ⟨a, ha', pa⟩ := pps_get ha f1
      obtain ⟨b, hb', pb⟩ := pps_get hbs f2
      have oa := ok1 a (List.mem_of_getElem? ha')
      have ob := hrr.1 b (List.mem_of_getElem? hb')
      have st := same_upd (o := .tup [x1, x2]) nT
      have sm2 := sm'.trans st
      refine ⟨T, [x1, x2], rfl, SqT.of upd_same, rfl, x1, [x2], rfl, x2, [], rfl, rfl, ?_⟩
      refine ⟨rfl, ?_⟩
      dsimp only [tYes]
      rw [if_pos rfl]
      refine ⟨_, rfl, _, rfl, x1, x2, a, b, 1 + 27 * i, 26, rfl, pa.same sm2, pb.same sm2, oa.1, ob.1, by omega, trivial, fun H5 v5 s5 p5 => ?_⟩
      have eD5 := s5 _ _ (st _ _ eD')
      refine ⟨vs, eD5, small1000 ?_, vs ++ [v5], upd_same, ?_, same_at hDn (sm2.trans s5)⟩
      · rw [hV'.len, List.length_take]
        omega
      · rw [zip_at ha' hb']
        exact pps_grow eD5 ((hV'.same st).same s5) p5
    · obtain ⟨vs, eD', hV', sm'⟩ := hW
      rw [List.take_of_length_le (by rw [List.length_zipWith, nl]; omega), nowM_succ er hrr.2] at hV'
      have eF4 := sm' _ _ eF
      have nn : Dn ≠ Df := fun z => by rw [z, eF] at hDn; cases hDn
      have gl := hG.1
      rw [List.length_take, gnR_len] at gl
      refine ⟨_, rfl, .inl ⟨rfl, _, SqL.of eF4⟩, _, rfl, Df, ws, _, rfl, rfl, eF4, small1000 (by omega), ?_⟩
      obtain ⟨g1, g2⟩ := rows_grow (v := .ref Dn) (r := nowM rss n (i + 1)) eF4 (hG.imp fun _ _ _ => RowV.same sm') nd ⟨Dn, rfl, vs, eD', hV'⟩ (fun z => nn (by injection z))
      refine ⟨Dn, _, _, _, _, _, rfl, nn, LP.off ⟨vs, eD', hV'⟩ eF4 nn, upd_same, ?_, g2, same_at nDf (sm.trans sm')⟩
      rw [gnR_take hi]
      exact g1
  · obtain ⟨q', y4, y5, y6, y7, ws, rfl, nq, lq, eF, hG, nd, sm⟩ := hW
    rw [hA.1, ← gnR_len rss n, List.take_of_length_le (Nat.le_refl _)] at hG
    exact ⟨_, rfl, q _ _ sm nDf ⟨ws, eF, hG⟩⟩

end
-- END _law_gains
abbrev N__law_windows : List Str := ["_law_rows", "_law_n", "_law_found", "_law_gains_here", "_law_place", "_law_k", "_law_mine", "_law_first", "_law_last", "_law_row", "_law_t"]
theorem sc__law_windows : FnScope N__law_windows ["_law_rows", "_law_n"] (defScope s__law_windows) := ⟨rfl, rfl, rfl, by decide +kernel, rfl, by decide +kernel, by decide +kernel⟩
section
variable {P : Program} {w : World} {K : PySem.W.Frag} {mg : Str → Option Value} {base : Heap}
theorem ok__law_windows {k : Nat} (T : Env K mg) : FnOk P w K mg base CX0 (k + 4) T.D__law_windows.f T.D__law_windows.fd ["_law_rows", "_law_n"] (sp_lwindows K) := by
  have G__law_gains : FnOk P w K mg base CX0 3 T.D__law_gains.f T.D__law_gains.fd ["_law_rows", "_law_n"] (sp_lgains K) := ok__law_gains T
  refine T.D__law_windows.F.ok sc__law_windows (fun vs H Q E h => ?_) (fun cdv A outer s H vs Q E hr h => ?_)
  · obtain ⟨p, n, rss, rfl, _⟩ := h
    rfl
  obtain ⟨p, n, rss, rfl, lr, hl, hn1, hn, hb, hu, q⟩ := h
  obtain ⟨us, ep, hA⟩ := id lr
  refine ⟨_, (pss_cons (ps_set (i := 2) sc__law_windows.nd rfl (.inl rfl) (pe_lst pa_nil))
      (pss_cons (ps_set (i := 3) sc__law_windows.nd rfl (.inl rfl) (pe_call G__law_gains (hr.mono (by omega)) (by rfl) T.D__law_gains.g T.D__law_gains.F.kp T.D__law_gains.b .nil pass0 (pa_cons (pv 0) (pa_cons (pv 1) pa_nil))))
      (pss_cons (ps_for PassesOwn.never rfl (pi_range1 (by rfl) T.m_range (pa_cons (pv 1) pa_nil)) (pg_name (i := 4) sc__law_windows.nd rfl (.inr rfl)) (pss_one (ps_for PassesOwn.never rfl (pi_range2 (by rfl) T.m_range (pa_cons pe_int (pa_cons (pe_op op_add (pe_callB call_len_seq (by rfl) T.m_len PySem.boot_len (pa_cons (pv 0) pa_nil)) pe_int) pa_nil))) (pg_name (i := 5) sc__law_windows.nd rfl (.inr rfl)) (pss_cons (ps_set (i := 6) sc__law_windows.nd rfl (.inr rfl) (pe_lc (own := [("_law_row", 9)]) (g := gName 9) (tt := tYes) rfl sc__law_windows.nd (pi_list (pv 3)) (blkOk_by (N := N__law_windows) (sc := defScope s__law_windows) (by decide +kernel)) (fun _ _ _ _ _ => pg_name (i := 9) sc__law_windows.nd rfl (Or.inl rfl)) (fun _ _ _ _ _ => pts_nil) (fun _ _ _ _ _ => (pe_ix (r := rIxL K) ix_list (pv 9) (pv 4) (fun _ _ => rfl)))))
      (pss_cons (ps_set (i := 7) sc__law_windows.nd rfl (.inl rfl) (pe_slice sl_list (pe_lc (own := [("_law_t", 10)]) (g := gName 10) (tt := _) rfl sc__law_windows.nd (pi_range1 (by rfl) T.m_range (pa_cons (pe_callB call_len_seq (by rfl) T.m_len PySem.boot_len (pa_cons (pv 0) pa_nil)) pa_nil)) (blkOk_by (N := N__law_windows) (sc := defScope s__law_windows) (by decide +kernel)) (fun _ _ _ _ _ => pg_name (i := 10) sc__law_windows.nd rfl (Or.inl rfl)) (fun _ _ _ _ _ => (pts_one (pt_cmpR op_gt (pe_ix (r := rIxT K) ix_tup (pe_ix (r := rIxL K) ix_list (pv 6) (pv 10) (fun _ _ => rfl)) pe_int (fun _ _ => rfl)) (pe_op op_mulW (pe_op op_sub (pv 5) pe_int) (pe_ix (r := rIxT K) ix_tup (pe_ix (r := rIxL K) ix_list (pv 6) (pv 10) (fun _ _ => rfl)) pe_int (fun _ _ => rfl))) (nomark _)))) (fun _ _ _ _ _ => (pv 10))) po_none (po_some pe_int)))
      (pss_cons (ps_set (i := 8) sc__law_windows.nd rfl (.inl rfl) (pe_slice sl_list (pe_lc (own := [("_law_t", 10)]) (g := gName 10) (tt := _) rfl sc__law_windows.nd (pi_range1 (by rfl) T.m_range (pa_cons (pe_callB call_len_seq (by rfl) T.m_len PySem.boot_len (pa_cons (pv 0) pa_nil)) pa_nil)) (blkOk_by (N := N__law_windows) (sc := defScope s__law_windows) (by decide +kernel)) (fun _ _ _ _ _ => pg_name (i := 10) sc__law_windows.nd rfl (Or.inl rfl)) (fun _ _ _ _ _ => (pts_one (pt_cmpR op_ge (pe_ix (r := rIxT K) ix_tup (pe_ix (r := rIxL K) ix_list (pv 6) (pv 10) (fun _ _ => rfl)) pe_int (fun _ _ => rfl)) (pe_op op_mulW (pv 5) (pe_ix (r := rIxT K) ix_tup (pe_ix (r := rIxL K) ix_list (pv 6) (pv 10) (fun _ _ => rfl)) pe_int (fun _ _ => rfl))) (nomark _)))) (fun _ _ _ _ _ => (pv 10))) po_none (po_some pe_int)))
      (pss_cons (ps_if (pt_cmpR (op_eqD hr.units) (pv 7) (pe_lst pa_nil) (nomark _)) (pss_one ps_break) pss_nil)
      (pss_one (ps_expr (pe_bm PySem.F.plainAttrs_list PySem.F.slot_list_append PySem.F.type_list_append mt_append (pv 2) (pa_cons (pe_tup (pa_cons (pv 4) (pa_cons (pv 5) (pa_cons (pe_ix ix_list (pv 7) pe_int (fun _ _ => rfl)) (pa_cons (pe_ifExp (pt_cmpR (op_neD hr.units) (pv 8) (pe_lst pa_nil) (nomark _)) (pe_ix ix_list (pv 8) pe_int (fun _ _ => rfl)) pe_non) pa_nil))))) pa_nil)))))))))))
      (pss_one (ps_ret (pv 2)))))), ?_⟩
  refine ⟨Nat.zero_le _, fun Df hDf => ?_⟩
  have sF := same_upd (o := .lst []) hDf
  refine ⟨_, rfl, _, rfl, p, n, rss, rfl, lr.same sF, hl, hn, hb, fun H1 Dg s1 nDg ⟨gs, eg, hG⟩ => ?_⟩
  have eF1 : H1 Df = some (.lst []) := s1 _ _ upd_same
  have ep1 := s1 _ _ (sF _ _ ep)
  have pne : p ≠ Df := fun z => by rw [z, hDf] at ep; cases ep
  have gne : Dg ≠ Df := fun z => by rw [z, upd_same] at nDg; cases nDg
  have gsl : gs.length = rss.length := by rw [hG.1, gnR_len]
  -- a field's row of gains
  have rowAt : ∀ {H3 : Hp}, Sb Df H1 H3 → ∀ (j : Nat) (v : V), gs[j]? = some v → ∃ b, v = .ref b ∧ LP K H3 b (nowM rss n (j + 1)) := fun {H3} sb j v ev => by
    obtain ⟨row, er, b, rfl, lb⟩ := hG.of ev
    have hj : j < rss.length := by rw [← gsl]; exact (List.getElem?_eq_some_iff.1 ev).1
    have e2 : row = nowM rss n (j + 1) := by
      unfold gnR at er
      rw [List.getElem?_map, List.getElem?_range hj] at er
      exact (Option.some.inj er).symm
    subst e2
    refine ⟨b, rfl, lb.sb sb eF1 fun z => ?_⟩
    obtain ⟨ws, ew, hw⟩ := lb
    rw [z, eF1] at ew
    have : ws = [] := by injection ew with ew; injection ew with ew; exact ew.symm
    subst this
    have := hw.len
    rw [nowM_len] at this
    simp at this
    omega
  refine ⟨_, rfl, (n : Int), rfl, by omega, by omega, ?_⟩
  refine for_range (lo := 0) (n := n) (fun i σ H3 => ∃ (y4 y5 y6 y7 y8 y9 y10 : Option V) (ws : List V), σ = [some (.ref p), some (.int (n : Int)), some (.ref Df), some (.ref Dg), y4, y5, y6, y7, y8, y9, y10] ∧ H3 Df = some (.lst ws) ∧ Al (WnV K H3) ws (winA rss i) ∧ Sb Df H1 H3)
    ⟨_, _, _, _, _, _, _, [], rfl, eF1, .nil, Sb.of (Same.refl _)⟩ (fun pl σ H3 hpl hW => ?_) (fun σ H3 hW => ?_)
  · obtain ⟨y4, y5, y6, y7, y8, y9, y10, ws, rfl, eF, hV, sb⟩ := hW
    have cu := hu pl hpl
    have co := col_ok (pl := pl) (rss := rss) fun r hr => ⟨(hb r hr).1, by rw [(hb r hr).2]; exact hpl⟩
    have cl := col_len rss pl
    obtain ⟨xs, exs⟩ : ∃ xs, xs = colP rss pl := ⟨_, rfl⟩
    rw [← exs] at cu co cl
    have cc := ceil_le cu
    have cn := ceil_nn cu
    have go := gnM_ok co (by omega)
    refine ⟨_, rfl, p, us, rfl, .inl (SqL.of (sb _ _ ep1 pne)), _, _, rfl, rfl, 1, (us.length : Int) + 1, rfl, ⟨by decide, by decide, by omega, by rw [hA.1]; omega⟩, ?_⟩
    rw [show ((us.length : Int) + 1 - 1).toNat = rss.length by rw [Int.add_sub_cancel, Int.toNat_natCast, hA.1]]
    refine for_range (lo := 1) (n := rss.length) (fun i σ H4 => ∃ (y5 y6 y7 y8 y9 y10 : Option V) (ws : List V), σ = [some (.ref p), some (.int (n : Int)), some (.ref Df), some (.ref Dg), some (.int (0 + (pl : Int))), y5, y6, y7, y8, y9, y10] ∧ i ≤ (ceilP (sumP xs)).toNat ∧ H4 Df = some (.lst ws) ∧ Al (WnV K H4) ws (winA rss pl ++ (winP xs pl).take i) ∧ Sb Df H1 H4)
      ⟨_, _, _, _, _, _, ws, rfl, Nat.zero_le _, eF, by rw [List.take_zero, List.append_nil]; exact hV, sb⟩ (fun i σ H4 hi hW => ?_) (fun σ H4 hW => ?_)
    · obtain ⟨y5, y6, y7, y8, y9, y10, ws, rfl, hic, eF, hV, sb⟩ := hW
      have m0 : 0 < xs.length := by omega
      -- mine
      refine ⟨_, rfl, Dg, rfl, ⟨_, SqL.of (sb _ _ eg gne)⟩, fun Dm hDm => ?_⟩
      refine lc_list (xs := gs) (fun j H' => ∃ ms, H' Dm = some (.lst ms) ∧ Pps K H' ms ((gnM xs).take j) ∧ Same H4 H') ⟨[], upd_same, .nil, same_upd hDm⟩ (fun j H' _ hW => ?_) (fun j x H' hx hW => ?_) (fun H5 hW => ?_)
      · obtain ⟨_, _, _, sm⟩ := hW
        exact SqL.of (sm _ _ (sb _ _ eg gne))
      · obtain ⟨ms, eM, hM, sm⟩ := hW
        obtain ⟨b, rfl, lb⟩ := rowAt sb j x hx
        have hj : j < rss.length := by rw [← gsl]; exact (List.getElem?_eq_some_iff.1 hx).1
        obtain ⟨zs, ez, hz⟩ := lb.same sm
        obtain ⟨v1, g1, p1⟩ := pps_at hz (nowM_at hpl)
        refine ⟨rfl, ?_⟩
        dsimp only [tYes]
        rw [if_pos rfl]
        have ml := hM.len
        rw [List.length_take, gnM_len] at ml
        refine ⟨_, rfl, _, rfl, b, zs, _, v1, rfl, rfl, SqL.of ez, by rw [Int.zero_add]; exact atI_nat g1, ms, eM, small1000 (by omega), ms ++ [v1], upd_same, ?_, same_at hDm sm⟩
        rw [gnM_take (by omega)]
        rw [exs]
        rw [exs] at hM
        exact pps_grow eM hM p1
      obtain ⟨ms, eM, hM, s5⟩ := hW
      rw [gsl, ← cl, gnM_all] at hM
      have ml := hM.len
      rw [gnM_len] at ml
      have s5x : Same H5 H5 := Same.refl _
      have sM : ∀ H', Same H5 H' → H' Dm = some (.lst ms) := fun H' s' => s' _ _ eM
      have lC : ((gnM xs).map ceilP).length = xs.length := by rw [List.length_map, gnM_len]
      have lF : ((gnM xs).map floorP).length = xs.length := by rw [List.length_map, gnM_len]
      refine ⟨_, rfl, p, us, rfl, .inl (SqL.of (s5x _ _ (s5 _ _ (sb _ _ ep1 pne)))), (us.length : Int), rfl, by omega, by rw [hA.1]; omega, fun Dq hDq => ?_⟩
      rw [show ((us.length : Nat) : Int).toNat = xs.length by rw [Int.toNat_natCast, hA.1, cl]]
      refine lc_range (lo := 0) (n := xs.length) (fun j H' => H' Dq = some (.lst (ntV (fsK ((gnM xs).map ceilP) (1 + (i : Int)) j))) ∧ Same H5 H') ⟨upd_same, same_upd hDq⟩ (fun j H' hj hW => ?_) (fun H6 hW => ?_)
      · obtain ⟨eQ, sm⟩ := hW
        have sMj := s5x.trans sm
        have eM' := sM _ sMj
        obtain ⟨v1, g1, p1⟩ := pps_at hM (gnM_at hj)
        obtain ⟨b1, rfl, qT⟩ := p1.same sMj
        have o1 := (go _ (List.mem_of_getElem? (gnM_at hj))).1
        have aI : atI ms (0 + (j : Int)) = some (V.ref b1) := by rw [Int.zero_add]; exact atI_nat g1
        have fl := fsK_len ((gnM xs).map ceilP) (1 + (i : Int)) j
        have up := le_ceil o1.pos (1 + (i : Int))
        refine ⟨rfl, ?_⟩
        refine ⟨_, rfl, _, rfl, Dm, ms, _, _, rfl, rfl, SqL.of eM', aI, b1, _, 0, _, rfl, rfl, qT, rfl, _, rfl, _, _, rfl, rfl, _, rfl, _, rfl, Dm, ms, _, _, rfl, rfl, SqL.of eM', aI, b1, _, 1, _, rfl, rfl, qT, rfl, _, _, rfl, rfl, bd_mulok (n := 20) (m := 1700) (Bd.of (m := 100) (by omega) (by omega) (by decide)) o1.bot (by decide), _, _, rfl, rfl, _, rfl, ite2 (fun e => ?_) (fun e => ?_)⟩
        · have hp : upK ((gnM xs).map ceilP) (1 + (i : Int)) j = true := by
            unfold upK
            rw [gn_getD hj, decide_eq_true_eq, up]
            simpa using e
          refine ⟨_, rfl, _, eQ, small1000 (by unfold ntV; rw [List.length_map]; omega), ?_, same_at hDq sm⟩
          rw [upd_same, fsK_succ, if_pos hp, nt_snoc, Int.zero_add]
        · have hp : ¬ upK ((gnM xs).map ceilP) (1 + (i : Int)) j = true := by
            unfold upK
            rw [gn_getD hj, decide_eq_true_eq, up]
            simpa using e
          exact ⟨by rw [fsK_succ, if_neg hp]; exact eQ, sm⟩
      obtain ⟨eDq, s6⟩ := hW
      refine ⟨1, rfl, Dq, _, rfl, SqL.of eDq, fun pa hpa => ?_⟩
      rw [cut_one, nt_take lC]
      have sa := same_upd (o := .lst (oL (firstK ((gnM xs).map ceilP) (1 + (i : Int))))) hpa
      have s6a := s6.trans sa
      refine ⟨_, rfl, p, us, rfl, .inl (SqL.of (s6a _ _ (s5 _ _ (sb _ _ ep1 pne)))), (us.length : Int), rfl, by omega, by rw [hA.1]; omega, fun Dl hDl => ?_⟩
      rw [show ((us.length : Nat) : Int).toNat = xs.length by rw [Int.toNat_natCast, hA.1, cl]]
      refine lc_range (lo := 0) (n := xs.length) (fun j H' => H' Dl = some (.lst (ntV (fsK ((gnM xs).map floorP) (1 + (i : Int)) j))) ∧ Same (upd H6 pa (.lst (oL (firstK ((gnM xs).map ceilP) (1 + (i : Int)))))) H') ⟨upd_same, same_upd hDl⟩ (fun j H' hj hW => ?_) (fun H7 hW => ?_)
      · obtain ⟨eQ, sm⟩ := hW
        have sMj := s6a.trans sm
        have eM' := sM _ sMj
        obtain ⟨v1, g1, p1⟩ := pps_at hM (gnM_at hj)
        obtain ⟨b1, rfl, qT⟩ := p1.same sMj
        have o1 := (go _ (List.mem_of_getElem? (gnM_at hj))).1
        have aI : atI ms (0 + (j : Int)) = some (V.ref b1) := by rw [Int.zero_add]; exact atI_nat g1
        have fl := fsK_len ((gnM xs).map floorP) (1 + (i : Int)) j
        have up := le_floor o1.pos (1 + (i : Int))
        refine ⟨rfl, ?_⟩
        refine ⟨_, rfl, _, rfl, Dm, ms, _, _, rfl, rfl, SqL.of eM', aI, b1, _, 0, _, rfl, rfl, qT, rfl, _, rfl, _, rfl, _, rfl, Dm, ms, _, _, rfl, rfl, SqL.of eM', aI, b1, _, 1, _, rfl, rfl, qT, rfl, _, _, rfl, rfl, bd_mulok (n := 20) (m := 1700) (Bd.of (m := 100) (by omega) (by omega) (by decide)) o1.bot (by decide), _, _, rfl, rfl, _, rfl, ite2 (fun e => ?_) (fun e => ?_)⟩
        · have hp : upK ((gnM xs).map floorP) (1 + (i : Int)) j = true := by
            unfold upK
            rw [gn_getD hj, decide_eq_true_eq, up]
            simpa using e
          refine ⟨_, rfl, _, eQ, small1000 (by unfold ntV; rw [List.length_map]; omega), ?_, same_at hDl sm⟩
          rw [upd_same, fsK_succ, if_pos hp, nt_snoc, Int.zero_add]
        · have hp : ¬ upK ((gnM xs).map floorP) (1 + (i : Int)) j = true := by
            unfold upK
            rw [gn_getD hj, decide_eq_true_eq, up]
            simpa using e
          exact ⟨by rw [fsK_succ, if_neg hp]; exact eQ, sm⟩
      obtain ⟨eDl, s7⟩ := hW
      refine ⟨1, rfl, Dl, _, rfl, SqL.of eDl, fun pb hpb => ?_⟩
      rw [cut_one, nt_take lF]
      have sb' := same_upd (o := .lst (oL (firstK ((gnM xs).map floorP) (1 + (i : Int))))) hpb
      have ea : upd H7 pb (.lst (oL (firstK ((gnM xs).map floorP) (1 + (i : Int))))) pa = some (.lst (oL (firstK ((gnM xs).map ceilP) (1 + (i : Int))))) := sb' _ _ (s7 _ _ upd_same)
      have eb : upd H7 pb (.lst (oL (firstK ((gnM xs).map floorP) (1 + (i : Int))))) pb = some (.lst (oL (firstK ((gnM xs).map floorP) (1 + (i : Int))))) := upd_same
      have s8 := (s5.trans (s6a.trans s7)).trans sb'
      generalize upd H7 pb (.lst (oL (firstK ((gnM xs).map floorP) (1 + (i : Int))))) = H8 at ea eb s8 ⊢
      have fi := first_is cu (1 + (i : Int)) m0
      -- is there a first hour
      refine ⟨_, rfl, Nat.zero_le _, fun De hDe => ?_⟩
      have sE := same_upd (o := .lst []) hDe
      refine ⟨_, _, oL_dp (sE _ _ ea), .lst (SqL.of upd_same) .nil, oL_shp _, rfl, _, rfl, ?_⟩
      rw [oL_eqv]
      have s9 := s8.trans sE
      have eF9 := s9 _ _ eF
      by_cases hk : i < (ceilP (sumP xs)).toNat
      · obtain ⟨t1, e1⟩ : ∃ t1, firstK ((gnM xs).map ceilP) (1 + (i : Int)) = some t1 := Option.isSome_iff_exists.1 (by rw [fi]; exact decide_eq_true (by omega))
        have wl := winA_len hl hu pl (by omega)
        have wsl : ws.length ≤ 2000 := by
          rw [hV.1, List.length_append, List.length_take, winP_all]
          omega
        rw [e1] at ea ⊢
        refine iteF ?_
        refine ⟨_, rfl, .inl ⟨rfl, _, SqL.of eF9⟩, _, rfl, _, rfl, _, rfl, pa, [.int (t1 : Int)], 0, _, rfl, rfl, SqL.of (sE _ _ ea), rfl, ?_⟩
        refine ⟨_, rfl, Nat.zero_le _, fun D2 hD2 => ?_⟩
        have s10 := same_upd (o := .lst []) hD2
        refine ⟨_, _, oL_dp (s10 _ _ (sE _ _ eb)), .lst (SqL.of upd_same) .nil, oL_shp _, rfl, _, rfl, ?_⟩
        rw [oL_eqv]
        cases e2 : firstK ((gnM xs).map floorP) (1 + (i : Int)) with
        | none =>
          refine iteF ?_
          refine ⟨(by show 4 ≤ sizeLine; decide), fun t ht => ?_⟩
          have sT := same_upd (o := .tup [.int (0 + (pl : Int)), .int (1 + (i : Int)), .int (t1 : Int), .non]) ht
          have sAll := (s9.trans s10).trans sT
          have eFt := sAll _ _ eF
          refine ⟨Df, ws, _, rfl, rfl, eFt, Nat.lt_of_le_of_lt wsl (by decide), ?_⟩
          refine ⟨_, _, _, _, _, _, ws ++ [.ref t], rfl, by omega, upd_same, ?_, (sb.trans (Sb.of sAll)).trans Sb.put⟩
          rw [List.take_add_one, winP_at hk, ← List.append_assoc]
          refine wn_grow eFt (hV.imp fun _ _ _ => WnV.same sAll) ⟨t, rfl, ?_⟩
          rw [show ((i : Int) + 1) = 1 + (i : Int) by omega, e1, e2]
          show SqT K _ t [.int (pl : Int), .int ((i + 1 : Nat) : Int), .int (t1 : Int), .non]
          rw [show ((i + 1 : Nat) : Int) = 1 + (i : Int) by omega, Int.zero_add]
          exact SqT.of upd_same
        | some t2 =>
          rw [e2] at eb
          refine iteT ?_
          refine ⟨_, rfl, pb, [.int (t2 : Int)], 0, _, rfl, rfl, SqL.of (s10 _ _ (sE _ _ eb)), rfl, ?_⟩
          refine ⟨(by show 4 ≤ sizeLine; decide), fun t ht => ?_⟩
          have sT := same_upd (o := .tup [.int (0 + (pl : Int)), .int (1 + (i : Int)), .int (t1 : Int), .int (t2 : Int)]) ht
          have sAll := (s9.trans s10).trans sT
          have eFt := sAll _ _ eF
          refine ⟨Df, ws, _, rfl, rfl, eFt, Nat.lt_of_le_of_lt wsl (by decide), ?_⟩
          refine ⟨_, _, _, _, _, _, ws ++ [.ref t], rfl, by omega, upd_same, ?_, (sb.trans (Sb.of sAll)).trans Sb.put⟩
          rw [List.take_add_one, winP_at hk, ← List.append_assoc]
          refine wn_grow eFt (hV.imp fun _ _ _ => WnV.same sAll) ⟨t, rfl, ?_⟩
          rw [show ((i : Int) + 1) = 1 + (i : Int) by omega, e1, e2]
          show SqT K _ t [.int (pl : Int), .int ((i + 1 : Nat) : Int), .int (t1 : Int), .int (t2 : Int)]
          rw [show ((i + 1 : Nat) : Int) = 1 + (i : Int) by omega, Int.zero_add]
          exact SqT.of upd_same
      · have e1 : firstK ((gnM xs).map ceilP) (1 + (i : Int)) = none := Option.isNone_iff_eq_none.1 (by
          cases h : firstK ((gnM xs).map ceilP) (1 + (i : Int)) with
          | none => rfl
          | some t => rw [h, decide_eq_false (by omega)] at fi; cases fi)
        rw [e1]
        refine iteT ?_
        rw [List.take_of_length_le (by rw [winP_all]; omega), exs, ← winA_succ] at hV
        exact ⟨_, _, _, _, _, _, _, ws, rfl, eF9, hV.imp fun _ _ _ => WnV.same s9, sb.trans (Sb.of s9)⟩
    · obtain ⟨y5, y6, y7, y8, y9, y10, ws, rfl, hic, eF, hV, sb⟩ := hW
      rw [List.take_of_length_le (by rw [winP_all]; omega), exs, ← winA_succ] at hV
      exact ⟨_, _, _, _, _, _, _, ws, rfl, eF, hV, sb⟩
  · obtain ⟨y4, y5, y6, y7, y8, y9, y10, ws, rfl, eF, hV, sb⟩ := hW
    refine ⟨_, rfl, q _ Df (fun b o e => ?_) hDf ⟨ws, eF, hV⟩⟩
    exact sb _ _ (s1 _ _ (sF _ _ e)) fun z => by rw [z, hDf] at e; cases e

end
-- END _law_windows
end DT
namespace DT
/-! what the law asks of a plan, hour by hour -/
section
variable {α : Type} {r : α → Nat} {d : α → Option Nat} {lost : Nat → Bool} {many t : Nat} {W0 W : List α} {os : List (Option α)}
theorem PlanTo.cut (h : PlanTo r d lost many W0 t os W) : ∀ i, i ≤ t → ∃ W', PlanTo r d lost many W0 i (os.take i) W' := by
  induction h with
  | nil =>
    intro i hi
    rw [Nat.le_zero.1 hi]
    exact ⟨_, .nil⟩
  | @snoc t os W W' o h g ih =>
    intro i hi
    have l := h.len
    rcases Nat.lt_or_ge i (t + 1) with c | c
    · obtain ⟨W1, p⟩ := ih i (by omega)
      refine ⟨W1, ?_⟩
      rw [List.take_append_of_le_length (by omega)]
      exact p
    · rw [List.take_of_length_le (by rw [List.length_append]; simp; omega), show i = t + 1 by omega]
      exact ⟨_, .snoc h g⟩
theorem PlanTo.at (h : PlanTo r d lost many W0 t os W) {i : Nat} (hi : i < t) : ∃ W1 o W2, PlanTo r d lost many W0 i (os.take i) W1 ∧ os[i]? = some o ∧ Hour r d lost many i W1 o W2 ∧ PlanTo r d lost many W0 (i + 1) (os.take (i + 1)) W2 := by
  obtain ⟨W2, p⟩ := h.cut (i + 1) hi
  have l := h.len
  have hl : i < os.length := by omega
  have e : os.take (i + 1) = os.take i ++ [os[i]] := by rw [List.take_add_one, List.getElem?_eq_getElem hl]; rfl
  rw [e] at p
  generalize hos : os.take i ++ [os[i]] = os' at p
  generalize ht : i + 1 = t' at p
  cases p with
  | nil => cases ht
  | @snoc t1 os1 W1 _ o q g =>
    obtain rfl : i = t1 := by omega
    obtain ⟨e1, e2⟩ := List.append_inj' hos rfl
    subst e1
    have e2 : os[i] = o := by simpa using e2
    refine ⟨W1, o, W2, q, by rw [List.getElem?_eq_getElem hl, e2], g, ?_⟩
    rw [e, e2]
    exact .snoc q g
theorem PlanTo.sub (h : PlanTo r d lost many W0 t os W) : ∀ w ∈ W, w ∈ W0 := by
  induction h with
  | nil => exact fun w hw => hw
  | snoc _ g ih =>
    cases g with
    | shut _ => exact ih
    | idle _ _ => exact ih
    | pick _ _ _ _ => exact fun w hw => ih w (List.mem_of_mem_eraseIdx hw)
end
theorem winA_place {rss : List (List Q2)} {n : Nat} : ∀ w ∈ winA rss n, w.1 < n := fun w hw => by
  unfold winA at hw
  obtain ⟨pl, hp, hw⟩ := List.mem_flatMap.1 hw
  rw [winP_place w hw]
  exact List.mem_range.1 hp
def KeepP (rss : List (List Q2)) (n : Nat) (ls : List Nat) (os : List (Option Wn)) : Prop := os.length = rss.length ∧ ∀ t, t < rss.length → ∃ o, os[t]? = some o ∧
  (o = none → lostF ls t = true ∨ ∀ pl, pl < n → ceilP (sumP ((colP rss pl).take (t + 1))) ≤ (hadO pl (os.take t) : Int)) ∧ (∀ w, o = some w → w.1 < n ∧ lostF ls t = false) ∧
  ∀ pl, pl < n → floorP (sumP ((colP rss pl).take (t + 1))) ≤ (hadO pl (os.take (t + 1)) : Int) ∧ (hadO pl (os.take (t + 1)) : Int) ≤ ceilP (sumP ((colP rss pl).take (t + 1)))
theorem keep_of {rss : List (List Q2)} {n : Nat} {ls : List Nat} {os : List (Option Wn)} {W : List Wn} (h : Season rss n) (am : Ample rW dW (lostF ls) rss.length 0 (winA rss n)) (p : PlanTo rW dW (lostF ls) rss.length (winA rss n) rss.length os W) : KeepP rss n ls os := by
  refine ⟨p.len, fun t ht => ?_⟩
  obtain ⟨W1, o, W2, p1, eo, g, p2⟩ := p.at ht
  refine ⟨o, eo, fun e => ?_, fun w e => ?_, fun pl hp => had_betweenL h am p2 ht hp⟩
  · cases el : lostF ls t with
    | true => exact .inl rfl
    | false =>
      right
      intro pl hp
      subst e
      have g' : Hour rW dW (lostF ls) rss.length t W1 none W1 := by
        cases g with
        | shut e' => rw [el] at e'; cases e'
        | idle a b => exact .idle a b
      rw [had_all h p1 g' el ht hp]
      exact Int.le_refl _
  · subst e
    cases g with
    | pick a b _ _ => exact ⟨winA_place w (p1.sub w (List.mem_of_getElem? b)), a⟩
theorem had_zero (pl : Nat) : hadO pl [] = 0 := rfl
theorem had_snoc (pl : Nat) (os : List (Option Wn)) (o : Option Wn) : hadO pl (os ++ [o]) = hadO pl os + (if o.any (fun w => decide (w.1 = pl)) = true then 1 else 0) := by
  unfold hadO
  rw [List.countP_append, List.countP_singleton]
end DT
namespace DT
open PySem PySem.Spec PyProof.Rows L2 LamX
def hadL (n : Nat) (os : List (Option Wn)) : List V := (List.range n).map fun pl => V.int (hadO pl os : Nat)
theorem hadL_len (n : Nat) (os : List (Option Wn)) : (hadL n os).length = n := by unfold hadL; simp
theorem hadL_at {n pl : Nat} {os : List (Option Wn)} (h : pl < n) : (hadL n os)[pl]? = some (.int (hadO pl os : Nat)) := by
  unfold hadL
  rw [List.getElem?_map, List.getElem?_range h]
  rfl
theorem hadL_set {n : Nat} {os : List (Option Wn)} {w : Wn} (h : w.1 < n) : (hadL n os).set w.1 (.int ((hadO w.1 os : Nat) + 1)) = hadL n (os ++ [some w]) := by
  apply List.ext_getElem?
  intro i
  by_cases hi : i < n
  · rw [hadL_at hi, List.getElem?_set]
    by_cases e : w.1 = i
    · rw [if_pos e, if_pos (by rw [hadL_len]; exact h), had_snoc, if_pos (by simpa using e), e]
      rfl
    · rw [if_neg e, hadL_at hi, had_snoc, if_neg (by simpa using e)]
      rfl
  · rw [List.getElem?_eq_none (by rw [List.length_set, hadL_len]; omega), List.getElem?_eq_none (by rw [hadL_len]; omega)]
theorem hadL_none (n : Nat) (os : List (Option Wn)) : hadL n (os ++ [none]) = hadL n os := by
  unfold hadL
  refine List.map_congr_left fun pl _ => ?_
  rw [had_snoc]
  rfl
def ceL (f : Q2 → Int) (xs : List Q2) : List V := xs.map fun x => V.int (f x)
theorem nowM_get {rss : List (List Q2)} {n i pl : Nat} {f : Q2 → Int} (h : pl < n) : (ceL f (nowM rss n i))[pl]? = some (.int (f (sumP ((colP rss pl).take i)))) := by
  unfold ceL
  rw [List.getElem?_map, nowM_at h]
  rfl
def sp_keepsP (K : PySem.W.Frag) : Sp := fun vs H Q _ => ∃ (p pl pq : Addr) (n : Nat) (rss : List (List Q2)) (ls : List Nat) (os : List (Option Wn)), vs = [.ref p, .int n, .ref pl, .ref pq] ∧ LR K H p rss ∧ H pl = some (.lst (ntV ls)) ∧ H pq = some (.lst (os.map plV)) ∧ rss.length ≤ 61 ∧ n ≤ 24 ∧ (∀ r ∈ rss, AllOk 26 r ∧ r.length = n) ∧ KeepP rss n ls os ∧ ∀ H', Same H H' → Q (.bl true) H'
end DT
namespace DT
open PySem PySem.Spec PyProof.Rows L2
theorem ixN_at {n j : Nat} (hj : j < n) : ixN n (j : Int) = some j := by
  unfold ixN
  simp
  omega
end DT
namespace DT
open PySem PySem.Spec PyProof.Rows L2 LamX
theorem season_of {n : Nat} {wss : List (List Int)} (h : ∀ ws ∈ wss, WsOk n ws) : Season (wss.map sharesOf) n := ⟨fun r hr => by
  obtain ⟨ws, hw, rfl⟩ := List.mem_map.1 hr
  rw [shares_len, (h ws hw).1], fun pl hp => col_unit h hp, fun r hr => by
  obtain ⟨ws, hw, rfl⟩ := List.mem_map.1 hr
  exact worth_shares (h ws hw)⟩
theorem lost_none : lostF [] = fun _ => false := by
  funext t
  simp [lostF]
/-- where nothing is lost no stretch is full -/
theorem crowd_no {rss : List (List Q2)} {n : Nat} {L : List (Nat × Nat)} (h : Season rss n) (pm : L.Perm (closeL (winA rss n))) (so : L.Pairwise (fun p q => p.1 ≤ q.1)) : crowdP (aheadN (lostF [])) L (List.range rss.length) = none := by
  cases e : crowdP (aheadN (lostF [])) L (List.range rss.length) with
  | none => rfl
  | some z =>
    exfalso
    obtain ⟨a, l⟩ := z
    obtain ⟨ha, hb⟩ := crowd_some _ e
    obtain ⟨c1, f, hm, hf⟩ := hit_some L 0 so hb
    have hm2 := pm.mem_iff.1 hm
    unfold closeL at hm2
    obtain ⟨w, hw, ew⟩ := List.mem_filterMap.1 hm2
    cases ed : dW w with
    | none => rw [ed] at ew; cases ew
    | some y =>
      rw [ed] at ew
      obtain ⟨rfl, rfl⟩ : y = l ∧ rW w = f := by
        have := Option.some.inj ew
        exact ⟨congrArg Prod.fst this, congrArg Prod.snd this⟩
      have ly := (winA_ok h.unit w hw).2 y ed
      have rd := win_rd h w hw y ed
      have k := winA_count h (x := y) (a := a) ly (by omega)
      rw [close_count, ← pm.countP_eq] at k
      rw [lost_none, ahead_none, ahead_none] at c1
      omega
theorem plan_some {rss : List (List Q2)} {n : Nat} {os : List (Option Wn)} {W : List Wn} (h : Season rss n) (p : PlanTo rW dW (lostF []) rss.length (winA rss n) rss.length os W) : ∀ o ∈ os, o ≠ none := fun o ho e => by
  obtain ⟨t, ht, eo⟩ := List.getElem_of_mem ho
  have hl := p.len
  obtain ⟨W1, o', W2, p1, eo', g, _⟩ := p.at (show t < rss.length by omega)
  rw [List.getElem?_eq_getElem ht, eo, e] at eo'
  obtain rfl := Option.some.inj eo'
  rw [lost_none] at g p1
  obtain ⟨s, hs, hr⟩ := never_idle h p1 (by omega)
  cases g with
  | shut e => cases e
  | idle _ b =>
    have := b s hs
    omega
def plD : Option Wn → PyData
  | none => .none
  | some w => .int w.1
theorem plD_all {K : PySem.W.Frag} {H : Hp} : ∀ os : List (Option Wn), DpAll K H (os.map plV) (os.map plD)
  | [] => .nil
  | none :: os => .cons .non (plD_all os)
  | some w :: os => .cons (.int _) (plD_all os)
theorem plD_lay : ∀ os : List (Option Wn), PyData.canLayAll0 (os.map plD) = true
  | [] => rfl
  | none :: os => by
    rw [List.map_cons]
    simp only [PyData.canLayAll0, plD, PyData.canLay0, plD_lay os, Bool.and_self]
  | some w :: os => by
    rw [List.map_cons]
    simp only [PyData.canLayAll0, plD, PyData.canLay0, plD_lay os, Bool.and_self]
theorem plD_dep : ∀ os : List (Option Wn), PyData.depthAll (os.map plD) = 0
  | [] => rfl
  | none :: os => by
    rw [List.map_cons]
    simp only [PyData.depthAll, plD, PyData.depth, plD_dep os]
    rfl
  | some w :: os => by
    rw [List.map_cons]
    simp only [PyData.depthAll, plD, PyData.depth, plD_dep os]
    rfl
theorem plD_shp (os : List (Option Wn)) : SeqAt.shaped (.list (os.map plD)) = true := by
  unfold SeqAt.shaped
  rw [Bool.and_eq_true]
  refine ⟨by simp only [PyData.canLay0, plD_lay os], decide_eq_true ?_⟩
  simp only [PyData.depth, plD_dep os]
  decide
def sp_lawT (K : PySem.W.Frag) (PT : Addr) : Sp := fun vs H Q _ => ∃ (a : Addr) (ns : List Int), vs = [.ref a] ∧ H PT = some (.tbl #[]) ∧ SqL K H a (ns.map V.int) ∧ ns.length ≤ 63 ∧ (∀ H', Q (.bl true) H')
end DT
namespace DT
open PySem PySem.Spec PyProof.Rows L2 LamX
def sp_lost : Sp := fun vs H Q _ => ∃ (pr : Addr) (rs : List Int) (h : Nat), vs = [.ref pr, .int h] ∧ H pr = some (.lst (rs.map V.int)) ∧ 70 ≤ rs.length ∧ (∀ r ∈ rs, 0 ≤ r ∧ r < 1000000) ∧ h ≤ 60 ∧
  ∀ H' q ls, Same H H' → H q = none → H' q = some (.lst (ntV ls)) → ls.length ≤ 60 → (∀ t ∈ ls, t < h) → Q (.ref q) H'
end DT
namespace DT
open PySem PySem.Spec PyProof.Rows L2 LamX
/-- [list(row) for row in rows] -/
theorem copy_rows {K : PySem.W.Frag} {σ : L2.St} {H : Hp} {Q : VK} {p : Addr} {rss : List (List Q2)} {i m : Nat} (hσ : σ[i]? = some (some (.ref p))) (h1 : ∀ x : V, wipe ((wipe σ [m]).set m (some x)) [m] = wipe σ [m]) (h2 : ∀ x : V, ((wipe σ [m]).set m (some x))[m]? = some (some x)) (lR : LR K H p rss) (hl : rss.length ≤ 61)
    (q : ∀ H' D, Same H H' → H D = none → LR K H' D rss → Q (.ref D) H') : tLc (iList K (tVar i)) (gName m) tYes (tCB (rLo K) (tCons (tVar m) tNil)) [m] σ H Q := by
  obtain ⟨us, eR, hR⟩ := id lR
  refine ⟨_, hσ, p, rfl, ⟨_, SqL.of eR⟩, fun Dh hDh => ?_⟩
  refine lc_list (xs := us) (fun j H' => ∃ vs, H' Dh = some (.lst vs) ∧ Al (RowV K H') vs (rss.take j) ∧ (∀ u ∈ vs, u ≠ .ref Dh) ∧ Same H H') ⟨[], upd_same, .nil, (fun _ z => nomatch z), same_upd hDh⟩ (fun j H' _ hW => ?_) (fun j x H' hx hW => ?_) (fun H3 hW => ?_)
  · obtain ⟨_, _, _, _, sm⟩ := hW
    exact SqL.of (sm _ _ eR)
  · obtain ⟨vs, eV, hV, nd, sm⟩ := hW
    obtain ⟨r, er, b, rfl, lb⟩ := hR.of hx
    have hj : j < rss.length := (List.getElem?_eq_some_iff.1 er).1
    obtain ⟨zs, ez, hz⟩ := lb.same sm
    refine ⟨h1 _, ?_⟩
    dsimp only [tYes]
    rw [if_pos rfl]
    refine ⟨_, h2 _, b, zs, rfl, .inl (SqL.of ez), fun l hl => ?_⟩
    have sl := same_upd (o := .lst zs) hl
    have eV2 := sl _ _ eV
    have nl : l ≠ Dh := fun z => by rw [z, eV] at hl; cases hl
    have vl := hV.1
    rw [List.length_take] at vl
    obtain ⟨g1, g2⟩ := rows_grow (v := .ref l) (r := r) eV2 (hV.imp fun _ _ _ => RowV.same sl) nd ⟨l, rfl, zs, upd_same, hz.same sl⟩ (fun z => nl (by injection z))
    refine ⟨vs, eV2, small1000 (by omega), _, upd_same, ?_, g2, same_at hDh (sm.trans sl)⟩
    rw [List.take_add_one, er]
    exact g1
  obtain ⟨vs, eV, hV, nd, s3⟩ := hW
  rw [hR.1, List.take_of_length_le (Nat.le_refl _)] at hV
  exact q _ _ s3 hDh ⟨vs, eV, hV⟩
/-- fewer hours lost: more are open between -/
theorem ahead_more {f g : Nat → Bool} (h : ∀ t, g t = true → f t = true) {i j : Nat} (e : i ≤ j) : aheadN f j - aheadN f i ≤ aheadN g j - aheadN g i := by
  induction j with
  | zero => rw [Nat.le_zero.1 e]; omega
  | succ j ih =>
    rcases Nat.lt_or_ge j i with c | c
    · rw [show i = j + 1 by omega]; omega
    · have m1 := ahead_le f c
      have m2 := ahead_le g c
      have k := ih c
      show (aheadN f j + if f j then 0 else 1) - _ ≤ (aheadN g j + if g j then 0 else 1) - _
      cases eg : g j with
      | true => rw [h j eg]; simp; omega
      | false =>
        cases f j
        · simp; omega
        · simp; omega
theorem crowd_less {rss : List (List Q2)} {n : Nat} {f g : Nat → Bool} {L1 L2 : List (Nat × Nat)} (h : Season rss n) (p1 : L1.Perm (closeL (winA rss n))) (s1 : L1.Pairwise (fun p q => p.1 ≤ q.1)) (p2 : L2.Perm (closeL (winA rss n))) (s2 : L2.Pairwise (fun p q => p.1 ≤ q.1)) (hm : ∀ t, g t = true → f t = true)
    (no : crowdP (aheadN f) L1 (List.range rss.length) = none) : crowdP (aheadN g) L2 (List.range rss.length) = none := by
  cases e : crowdP (aheadN g) L2 (List.range rss.length) with
  | none => rfl
  | some z =>
    exfalso
    obtain ⟨a, l⟩ := z
    obtain ⟨ha, hb⟩ := crowd_some _ e
    obtain ⟨c1, fr, hmem, hf⟩ := hit_some L2 0 s2 hb
    have hm2 := p2.mem_iff.1 hmem
    unfold closeL at hm2
    obtain ⟨w, hw, ew⟩ := List.mem_filterMap.1 hm2
    cases ed : dW w with
    | none => rw [ed] at ew; cases ew
    | some y =>
      rw [ed] at ew
      obtain ⟨rfl, rfl⟩ : y = l ∧ rW w = fr := by
        have := Option.some.inj ew
        exact ⟨congrArg Prod.fst this, congrArg Prod.snd this⟩
      have rd := win_rd h w hw y ed
      have k := hit_none (fun i j e => ahead_le f e) y L1 0 s1 (crowd_none _ no a ha)
      rw [p1.countP_eq, ← p2.countP_eq] at k
      have m1 := ahead_le f (show a ≤ y + 1 by omega)
      have m2 := ahead_le g (show a ≤ y + 1 by omega)
      have m3 := ahead_more hm (show a ≤ y + 1 by omega)
      rcases k with k | k
      · rw [k] at c1; omega
      · omega
end DT

namespace DT
open PySem PySem.Spec PyProof.Rows L2 TL
-- END @planr.lean
abbrev N__law_plan_keeps : List Str := ["_law_rows", "_law_n", "_law_lost_here", "_law_plan", "_law_gains_here", "_law_had", "_law_t", "_law_high", "_law_low_here", "_law_place", "_law_gain"]
theorem sc__law_plan_keeps : FnScope N__law_plan_keeps ["_law_rows", "_law_n", "_law_lost_here", "_law_plan"] (defScope s__law_plan_keeps) := ⟨rfl, rfl, rfl, by decide +kernel, rfl, by decide +kernel, by decide +kernel⟩
section
variable {P : Program} {w : World} {K : PySem.W.Frag} {mg : Str → Option Value} {base : Heap}
theorem ok__law_plan_keeps {k : Nat} (T : Env K mg) : FnOk P w K mg base CX0 (k + 5) T.D__law_plan_keeps.f T.D__law_plan_keeps.fd ["_law_rows", "_law_n", "_law_lost_here", "_law_plan"] (sp_keepsP K) := by
  have G__law_gains : FnOk P w K mg base CX0 4 T.D__law_gains.f T.D__law_gains.fd ["_law_rows", "_law_n"] (sp_lgains K) := ok__law_gains T
  have G__law_whole : FnOk P w K mg base CX0 4 T.D__law_whole.f T.D__law_whole.fd ["_law_found"] sp__law_whole := ok__law_whole T.D__law_whole T.m_isinstance T.m_int T.m_bool
  refine T.D__law_plan_keeps.F.ok sc__law_plan_keeps (fun vs H Q E h => ?_) (fun cdv A outer s H vs Q E hr h => ?_)
  · obtain ⟨p, pl, pq, n, rss, ls, os, rfl, _⟩ := h
    rfl
  obtain ⟨p, pl, pq, n, rss, ls, os, rfl, lr, el, eq, hl, hn, hok, keep, q⟩ := h
  obtain ⟨us, ep, hA⟩ := id lr
  have hul : us.length = rss.length := hA.1
  have ol := keep.1
  refine ⟨_, (pss_cons (ps_if (PW.pt (pw_or (pt_not (pt_val (pe_callB call_isi (by rfl) T.m_isinstance PyProof.Rows.boot_isinstance (pa_cons (pv 3) (pa_cons (pe_bltn (v := .ty "list") (by rfl) T.m_list PyProof.Rows.boot_list rfl) pa_nil))))) (pw_or1 (pt_cmpR op_ne (pe_callB call_len_seq (by rfl) T.m_len PySem.boot_len (pa_cons (pv 3) pa_nil)) (pe_callB call_len_seq (by rfl) T.m_len PySem.boot_len (pa_cons (pv 0) pa_nil)) (nomark _))))) (pss_one (ps_ret pe_bl)) pss_nil)
      (pss_cons (ps_set (i := 4) sc__law_plan_keeps.nd rfl (.inl rfl) (pe_call G__law_gains (hr.mono (by omega)) (by rfl) T.D__law_gains.g T.D__law_gains.F.kp T.D__law_gains.b .nil pass0 (pa_cons (pv 0) (pa_cons (pv 1) pa_nil))))
      (pss_cons (ps_set (i := 5) sc__law_plan_keeps.nd rfl (.inr rfl) (pe_lc (own := [("_law_place", 9)]) (g := gName 9) (tt := tYes) rfl sc__law_plan_keeps.nd (pi_range1 (by rfl) T.m_range (pa_cons (pv 1) pa_nil)) (blkOk_by (N := N__law_plan_keeps) (sc := defScope s__law_plan_keeps) (by decide +kernel)) (fun _ _ _ _ _ => pg_name (i := 9) sc__law_plan_keeps.nd rfl (Or.inl rfl)) (fun _ _ _ _ _ => pts_nil) (fun _ _ _ _ _ => pe_int)))
      (pss_cons (ps_for PassesOwn.never rfl (pi_range1 (by rfl) T.m_range (pa_cons (pe_callB call_len_seq (by rfl) T.m_len PySem.boot_len (pa_cons (pv 0) pa_nil)) pa_nil)) (pg_name (i := 6) sc__law_plan_keeps.nd rfl (.inl rfl)) (pss_cons (ps_set (i := 7) sc__law_plan_keeps.nd rfl (.inr rfl) (pe_lc (own := [("_law_gain", 10)]) (g := gName 10) (tt := tYes) rfl sc__law_plan_keeps.nd (pi_list (pe_ix ix_list (pv 4) (pv 6) (fun _ _ => rfl))) (blkOk_by (N := N__law_plan_keeps) (sc := defScope s__law_plan_keeps) (by decide +kernel)) (fun _ _ _ _ _ => pg_name (i := 10) sc__law_plan_keeps.nd rfl (Or.inl rfl)) (fun _ _ _ _ _ => pts_nil) (fun _ _ _ _ _ => (pe_un un_neg (pe_op op_fdivW (pe_un un_neg (pe_ix (r := rIxT K) ix_tup (pv 10) pe_int (fun _ _ => rfl))) (pe_ix (r := rIxT K) ix_tup (pv 10) pe_int (fun _ _ => rfl)))))))
      (pss_cons (ps_set (i := 8) sc__law_plan_keeps.nd rfl (.inr rfl) (pe_lc (own := [("_law_gain", 10)]) (g := gName 10) (tt := tYes) rfl sc__law_plan_keeps.nd (pi_list (pe_ix ix_list (pv 4) (pv 6) (fun _ _ => rfl))) (blkOk_by (N := N__law_plan_keeps) (sc := defScope s__law_plan_keeps) (by decide +kernel)) (fun _ _ _ _ _ => pg_name (i := 10) sc__law_plan_keeps.nd rfl (Or.inl rfl)) (fun _ _ _ _ _ => pts_nil) (fun _ _ _ _ _ => (pe_op op_fdivW (pe_ix (r := rIxT K) ix_tup (pv 10) pe_int (fun _ _ => rfl)) (pe_ix (r := rIxT K) ix_tup (pv 10) pe_int (fun _ _ => rfl))))))
      (C8.pss_cut (ps_if (pt_cmpR op_isN (pe_ix ix_list (pv 3) (pv 6) (fun _ _ => rfl)) pe_non (nomark _)) (pss_one (ps_if (PW.pt (pw_and (pt_cmpR op_notIn_seq (pv 6) (pv 2) (by rfl)) (pw_and1 (pt_val (pe_callB (cr_any rfl) (by rfl) T.m_any (by decide +kernel) (pa_cons (pe_lc (own := [("_law_place", 9)]) (g := gName 9) (tt := tYes) rfl sc__law_plan_keeps.nd (pi_range1 (by rfl) T.m_range (pa_cons (pv 1) pa_nil)) (blkOk_by (N := N__law_plan_keeps) (sc := defScope s__law_plan_keeps) (by decide +kernel)) (fun _ _ _ _ _ => pg_name (i := 9) sc__law_plan_keeps.nd rfl (Or.inl rfl)) (fun _ _ _ _ _ => pts_nil) (fun _ _ _ _ _ => (pe_cmpR op_lt (pe_ix (r := rIxL K) ix_list (pv 5) (pv 9) (fun _ _ => rfl)) (pe_ix (r := rIxL K) ix_list (pv 7) (pv 9) (fun _ _ => rfl)) (nomark _)))) pa_nil)))))) (pss_one (ps_ret pe_bl)) pss_nil)) (pss_one (ps_if (PW.pt (pw_or (pt_not (pt_val (pe_call G__law_whole (hr.mono (by omega)) (by rfl) T.D__law_whole.g T.D__law_whole.F.kp T.D__law_whole.b .nil pass0 (pa_cons (pe_ix ix_list (pv 3) (pv 6) (fun _ _ => rfl)) pa_nil)))) (pw_or (pt_not (pt_chain op_le op_lt pe_int (pe_ix ix_list (pv 3) (pv 6) (fun _ _ => rfl)) (pv 1))) (pw_or1 (pt_cmpR op_in_seq (pv 6) (pv 2) (by rfl)))))) (pss_one (ps_ret pe_bl)) (pss_one (ps_augS (pv 5) (pe_ix ix_list (pv 3) (pv 6) (fun _ _ => rfl)) get_list pe_int ip_add set_list)))))
      (pss_one (ps_if (pt_val (pe_callB (cr_any rfl) (by rfl) T.m_any (by decide +kernel) (pa_cons (pe_lc (own := [("_law_place", 9)]) (g := gName 9) (tt := tYes) rfl sc__law_plan_keeps.nd (pi_range1 (by rfl) T.m_range (pa_cons (pv 1) pa_nil)) (blkOk_by (N := N__law_plan_keeps) (sc := defScope s__law_plan_keeps) (by decide +kernel)) (fun _ _ _ _ _ => pg_name (i := 9) sc__law_plan_keeps.nd rfl (Or.inl rfl)) (fun _ _ _ _ _ => pts_nil) (fun _ _ _ _ _ => (pe_or (pe_cmpR op_lt (pe_ix (r := rIxL K) ix_list (pv 5) (pv 9) (fun _ _ => rfl)) (pe_ix (r := rIxL K) ix_list (pv 8) (pv 9) (fun _ _ => rfl)) (nomark _)) (pe_one (pe_cmpR op_gt (pe_ix (r := rIxL K) ix_list (pv 5) (pv 9) (fun _ _ => rfl)) (pe_ix (r := rIxL K) ix_list (pv 7) (pv 9) (fun _ _ => rfl)) (nomark _)))))) pa_nil))) (pss_one (ps_ret pe_bl)) pss_nil))))))
      (pss_one (ps_ret pe_bl)))))), ?_⟩
  have e1 : (!decide (V.int ((os.map plV).length : Int) = V.int (us.length : Int))) = false := by
    rw [List.length_map, ol, hul, decide_eq_true rfl]
    rfl
  refine ⟨_, rfl, _, _, _, _, true, rfl, .ty "list", .base (.lst eq), kit_ty (by decide +kernel), true, rfl, ?_⟩
  refine iteF ?_
  refine ⟨_, rfl, pq, _, rfl, .inl (SqL.of eq), _, rfl, p, us, rfl, .inl (SqL.of ep), rfl, _, rfl, ?_⟩
  rw [e1]
  refine iteF ?_
  refine ⟨_, rfl, _, rfl, p, n, rss, rfl, lr, hl, hn, hok, fun H1 Dg s1 nDg lg => ?_⟩
  obtain ⟨gs, eg, hG⟩ := id lg
  have hgl := hG.1
  rw [gnR_len] at hgl
  refine ⟨_, rfl, (n : Int), rfl, by omega, by omega, fun Dh hDh => ?_⟩
  refine lc_range (lo := 0) (n := n) (fun i H' => H' Dh = some (.lst (List.replicate i (V.int 0))) ∧ Same H1 H') ⟨upd_same, same_upd hDh⟩ (fun i H' hi hW => ?_) (fun H2 hW => ?_)
  · obtain ⟨eD, sm⟩ := hW
    refine ⟨rfl, ?_⟩
    dsimp only [tYes]
    rw [if_pos rfl]
    refine ⟨_, eD, small1000 (by rw [List.length_replicate]; omega), ?_, same_at hDh sm⟩
    rw [upd_same, rep1]
  obtain ⟨eD, s2⟩ := hW
  have nDh : H Dh = none := s1.free hDh
  have eD : H2 Dh = some (.lst (hadL n (os.take 0))) := by
    rw [eD]
    congr 2
    unfold hadL
    rw [List.take_zero]
    apply List.ext_getElem?
    intro i
    rw [List.getElem?_replicate, List.getElem?_map]
    by_cases h : i < n
    · rw [if_pos h, List.getElem?_range h]; rfl
    · rw [if_neg h, List.getElem?_eq_none (by simp; omega)]; rfl
  refine ⟨_, rfl, p, us, rfl, .inl (SqL.of (s2 _ _ (s1 _ _ ep))), (us.length : Int), rfl, by omega, by omega, ?_⟩
  rw [show ((us.length : Nat) : Int).toNat = rss.length by rw [Int.toNat_natCast, hul]]
  refine for_range (lo := 0) (n := rss.length) (fun t σ H' => ∃ (y6 y7 y8 y9 y10 : Option V), σ = [some (.ref p), some (.int (n : Int)), some (.ref pl), some (.ref pq), some (.ref Dg), some (.ref Dh), y6, y7, y8, y9, y10] ∧ H' Dh = some (.lst (hadL n (os.take t))) ∧ Same H1 H') ⟨_, _, _, _, _, rfl, eD, s2⟩ (fun t σ H' ht hW => ?_) (fun σ H' hW => ?_)
  · obtain ⟨y6, y7, y8, y9, y10, rfl, eh, sm⟩ := hW
    have gt : (gnR rss n)[t]? = some (nowM rss n (t + 1)) := by
      unfold gnR
      rw [List.getElem?_map, List.getElem?_range ht]
      rfl
    obtain ⟨gv, egv, gq, rfl, gvs, egq, hgp⟩ := hG.at gt
    have nok := nowM_ok hok (show t + 1 ≤ rss.length by omega)
    have gpl := hgp.len
    rw [nowM_len] at gpl
    have nl := nowM_len rss n (t + 1)
    have ai : atI gs (0 + (t : Int)) = some (V.ref gq) := by rw [Int.zero_add]; exact atI_nat egv
    have cs : ∀ (f : Q2 → Int) (j : Nat) (a : Q2), (nowM rss n (t + 1))[j]? = some a → ceL f ((nowM rss n (t + 1)).take j) ++ [V.int (f a)] = ceL f ((nowM rss n (t + 1)).take (j + 1)) := fun f j a e => by
      unfold ceL
      rw [List.take_add_one, e, List.map_append]
      rfl
    have cl : ∀ (f : Q2 → Int) (j : Nat), (ceL f ((nowM rss n (t + 1)).take j)).length ≤ 24 := fun f j => by
      unfold ceL
      rw [List.length_map, List.length_take, nl]
      omega
    refine ⟨_, rfl, _, rfl, Dg, gs, _, _, rfl, rfl, SqL.of (sm _ _ eg), ai, gq, rfl, ⟨_, SqL.of (sm _ _ egq)⟩, fun D7 hD7 => ?_⟩
    refine lc_list (xs := gvs) (fun j H3 => H3 D7 = some (.lst (ceL ceilP ((nowM rss n (t + 1)).take j))) ∧ Same H' H3) ⟨upd_same, same_upd hD7⟩ (fun j H3 _ hW => ?_) (fun j x H3 hx hW => ?_) (fun H3 hW => ?_)
    · exact SqL.of (hW.2 _ _ (sm _ _ egq))
    · obtain ⟨eD7, sm3⟩ := hW
      obtain ⟨a, ha, b, rfl, qT⟩ := pps_get hgp hx
      have qT3 := same_seqT (sm.trans sm3) qT
      have oa := (nok a (List.mem_of_getElem? ha)).1
      refine ⟨rfl, ?_⟩
      dsimp only [tYes]
      rw [if_pos rfl]
      refine ⟨_, rfl, b, _, 0, _, rfl, rfl, qT3, rfl, _, rfl, _, rfl, b, _, 1, _, rfl, rfl, qT3, rfl, _, _, rfl, rfl, bd_divok oa.pos oa.bot (by omega), _, rfl, ?_⟩
      refine ⟨_, eD7, small1000 (Nat.le_trans (cl _ _) (by decide)), ?_, same_at hD7 sm3⟩
      rw [upd_same]
      exact congrArg (fun z => some (HO.lst z)) (cs ceilP j a ha)
    obtain ⟨eD7, s3⟩ := hW
    rw [gpl, List.take_of_length_le (by rw [nl]; exact Nat.le_refl _)] at eD7
    have sm3 := sm.trans s3
    refine ⟨_, rfl, _, rfl, Dg, gs, _, _, rfl, rfl, SqL.of (sm3 _ _ eg), ai, gq, rfl, ⟨_, SqL.of (sm3 _ _ egq)⟩, fun D8 hD8 => ?_⟩
    refine lc_list (xs := gvs) (fun j H4 => H4 D8 = some (.lst (ceL floorP ((nowM rss n (t + 1)).take j))) ∧ Same H3 H4) ⟨upd_same, same_upd hD8⟩ (fun j H4 _ hW => ?_) (fun j x H4 hx hW => ?_) (fun H4 hW => ?_)
    · exact SqL.of (hW.2 _ _ (sm3 _ _ egq))
    · obtain ⟨eD8, sm4⟩ := hW
      obtain ⟨a, ha, b, rfl, qT⟩ := pps_get hgp hx
      have qT4 := same_seqT (sm3.trans sm4) qT
      have oa := (nok a (List.mem_of_getElem? ha)).1
      refine ⟨rfl, ?_⟩
      dsimp only [tYes]
      rw [if_pos rfl]
      refine ⟨_, rfl, b, _, 0, _, rfl, rfl, qT4, rfl, _, rfl, b, _, 1, _, rfl, rfl, qT4, rfl, _, _, rfl, rfl, bd_divok oa.pos oa.bot (by omega), ?_⟩
      refine ⟨_, eD8, small1000 (Nat.le_trans (cl _ _) (by decide)), ?_, same_at hD8 sm4⟩
      rw [upd_same]
      exact congrArg (fun z => some (HO.lst z)) (cs floorP j a ha)
    obtain ⟨eD8, s4⟩ := hW
    rw [gpl, List.take_of_length_le (by rw [nl]; exact Nat.le_refl _)] at eD8
    have s14 := sm3.trans s4
    have eD7 := s4 _ _ eD7
    have eh4 := s4 _ _ (s3 _ _ eh)
    have n7 : D7 ≠ Dh := fun z => by rw [z, eh] at hD7; cases hD7
    have n8 : D8 ≠ Dh := fun z => by rw [z, s3 _ _ eh] at hD8; cases hD8
    clear eD eh
    obtain ⟨o, eo, k1, k2, k3⟩ := keep.2 t ht
    have ep4 : H4 pq = some (.lst (os.map plV)) := s14 _ _ (s1 _ _ eq)
    have el4 : H4 pl = some (.lst (ntV ls)) := s14 _ _ (s1 _ _ el)
    have ap : atI (os.map plV) (0 + (t : Int)) = some (plV o) := by
      rw [Int.zero_add]
      refine atI_nat ?_
      rw [List.getElem?_map, eo]
      rfl
    have tk : os.take (t + 1) = os.take t ++ [o] := by rw [List.take_add_one, eo]; rfl
    refine ⟨fun σ H5 => ∃ (y9 y10 : Option V), σ = [some (.ref p), some (.int (n : Int)), some (.ref pl), some (.ref pq), some (.ref Dg), some (.ref Dh), some (.int (0 + (t : Int))), some (.ref D7), some (.ref D8), y9, y10] ∧ H5 Dh = some (.lst (hadL n (os.take (t + 1)))) ∧ H5 D7 = some (.lst (ceL ceilP (nowM rss n (t + 1)))) ∧ H5 D8 = some (.lst (ceL floorP (nowM rss n (t + 1)))) ∧ Same H1 H5, ?_, fun σ H5 hm => ?_⟩
    · cases o with
      | none =>
        refine ⟨_, rfl, _, rfl, pq, _, _, _, rfl, rfl, SqL.of ep4, ap, rfl, _, rfl, ?_⟩
        refine iteT ?_
        have nx : ∀ H5, Same H4 H5 → ∃ (y9' y10' : Option V), [some (V.ref p), some (.int (n : Int)), some (.ref pl), some (.ref pq), some (.ref Dg), some (.ref Dh), some (.int (0 + (t : Int))), some (.ref D7), some (.ref D8), y9, y10] = [some (V.ref p), some (.int (n : Int)), some (.ref pl), some (.ref pq), some (.ref Dg), some (.ref Dh), some (.int (0 + (t : Int))), some (.ref D7), some (.ref D8), y9', y10'] ∧ H5 Dh = some (.lst (hadL n (os.take (t + 1)))) ∧ H5 D7 = some (.lst (ceL ceilP (nowM rss n (t + 1)))) ∧ H5 D8 = some (.lst (ceL floorP (nowM rss n (t + 1)))) ∧ Same H1 H5 := fun H5 s5 =>
          ⟨_, _, rfl, by rw [tk, hadL_none]; exact s5 _ _ eh4, s5 _ _ eD7, s5 _ _ eD8, s14.trans s5⟩
        refine ⟨_, rfl, _, rfl, pl, _, rfl, .inl (SqL.of el4), rfl, ntV_flat ls, _, rfl, ?_⟩
        rw [if_pos rfl, show (0 : Int) + (t : Int) = (t : Int) by omega, ntV_in]
        rw [show (t : Int) = (0 : Int) + (t : Int) by omega]
        rcases k1 rfl with hz | hz
        · rw [hz]
          exact iteF (iteF (nx _ (Same.refl _)))
        · cases eL : lostF ls t with
          | true => exact iteF (iteF (nx _ (Same.refl _)))
          | false =>
            refine iteT ?_
            refine ⟨_, rfl, (n : Int), rfl, by omega, by omega, fun Da hDa => ?_⟩
            refine lc_range (lo := 0) (n := n) (fun j H5 => H5 Da = some (.lst ((List.replicate j false).map V.bl)) ∧ Same H4 H5) ⟨upd_same, same_upd hDa⟩ (fun j H5 hj hW => ?_) (fun H5 hW => ?_)
            · obtain ⟨eDa, sm5⟩ := hW
              have a1 : atI (hadL n (os.take t)) (0 + (j : Int)) = some (.int (hadO j (os.take t) : Nat)) := by rw [Int.zero_add]; exact atI_nat (hadL_at hj)
              have a2 : atI (ceL ceilP (nowM rss n (t + 1))) (0 + (j : Int)) = some (.int (ceilP (sumP ((colP rss j).take (t + 1))))) := by rw [Int.zero_add]; exact atI_nat (nowM_get hj)
              refine ⟨rfl, ?_⟩
              dsimp only [tYes]
              rw [if_pos rfl]
              refine ⟨_, rfl, _, rfl, Dh, _, _, _, rfl, rfl, SqL.of (sm5 _ _ eh4), a1, _, rfl, _, rfl, D7, _, _, _, rfl, rfl, SqL.of (sm5 _ _ eD7), a2, _, _, rfl, rfl, ?_⟩
              refine ⟨_, eDa, small1000 (by rw [List.length_map, List.length_replicate]; omega), ?_, same_at hDa sm5⟩
              have dz : decide (((hadO j (os.take t) : Nat) : Int) < ceilP (sumP ((colP rss j).take (t + 1)))) = false := decide_eq_false (by have := hz j hj; omega)
              dsimp only
              rw [upd_same, dz, rep1, List.map_append]
              rfl
            obtain ⟨eDa, s5⟩ := hW
            refine ⟨Da, List.replicate n false, rfl, SqL.of eDa, _, rfl, ?_⟩
            rw [show (List.replicate n false).any id = false by rw [List.any_eq_false]; intro x hx; rw [List.eq_of_mem_replicate hx]; decide]
            exact iteF (nx _ s5)
      | some w =>
        obtain ⟨wn, nl'⟩ := k2 w rfl
        refine ⟨_, rfl, _, rfl, pq, _, _, _, rfl, rfl, SqL.of ep4, ap, rfl, _, rfl, ?_⟩
        refine iteF ?_
        refine ⟨_, rfl, _, rfl, pq, _, _, _, rfl, rfl, SqL.of ep4, ap, _, rfl, _, rfl, ?_⟩
        refine iteF ?_
        refine ⟨_, rfl, _, rfl, pq, _, _, _, rfl, rfl, SqL.of ep4, ap, _, _, rfl, rfl, _, rfl, ?_⟩
        rw [decide_eq_true (show (0 : Int) ≤ (w.1 : Int) by omega)]
        refine iteT ?_
        refine ⟨_, rfl, _, _, rfl, rfl, _, rfl, ?_⟩
        rw [decide_eq_true (show (w.1 : Int) < (n : Int) by omega)]
        refine iteF ?_
        refine ⟨_, rfl, _, rfl, pl, _, rfl, .inl (SqL.of el4), rfl, ntV_flat ls, _, rfl, ?_⟩
        rw [if_neg Bool.false_ne_true, show (0 : Int) + (t : Int) = (t : Int) by omega, ntV_in, nl', show (t : Int) = (0 : Int) + (t : Int) by omega]
        refine iteF ?_
        have hl := hadL_len n (os.take t)
        refine ⟨_, rfl, _, rfl, _, rfl, pq, _, _, _, rfl, rfl, SqL.of ep4, ap, Dh, _, w.1, _, rfl, rfl, SqL.of eh4, hadL_at wn, _, _, rfl, rfl, Dh, _, _, w.1, rfl, rfl, eh4, ?_, ?_⟩
        · rw [hl]; exact ixN_at wn
        · refine ⟨_, _, rfl, ?_, by rw [upd_ne n7]; exact eD7, by rw [upd_ne n8]; exact eD8, same_at hDh s14⟩
          rw [upd_same, tk, ← hadL_set wn]
    · obtain ⟨y9, y10, rfl, eh5, e75, e85, s15⟩ := hm
      refine ⟨_, rfl, (n : Int), rfl, by omega, by omega, fun Da hDa => ?_⟩
      refine lc_range (lo := 0) (n := n) (fun j H6 => H6 Da = some (.lst ((List.replicate j false).map V.bl)) ∧ Same H5 H6) ⟨upd_same, same_upd hDa⟩ (fun j H6 hj hW => ?_) (fun H6 hW => ?_)
      · obtain ⟨eDa, sm6⟩ := hW
        obtain ⟨b1, b2⟩ := k3 j hj
        have a1 : atI (hadL n (os.take (t + 1))) (0 + (j : Int)) = some (.int (hadO j (os.take (t + 1)) : Nat)) := by rw [Int.zero_add]; exact atI_nat (hadL_at hj)
        have a2 : atI (ceL ceilP (nowM rss n (t + 1))) (0 + (j : Int)) = some (.int (ceilP (sumP ((colP rss j).take (t + 1))))) := by rw [Int.zero_add]; exact atI_nat (nowM_get hj)
        have a3 : atI (ceL floorP (nowM rss n (t + 1))) (0 + (j : Int)) = some (.int (floorP (sumP ((colP rss j).take (t + 1))))) := by rw [Int.zero_add]; exact atI_nat (nowM_get hj)
        have d1 : decide (((hadO j (os.take (t + 1)) : Nat) : Int) < floorP (sumP ((colP rss j).take (t + 1)))) = false := decide_eq_false (by omega)
        have d2 : decide (ceilP (sumP ((colP rss j).take (t + 1))) < ((hadO j (os.take (t + 1)) : Nat) : Int)) = false := decide_eq_false (by omega)
        refine ⟨rfl, ?_⟩
        dsimp only [tYes]
        rw [if_pos rfl]
        refine ⟨_, rfl, _, rfl, Dh, _, _, _, rfl, rfl, SqL.of (sm6 _ _ eh5), a1, _, rfl, _, rfl, D8, _, _, _, rfl, rfl, SqL.of (sm6 _ _ e85), a3, _, _, rfl, rfl, _, rfl, ?_⟩
        rw [d1]
        refine iteF ?_
        refine ⟨_, rfl, _, rfl, Dh, _, _, _, rfl, rfl, SqL.of (sm6 _ _ eh5), a1, _, rfl, _, rfl, D7, _, _, _, rfl, rfl, SqL.of (sm6 _ _ e75), a2, _, _, rfl, rfl, ?_⟩
        refine ⟨_, eDa, small1000 (by rw [List.length_map, List.length_replicate]; omega), ?_, same_at hDa sm6⟩
        dsimp only
        rw [upd_same, d2, rep1, List.map_append]
        rfl
      obtain ⟨eDa, s6⟩ := hW
      refine ⟨Da, List.replicate n false, rfl, SqL.of eDa, _, rfl, ?_⟩
      rw [show (List.replicate n false).any id = false by rw [List.any_eq_false]; intro x hx; rw [List.eq_of_mem_replicate hx]; decide]
      exact iteF ⟨_, _, _, _, _, rfl, s6 _ _ eh5, s15.trans s6⟩
  · obtain ⟨y6, y7, y8, y9, y10, rfl, eh, sm⟩ := hW
    exact q _ (s1.trans sm)

end
-- END _law_plan_keeps
abbrev N__law_lost : List Str := ["_law_row", "_law_hours", "_law_found", "_law_at", "_law_t"]
theorem sc__law_lost : FnScope N__law_lost ["_law_row", "_law_hours"] (defScope s__law_lost) := ⟨rfl, rfl, rfl, by decide +kernel, rfl, by decide +kernel, by decide +kernel⟩
section
variable {P : Program} {w : World} {K : PySem.W.Frag} {mg : Str → Option Value} {base : Heap}
theorem ok__law_lost {k : Nat} (T : Env K mg) : FnOk P w K mg base CX0 (k + 1) T.D__law_lost.f T.D__law_lost.fd ["_law_row", "_law_hours"] sp_lost := by
  refine T.D__law_lost.F.ok sc__law_lost (fun vs H Q E h => ?_) (fun cdv A outer s H vs Q E hr h => ?_)
  · obtain ⟨pr, rs, h, rfl, _⟩ := h
    rfl
  obtain ⟨pr, rs, h, rfl, epr, hrl, hb, hh, q⟩ := h
  have hS := fun {H' : Hp} (sm : Same H H') => (SqL.of (sm _ _ epr) : SqL K H' pr (rs.map V.int))
  have mb : ∀ (x m : Int), 0 < m → 0 ≤ x % m ∧ x % m < m := fun x m hm => ⟨Int.emod_nonneg _ (by omega), Int.emod_lt_of_pos _ hm⟩
  have dv : ∀ (x m : Int), 0 < m → m < 100 → CDivW x m := fun x m h1 h2 => bd_divok (n := 20) h1 (Bd.of (m := 1000) (by omega) (by omega) (by decide)) (by decide)
  -- one more hour found
  have put : ∀ {D : Addr} {ls : List Nat} {j : Nat} {H1 H2 : Hp}, H1 D = none → H2 D = some (.lst (ntV ls)) → (ls.length ≤ j ∧ ∀ t ∈ ls, t < h) → Same H1 H2 → j < 60 → ∀ t : Nat, t < h → ∃ acc, H2 D = some (.lst acc) ∧ acc.length < sizeLine ∧ ∃ ls', upd H2 D (.lst (acc ++ [V.int (0 + (t : Int))])) D = some (.lst (ntV ls')) ∧ (ls'.length ≤ j + 1 ∧ ∀ t ∈ ls', t < h) ∧ Same H1 (upd H2 D (.lst (acc ++ [V.int (0 + (t : Int))]))) := fun n1 e ⟨l, lb⟩ sm hj t ht =>
    ⟨_, e, small1000 (by unfold ntV; rw [List.length_map]; omega), _, by rw [upd_same, Int.zero_add, ← nt_snoc], ⟨by rw [List.length_append]; simp; omega, fun t' ht' => (List.mem_append.1 ht').elim (lb t') fun z => by rw [List.mem_singleton.1 z]; exact ht⟩, same_at n1 sm⟩
  refine ⟨_, (pss_cons (ps_setLc (i := 2) (own := [("_law_t", 4)]) (g := gName 4) (tt := _) rfl sc__law_lost.nd rfl rfl (sw_true rfl rfl rfl (by decide +kernel)) (pi_range1 (by rfl) T.m_range (pa_cons (pv 1) pa_nil)) (blkOk_by (N := N__law_lost) (sc := defScope s__law_lost) (by decide +kernel)) (fun _ _ _ _ _ => pg_name (i := 4) sc__law_lost.nd rfl (Or.inl rfl)) (fun _ _ _ _ _ => (pts_one (pt_cmpR op_eq (pe_op op_mod (pe_ix (r := rIxL K) ix_list (pv 0) (pe_op op_add pe_int (pv 4)) (fun _ _ => rfl)) (pe_op op_add pe_int (pe_op op_mod (pe_ix (r := rIxL K) ix_list (pv 0) pe_int (fun _ _ => rfl)) pe_int))) pe_int (nomark _)))) (fun _ _ _ _ _ => (pv 4)))
      (C8.pss_cut (ps_if (pt_cmpR op_eq (pe_op op_mod (pe_op op_fdivW (pe_ix ix_list (pv 0) pe_int (fun _ _ => rfl)) pe_int) pe_int) pe_int (nomark _)) (pss_one (ps_setLc (i := 2) (own := [("_law_t", 4)]) (g := gName 4) (tt := _) rfl sc__law_lost.nd rfl rfl (sw_true rfl rfl rfl (by decide +kernel)) (pi_range1 (by rfl) T.m_range (pa_cons (pv 1) pa_nil)) (blkOk_by (N := N__law_lost) (sc := defScope s__law_lost) (by decide +kernel)) (fun _ _ _ _ _ => pg_name (i := 4) sc__law_lost.nd rfl (Or.inl rfl)) (fun _ _ _ _ _ => (pts_one (pt_cmpR op_ge (pv 4) (pe_op op_sub (pe_op op_sub (pv 1) pe_int) (pe_op op_mod (pe_op op_fdivW (pe_ix (r := rIxL K) ix_list (pv 0) pe_int (fun _ _ => rfl)) pe_int) pe_int)) (nomark _)))) (fun _ _ _ _ _ => (pv 4)))) pss_nil)
      (C8.pss_cut (ps_if (pt_cmpR op_eq (pe_op op_mod (pe_op op_fdivW (pe_ix ix_list (pv 0) pe_int (fun _ _ => rfl)) pe_int) pe_int) pe_int (nomark _)) (pss_cons (ps_set (i := 3) sc__law_lost.nd rfl (.inr rfl) (pe_op op_mod (pe_ix ix_list (pv 0) pe_int (fun _ _ => rfl)) (pe_op op_add (pv 1) pe_int)))
      (pss_one (ps_setLc (i := 2) (own := [("_law_t", 4)]) (g := gName 4) (tt := _) rfl sc__law_lost.nd rfl rfl (sw_true rfl rfl rfl (by decide +kernel)) (pi_range1 (by rfl) T.m_range (pa_cons (pv 1) pa_nil)) (blkOk_by (N := N__law_lost) (sc := defScope s__law_lost) (by decide +kernel)) (fun _ _ _ _ _ => pg_name (i := 4) sc__law_lost.nd rfl (Or.inl rfl)) (fun _ _ _ _ _ => (pts_one (pt_chain op_le op_lt (pv 3) (pv 4) (pe_op op_add (pe_op op_add (pv 3) pe_int) (pe_op op_mod (pe_ix (r := rIxL K) ix_list (pv 0) pe_int (fun _ _ => rfl)) pe_int))))) (fun _ _ _ _ _ => (pv 4))))) pss_nil)
      (pss_one (ps_ret (pv 2)))))), ?_⟩
  refine ⟨_, rfl, (h : Int), rfl, by omega, by omega, fun D1 hD1 => ?_⟩
  refine lc_range (lo := 0) (n := h) (fun j H' => ∃ ls, H' D1 = some (.lst (ntV ls)) ∧ (ls.length ≤ j ∧ ∀ t ∈ ls, t < h) ∧ Same H H') ⟨[], upd_same, ⟨Nat.le_refl _, fun _ z => nomatch z⟩, same_upd hD1⟩ (fun j H' hj hW => ?_) (fun H1 hW => ?_)
  · obtain ⟨ls, eD, ll, sm⟩ := hW
    refine ⟨rfl, ?_⟩
    have m9 := mb (rs.getD 0 0) 9 (by decide)
    refine ⟨_, rfl, _, rfl, _, _, rfl, rfl, pr, _, _, _, rfl, rfl, hS sm, ls_z (1 + j) (by omega) (by omega), _, rfl, pr, _, _, _, rfl, rfl, hS sm, ls_z 0 rfl (by omega), _, _, rfl, rfl, (by show (0 : Int) < 9; decide), _, _, rfl, rfl, _, _, rfl, rfl, (by omega), rfl, _, rfl, ?_⟩
    dsimp only
    refine ite2 (fun e => ?_) (fun e => ?_)
    · exact ⟨_, rfl, put hD1 eD ll sm (by omega) j hj⟩
    · exact ⟨ls, eD, ⟨Nat.le_succ_of_le ll.1, ll.2⟩, sm⟩
  obtain ⟨ls1, eD1, ll1, s1⟩ := hW
  have nD1 : H D1 = none := hD1
  refine ⟨fun σ H' => ∃ (D : Addr) (ls : List Nat) (y3 : Option V), σ = [some (.ref pr), some (.int (h : Int)), some (.ref D), y3, none] ∧ H D = none ∧ H' D = some (.lst (ntV ls)) ∧ (ls.length ≤ h ∧ ∀ t ∈ ls, t < h) ∧ Same H H', ?_, fun σ2 H2 hm => ?_⟩
  · refine ⟨_, rfl, pr, _, _, _, rfl, rfl, hS s1, ls_z 0 rfl (by omega), _, _, rfl, rfl, dv _ _ (by decide) (by decide), _, _, rfl, rfl, (by show (0 : Int) < 4; decide), rfl, _, rfl, ite2 (fun e => ?_) (fun e => ?_)⟩
    · refine ⟨_, rfl, (h : Int), rfl, by omega, by omega, fun D2 hD2 => ?_⟩
      refine lc_range (lo := 0) (n := h) (fun j H' => ∃ ls, H' D2 = some (.lst (ntV ls)) ∧ (ls.length ≤ j ∧ ∀ t ∈ ls, t < h) ∧ Same H1 H') ⟨[], upd_same, ⟨Nat.le_refl _, fun _ z => nomatch z⟩, same_upd hD2⟩ (fun j H' hj hW => ?_) (fun H2 hW => ?_)
      · obtain ⟨ls, eD, ll, sm⟩ := hW
        refine ⟨rfl, ?_⟩
        refine ⟨_, rfl, _, rfl, _, _, rfl, rfl, _, rfl, pr, _, _, _, rfl, rfl, hS (s1.trans sm), ls_z 0 rfl (by omega), _, _, rfl, rfl, dv _ _ (by decide) (by decide), _, _, rfl, rfl, (by show (0 : Int) < 3; decide), _, _, rfl, rfl, _, _, rfl, rfl, _, rfl, ?_⟩
        dsimp only
        refine ite2 (fun e => ?_) (fun e => ?_)
        · exact ⟨_, rfl, put hD2 eD ll sm (by omega) j hj⟩
        · exact ⟨ls, eD, ⟨Nat.le_succ_of_le ll.1, ll.2⟩, sm⟩
      · obtain ⟨ls, eD, ll, sm⟩ := hW
        exact ⟨D2, ls, _, rfl, s1.free hD2, eD, ll, s1.trans sm⟩
    · exact ⟨D1, ls1, _, rfl, nD1, eD1, ll1, s1⟩
  obtain ⟨D2, ls2, y3, rfl, nD2, eD2, ll2, s2⟩ := hm
  refine ⟨fun σ H' => ∃ (D : Addr) (ls : List Nat) (y3 : Option V), σ = [some (.ref pr), some (.int (h : Int)), some (.ref D), y3, none] ∧ H D = none ∧ H' D = some (.lst (ntV ls)) ∧ (ls.length ≤ h ∧ ∀ t ∈ ls, t < h) ∧ Same H H', ?_, fun σ3 H3 hm => ?_⟩
  · refine ⟨_, rfl, pr, _, _, _, rfl, rfl, hS s2, ls_z 0 rfl (by omega), _, _, rfl, rfl, dv _ _ (by decide) (by decide), _, _, rfl, rfl, (by show (0 : Int) < 4; decide), rfl, _, rfl, ite2 (fun e => ?_) (fun e => ?_)⟩
    · refine ⟨_, rfl, pr, _, _, _, rfl, rfl, hS s2, ls_z 1 rfl (by omega), _, rfl, _, _, rfl, rfl, _, _, rfl, rfl, (by omega), ?_⟩
      refine ⟨_, rfl, (h : Int), rfl, by omega, by omega, fun D3 hD3 => ?_⟩
      refine lc_range (lo := 0) (n := h) (fun j H' => ∃ ls, H' D3 = some (.lst (ntV ls)) ∧ (ls.length ≤ j ∧ ∀ t ∈ ls, t < h) ∧ Same H2 H') ⟨[], upd_same, ⟨Nat.le_refl _, fun _ z => nomatch z⟩, same_upd hD3⟩ (fun j H' hj hW => ?_) (fun H3 hW => ?_)
      · obtain ⟨ls, eD, ll, sm⟩ := hW
        refine ⟨rfl, ?_⟩
        refine ⟨_, rfl, _, rfl, _, _, rfl, rfl, _, rfl, ?_⟩
        refine ite2 (fun e => ?_) (fun e => ?_)
        · refine ⟨_, rfl, _, _, rfl, rfl, _, rfl, pr, _, _, _, rfl, rfl, hS (s2.trans sm), ls_z 2 rfl (by omega), _, _, rfl, rfl, (by show (0 : Int) < 4; decide), _, _, rfl, rfl, _, _, rfl, rfl, _, rfl, ?_⟩
          dsimp only
          refine ite2 (fun e => ?_) (fun e => ?_)
          · exact ⟨_, rfl, put hD3 eD ll sm (by omega) j hj⟩
          · exact ⟨ls, eD, ⟨Nat.le_succ_of_le ll.1, ll.2⟩, sm⟩
        · exact ⟨_, rfl, iteF ⟨ls, eD, ⟨Nat.le_succ_of_le ll.1, ll.2⟩, sm⟩⟩
      · obtain ⟨ls, eD, ll, sm⟩ := hW
        exact ⟨D3, ls, _, rfl, s2.free hD3, eD, ll, s2.trans sm⟩
    · exact ⟨D2, ls2, _, rfl, nD2, eD2, ll2, s2⟩
  obtain ⟨D3, ls3, y3, rfl, nD3, eD3, ll3, s3⟩ := hm
  exact ⟨_, rfl, q _ _ ls3 s3 nD3 eD3 (Nat.le_trans ll3.1 hh) ll3.2⟩

end
-- END _law_lost
end DT
namespace DT
open PySem PySem.Spec PyProof.Rows L2
/-! a < b < c < d as a test -/
def tChain3 (r1 r2 r3 : R2) (ta tb tc td : TE) : TT := fun σ H Q => ta σ H fun x H1 => tb σ H1 fun y H2 => r1 x y H2 fun v1 H3 => ∃ k1, v1 = .bl k1 ∧
  (if k1 = true then tc σ H3 fun z H4 => r2 y z H4 fun v2 H5 => ∃ k2, v2 = .bl k2 ∧ (if k2 = true then td σ H5 fun u H6 => r3 z u H6 fun v3 H7 => ∃ k3, v3 = .bl k3 ∧ Q k3 H7 else Q false H5) else Q false H3)
theorem pt_chain3 {X : Cx} {a b c d : Expr} {ta tb tc td : TE} {o1 o2 o3 : CmpOp} {r1 r2 r3 : R2} {pos : Pos} (h1 : OpR X (compareOp o1) r1) (h2 : OpR X (compareOp o2) r2) (h3 : OpR X (compareOp o3) r3) (ha : PE X a ta) (hb : PE X b tb) (hc : PE X c tc) (hd : PE X d td)
    (hm : lastMarks [o1, o2, o3] [b, c, d] = false := by with_unfolding_all rfl) : PT X (.Compare a [o1, o2, o3] [b, c, d] pos) (tChain3 r1 r2 r3 ta tb tc td) := by
  refine ⟨fun pins s σ H Q I w => ?_⟩
  refine isTrue_chain (thn (ha.run pins s σ H _ I w) fun va sa ⟨x, Ha, Ia, ra, qa⟩ => test_link (thn (hb.run pins sa σ Ha _ Ia qa) fun vb sb ⟨y, Hb, Ib, rb, qb⟩ => thn (h1 pins sb σ Hb x y va vb _ Ib ra rb qb) fun _ sc ⟨_, Hc, Ic, rc, k1, e1, qc⟩ => ?_)) hm
  subst e1
  cases rc
  refine wpAny_truthy_bool ?_
  cases k1 with
  | false => exact ite_ff ⟨Hc, Ic, qc⟩
  | true =>
    refine ite_tt (test_link (thn (hc.run pins sc σ Hc _ Ic qc) fun vz sz ⟨z, Hz, Iz, rz, qz⟩ => thn (h2 pins sz σ Hz y z vb vz _ Iz rb rz qz) fun _ se ⟨_, He, Ie, re, k2, e2, qe⟩ => ?_))
    subst e2
    cases re
    refine wpAny_truthy_bool ?_
    cases k2 with
    | false => exact ite_ff ⟨He, Ie, qe⟩
    | true =>
      refine ite_tt (test_last (thn (hd.run pins se σ He _ Ie qe) fun vu su ⟨u, Hu, Iu, ru, qu⟩ => thn (h3 pins su σ Hu z u vz vu _ Iu rz ru qu) fun _ sf ⟨_, Hf, If, rf, k3, e3, qf⟩ => ?_))
      subst e3
      cases rf
      exact wpAny_truthy_bool ⟨Hf, If, qf⟩
end DT

namespace DT
open PySem PySem.Spec PyProof.Rows L2 TL
-- END @chain3.lean
end DT
namespace DT
open PySem PySem.Spec PyProof.Rows L2 LamX
/-! a stretch that is too full, as the law counts it -/
def fullW (a l : Nat) (w : Wn) : Bool := dl dW l w && decide (a ≤ rW w)
structure FullP (rss : List (List Q2)) (n : Nat) (ls : List Nat) (a l : Nat) : Prop where
  al : a ≤ l
  lh : l < rss.length
  more : aheadN (lostF ls) (l + 1) < (winA rss n).countP (fullW a l) + aheadN (lostF ls) a
theorem full_of {rss : List (List Q2)} {n : Nat} {ls : List Nat} {L : List (Nat × Nat)} {a l : Nat} (h : Season rss n) (pm : L.Perm (closeL (winA rss n))) (so : L.Pairwise (fun p q => p.1 ≤ q.1)) (e : crowdP (aheadN (lostF ls)) L (List.range rss.length) = some (a, l)) : FullP rss n ls a l := by
  obtain ⟨ha, hb⟩ := crowd_some _ e
  obtain ⟨c1, f, hm, hf⟩ := hit_some L 0 so hb
  have hm2 := pm.mem_iff.1 hm
  unfold closeL at hm2
  obtain ⟨w, hw, ew⟩ := List.mem_filterMap.1 hm2
  cases ed : dW w with
  | none => rw [ed] at ew; cases ew
  | some y =>
    rw [ed] at ew
    obtain ⟨rfl, rfl⟩ : y = l ∧ rW w = f := by
      have := Option.some.inj ew
      exact ⟨congrArg Prod.fst this, congrArg Prod.snd this⟩
    have rd := win_rd h w hw y ed
    refine ⟨by omega, (winA_ok h.unit w hw).2 y ed, ?_⟩
    have k : (winA rss n).countP (fullW a y) = L.countP (fun p => decide (p.1 ≤ y) && decide (a ≤ p.2)) := by
      rw [pm.countP_eq]
      exact close_count y a _
    omega
def sp_full (K : PySem.W.Frag) : Sp := fun vs H Q _ => ∃ (p pl : Addr) (n : Nat) (rss : List (List Q2)) (ls : List Nat) (a l : Nat), vs = [.ref p, .int n, .ref pl, .int a, .int l] ∧ LR K H p rss ∧ H pl = some (.lst (ntV ls)) ∧ rss.length ≤ 60 ∧ 1 ≤ n ∧ n ≤ 12 ∧ (∀ r ∈ rss, AllOk 26 r ∧ r.length = n) ∧ (∀ pl, pl < n → Unit01 (colP rss pl)) ∧ FullP rss n ls a l ∧ ∀ H', Same H H' → Q (.bl true) H'
def ntD (ls : List Nat) : List PyData := ls.map fun (t : Nat) => PyData.int (t : Int)
theorem ntD_all {K : PySem.W.Frag} {H : Hp} : ∀ ls : List Nat, DpAll K H (ntV ls) (ntD ls)
  | [] => .nil
  | t :: ls => .cons (.int _) (ntD_all ls)
theorem ntD_lay : ∀ ls : List Nat, PyData.canLayAll0 (ntD ls) = true
  | [] => rfl
  | t :: ls => by
    have := ntD_lay ls
    unfold ntD at this ⊢
    rw [List.map_cons]
    simp only [PyData.canLayAll0, PyData.canLay0, this, Bool.and_self]
theorem ntD_dep : ∀ ls : List Nat, PyData.depthAll (ntD ls) = 0
  | [] => rfl
  | t :: ls => by
    have := ntD_dep ls
    unfold ntD at this ⊢
    rw [List.map_cons]
    simp only [PyData.depthAll, PyData.depth, this]
    rfl
theorem ntD_eqv : ∀ ls : List Nat, PyData.eqvAll (ntD ls) (ntD ls) = true
  | [] => rfl
  | t :: ls => by
    have := ntD_eqv ls
    unfold ntD at this ⊢
    rw [List.map_cons]
    simp only [PyData.eqvAll, PyData.eqv, this, Bool.and_true]
    simp
def handD (rss : List (List Q2)) (ls : List Nat) : PyData := .list [.list (rss.map datR), .list (ntD ls)]
theorem handD_shp (rss : List (List Q2)) (ls : List Nat) : SeqAt.shaped (handD rss ls) = true := by
  have h1 := lay_rs rss
  have h2 := dep_rs rss
  have h3 := ntD_lay ls
  have h4 := ntD_dep ls
  unfold SeqAt.shaped handD
  rw [Bool.and_eq_true]
  refine ⟨by simp only [PyData.canLay0, PyData.canLayAll0, h1, h3, Bool.and_self], decide_eq_true ?_⟩
  simp only [PyData.depth, PyData.depthAll]
  omega
theorem handD_eqv (rss : List (List Q2)) (ls : List Nat) : PyData.eqv (handD rss ls) (handD rss ls) = true := by
  have h1 := eqv_rsL rss
  have h2 := ntD_eqv ls
  unfold handD
  simp only [PyData.eqv, PyData.eqvAll] at h1 ⊢
  rw [h1, h2]
  rfl
end DT

namespace DT
open PySem PySem.Spec PyProof.Rows L2 TL
-- END @planf2.lean
abbrev N__law_full : List Str := ["_law_rows", "_law_n", "_law_lost_here", "_law_first", "_law_last", "_law_open_hours", "_law_within", "_law_one", "_law_t"]
theorem sc__law_full : FnScope N__law_full ["_law_rows", "_law_n", "_law_lost_here", "_law_first", "_law_last"] (defScope s__law_full) := ⟨rfl, rfl, rfl, by decide +kernel, rfl, by decide +kernel, by decide +kernel⟩
section
variable {P : Program} {w : World} {K : PySem.W.Frag} {mg : Str → Option Value} {base : Heap}
theorem ok__law_full {k : Nat} (T : Env K mg) : FnOk P w K mg base CX0 (k + 6) T.D__law_full.f T.D__law_full.fd ["_law_rows", "_law_n", "_law_lost_here", "_law_first", "_law_last"] (sp_full K) := by
  have G__law_windows : FnOk P w K mg base CX0 5 T.D__law_windows.f T.D__law_windows.fd ["_law_rows", "_law_n"] (sp_lwindows K) := ok__law_windows T
  have G__law_whole : FnOk P w K mg base CX0 5 T.D__law_whole.f T.D__law_whole.fd ["_law_found"] sp__law_whole := ok__law_whole T.D__law_whole T.m_isinstance T.m_int T.m_bool
  refine T.D__law_full.F.ok sc__law_full (fun vs H Q E h => ?_) (fun cdv A outer s H vs Q E hr h => ?_)
  · obtain ⟨p, pl, n, rss, ls, a, l, rfl, _⟩ := h
    rfl
  obtain ⟨p, pl, n, rss, ls, a, l, rfl, lr, el, hl, hn1, hn, hok, hu, ⟨al, lh, more⟩, q⟩ := h
  refine ⟨_, (pss_cons (ps_if (PW.pt (pw_or (pt_not (pt_val (pe_call G__law_whole (hr.mono (by omega)) (by rfl) T.D__law_whole.g T.D__law_whole.F.kp T.D__law_whole.b .nil pass0 (pa_cons (pv 3) pa_nil)))) (pw_or (pt_not (pt_val (pe_call G__law_whole (hr.mono (by omega)) (by rfl) T.D__law_whole.g T.D__law_whole.F.kp T.D__law_whole.b .nil pass0 (pa_cons (pv 4) pa_nil)))) (pw_or1 (pt_not (pt_chain3 op_le op_le op_lt pe_int (pv 3) (pv 4) (pe_callB call_len_seq (by rfl) T.m_len PySem.boot_len (pa_cons (pv 0) pa_nil)))))))) (pss_one (ps_ret pe_bl)) pss_nil)
      (pss_cons (ps_set (i := 5) sc__law_full.nd rfl (.inl rfl) (pe_callB call_len_seq (by rfl) T.m_len PySem.boot_len (pa_cons (pe_lc (own := [("_law_t", 8)]) (g := gName 8) (tt := _) rfl sc__law_full.nd (pi_range2 (by rfl) T.m_range (pa_cons (pv 3) (pa_cons (pe_op op_add (pv 4) pe_int) pa_nil))) (blkOk_by (N := N__law_full) (sc := defScope s__law_full) (by decide +kernel)) (fun _ _ _ _ _ => pg_name (i := 8) sc__law_full.nd rfl (Or.inl rfl)) (fun _ _ _ _ _ => (pts_one (pt_cmpR (r := rIn K true) op_notIn_seq (pv 8) (pv 2) (by rfl)))) (fun _ _ _ _ _ => (pv 8))) pa_nil)))
      (pss_cons (ps_setLc (i := 6) (own := [("_law_one", 7)]) (g := gName 7) (tt := _) rfl sc__law_full.nd rfl rfl (sw_true rfl rfl rfl (by decide +kernel)) (pi_list (pe_call G__law_windows (hr.mono (by omega)) (by rfl) T.D__law_windows.g T.D__law_windows.F.kp T.D__law_windows.b .nil pass0 (pa_cons (pv 0) (pa_cons (pv 1) pa_nil)))) (blkOk_by (N := N__law_full) (sc := defScope s__law_full) (by decide +kernel)) (fun _ _ _ _ _ => pg_name (i := 7) sc__law_full.nd rfl (Or.inl rfl)) (fun _ _ _ _ _ => (pts_one (PW.pt (pw_and (pt_cmpR op_notN (pe_ix (r := rIxT K) ix_tup (pv 7) pe_int (fun _ _ => rfl)) pe_non (nomark _)) (pw_and (pt_cmpR op_le (pv 3) (pe_ix (r := rIxT K) ix_tup (pv 7) pe_int (fun _ _ => rfl)) (nomark _)) (pw_and1 (pt_cmpR op_le (pe_ix (r := rIxT K) ix_tup (pv 7) pe_int (fun _ _ => rfl)) (pv 4) (nomark _)))))))) (fun _ _ _ _ _ => (pv 7)))
      (pss_one (ps_ret (pe_cmpR op_gt (pe_callB call_len_seq (by rfl) T.m_len PySem.boot_len (pa_cons (pv 6) pa_nil)) (pv 5) (nomark _))))))), ?_⟩
  refine ⟨_, rfl, _, rfl, _, rfl, ?_⟩
  refine iteF ?_
  refine ⟨_, rfl, _, rfl, _, rfl, ?_⟩
  refine iteF ?_
  refine ⟨_, rfl, _, _, rfl, rfl, _, rfl, ?_⟩
  rw [decide_eq_true (show (0 : Int) ≤ (a : Int) by omega)]
  refine iteT ?_
  refine ⟨_, rfl, _, _, rfl, rfl, _, rfl, ?_⟩
  rw [decide_eq_true (show (a : Int) ≤ (l : Int) by omega)]
  obtain ⟨us, ep, hA⟩ := id lr
  have hul : us.length = rss.length := hA.1
  refine iteT ?_
  refine ⟨_, rfl, p, us, rfl, .inl (SqL.of ep), _, _, rfl, rfl, _, rfl, ?_⟩
  rw [decide_eq_true (show (l : Int) < (us.length : Int) by omega)]
  refine iteF ?_
  -- the open hours
  refine ⟨_, rfl, _, rfl, _, _, rfl, rfl, _, _, rfl, ⟨by omega, by omega, by omega, by omega⟩, fun D1 hD1 => ?_⟩
  rw [show ((l : Int) + 1 - (a : Int)).toNat = l + 1 - a by omega]
  refine lc_range (lo := (a : Int)) (n := l + 1 - a) (fun j H' => ∃ ts : List Nat, H' D1 = some (.lst (ntV ts)) ∧ ts.length + aheadN (lostF ls) a = aheadN (lostF ls) (a + j) ∧ ts.length ≤ j ∧ Same H H') ⟨[], upd_same, by simp, Nat.le_refl _, same_upd hD1⟩ (fun j H' hj hW => ?_) (fun H1 hW => ?_)
  · obtain ⟨ts, eD, tl, tj, sm⟩ := hW
    have st : aheadN (lostF ls) (a + (j + 1)) = aheadN (lostF ls) (a + j) + if lostF ls (a + j) then 0 else 1 := rfl
    refine ⟨rfl, ?_⟩
    refine ⟨_, rfl, _, rfl, pl, _, rfl, .inl (SqL.of (sm _ _ el)), rfl, ntV_flat ls, _, rfl, ?_⟩
    rw [if_pos rfl, show (a : Int) + (j : Int) = ((a + j : Nat) : Int) by omega, ntV_in]
    cases eL : lostF ls (a + j) with
    | true =>
      rw [eL, if_pos rfl] at st
      exact iteF ⟨ts, eD, by omega, by omega, sm⟩
    | false =>
      rw [eL, if_neg Bool.false_ne_true] at st
      refine iteT ?_
      refine ⟨_, rfl, _, eD, small1000 (by unfold ntV; rw [List.length_map]; omega), ts ++ [a + j], ?_, by rw [List.length_append]; simp; omega, by rw [List.length_append]; simp; omega, same_at hD1 sm⟩
      rw [upd_same, nt_snoc]
  obtain ⟨ts, eD1, tl, tj, s1⟩ := hW
  rw [show a + (l + 1 - a) = l + 1 by omega] at tl
  refine ⟨D1, _, rfl, .inl (SqL.of eD1), ?_⟩
  rw [show (ntV ts).length = ts.length by unfold ntV; simp]
  -- the windows within
  refine ⟨_, rfl, _, rfl, p, n, rss, rfl, lr.same s1, by omega, hn1, by omega, hok, hu, fun H2 Dw s2 nDw lw => ?_⟩
  obtain ⟨ws, ew, hW⟩ := id lw
  have wk := winA_ok hu
  have wA := winA_len (show rss.length ≤ 61 by omega) hu n (Nat.le_refl _)
  refine ⟨Dw, rfl, ⟨_, SqL.of ew⟩, fun D2 hD2 => ?_⟩
  refine lc_list (xs := ws) (fun j H' => ∃ rs : List V, H' D2 = some (.lst rs) ∧ rs.length = ((winA rss n).take j).countP (fullW a l) ∧ Same H2 H') ⟨[], upd_same, rfl, same_upd hD2⟩ (fun j H' _ hW' => ?_) (fun j x H' hx hW' => ?_) (fun H3 hW' => ?_)
  · obtain ⟨_, _, _, sm⟩ := hW'
    exact SqL.of (sm _ _ ew)
  · obtain ⟨rs, eR, rl, sm⟩ := hW'
    obtain ⟨w', e', t, rfl, hT⟩ := hW.of hx
    have hT := same_seqT sm hT
    obtain ⟨w1, w2⟩ := wk w' (List.mem_of_getElem? e')
    obtain ⟨f0, ef⟩ := Option.isSome_iff_exists.1 w1
    have er : rW w' = f0 := by unfold rW; rw [ef]; rfl
    have cs : ((winA rss n).take (j + 1)).countP (fullW a l) = ((winA rss n).take j).countP (fullW a l) + if fullW a l w' = true then 1 else 0 := by
      rw [List.take_add_one, e', List.countP_append]
      congr 1
      exact List.countP_singleton
    have cl : ((winA rss n).take j).countP (fullW a l) ≤ 900 := Nat.le_trans (List.countP_le_length) (by rw [List.length_take]; omega)
    have no : fullW a l w' = false → ∃ rs : List V, H' D2 = some (.lst rs) ∧ rs.length = ((winA rss n).take (j + 1)).countP (fullW a l) ∧ Same H2 H' := fun h => ⟨rs, eR, by rw [cs, h, rl]; rfl, sm⟩
    refine ⟨rfl, ?_⟩
    refine ⟨_, rfl, t, _, 3, _, rfl, rfl, hT, rfl, rfl, _, rfl, ?_⟩
    cases ed : w'.2.2.2 with
    | none =>
      refine iteF (iteF (no ?_))
      unfold fullW dl
      rw [show dW w' = none from ed]
      rfl
    | some y =>
      have fw : fullW a l w' = (decide (y ≤ l) && decide (a ≤ f0)) := by
        unfold fullW dl
        rw [show dW w' = some y from ed, er]
      refine iteT ?_
      refine ⟨_, rfl, _, rfl, t, _, 2, _, rfl, rfl, hT, rfl, (a : Int), (f0 : Int), rfl, by rw [ef]; rfl, _, rfl, ?_⟩
      by_cases h1 : a ≤ f0
      · rw [decide_eq_true (show (a : Int) ≤ (f0 : Int) by omega)]
        refine iteT ?_
        refine ⟨_, rfl, t, _, 3, _, rfl, rfl, hT, rfl, _, rfl, (y : Int), (l : Int), by rw [ed]; rfl, rfl, _, rfl, ?_⟩
        by_cases h2 : y ≤ l
        · rw [decide_eq_true (show (y : Int) ≤ (l : Int) by omega)]
          refine iteT ?_
          refine ⟨_, rfl, rs, eR, small1000 (by omega), _, upd_same, ?_, same_at hD2 sm⟩
          rw [List.length_append, cs, fw, decide_eq_true h1, decide_eq_true h2, rl]
          rfl
        · rw [decide_eq_false (show ¬ (y : Int) ≤ (l : Int) by omega)]
          exact iteF (no (by rw [fw, decide_eq_false h2]; rfl))
      · rw [decide_eq_false (show ¬ (a : Int) ≤ (f0 : Int) by omega)]
        exact iteF (iteF (no (by rw [fw, decide_eq_false h1, Bool.and_false])))
  · obtain ⟨rs, eR, rl, s3⟩ := hW'
    rw [hW.1, List.take_of_length_le (Nat.le_refl _)] at rl
    refine ⟨_, rfl, D2, rs, rfl, .inl (SqL.of eR), _, rfl, _, _, rfl, rfl, ?_⟩
    dsimp only
    rw [decide_eq_true (show (ts.length : Int) < (rs.length : Int) by omega)]
    exact q _ ((s1.trans s2).trans s3)

end
-- END _law_full
abbrev N_law : List Str := ["_law_script", "_law_row", "_law_n", "_law_rows", "_law_lost_here", "_law_handed", "_law_turn", "_law_found", "_law_shares_here"]
theorem sc_law : FnScope N_law ["_law_script"] (defScope s_law) := ⟨rfl, rfl, rfl, by decide +kernel, rfl, by decide +kernel, by decide +kernel⟩
section
variable {P : Program} {w : World} {K : PySem.W.Frag} {mg : Str → Option Value} {base : Heap}
theorem ok_law (T : Env K mg) (TB : LamX.TabB base mg T.c_plan_of T.P_plan_of) : FnOk P w K mg base CX0 10 T.D_law.f T.D_law.fd ["_law_script"] (sp_lawT K T.P_plan_of) := by
  have G__law_flow : FnOk P w K mg base CX0 9 T.D__law_flow.f T.D__law_flow.fd ["_law_script", "_law_many"] (sp__law_flow K) := ok__law_flow T.D__law_flow T.m_abs T.m_len T.m_range
  have G__law_season : FnOk P w K mg base CX0 9 T.D__law_season.f T.D__law_season.fd ["_law_row"] (sp_season K) := ok__law_season T
  have G__law_lost : FnOk P w K mg base CX0 9 T.D__law_lost.f T.D__law_lost.fd ["_law_row", "_law_hours"] sp_lost := ok__law_lost T
  have G_planned : FnOk P w K mg base CX0 9 T.D_planned.f T.D_planned.fd ["rows", "lost"] (sp_planned K T.P_plan_of) := ok_planned T TB
  have G__law_full : FnOk P w K mg base CX0 9 T.D__law_full.f T.D__law_full.fd ["_law_rows", "_law_n", "_law_lost_here", "_law_first", "_law_last"] (sp_full K) := ok__law_full T
  have G__law_plan_keeps : FnOk P w K mg base CX0 9 T.D__law_plan_keeps.f T.D__law_plan_keeps.fd ["_law_rows", "_law_n", "_law_lost_here", "_law_plan"] (sp_keepsP K) := ok__law_plan_keeps T
  refine T.D_law.F.ok sc_law (fun vs H Q E h => ?_) (fun cdv A outer s H vs Q E hr h => ?_)
  · obtain ⟨a, ns, rfl, _⟩ := h
    rfl
  obtain ⟨a, ns, rfl, eT, hL, hn, q⟩ := h
  have tb : LamX.Tabs [(T.P_plan_of, QL)] H := fun z hz => by
    rw [List.mem_singleton.1 hz]
    exact LamX.TabS.nil eT
  refine ⟨_, (pss_cons (ps_set (i := 1) sc_law.nd rfl (.inl rfl) (pe_call G__law_flow (hr.mono (by omega)) (by rfl) T.D__law_flow.g T.D__law_flow.F.kp T.D__law_flow.b .nil pass0 (pa_cons (pv 0) (pa_cons pe_int pa_nil))))
      (pss_cons (ps_asg (pe_call G__law_season (hr.mono (by omega)) (by rfl) T.D__law_season.g T.D__law_season.F.kp T.D__law_season.b .nil pass0 (pa_cons (pv 1) pa_nil)) (pg_tup rfl (pgs_cons (pg_name (i := 2) sc_law.nd rfl (.inl rfl)) (pgs_cons (pg_name (i := 3) sc_law.nd rfl (.inl rfl)) pgs_nil))))
      (pss_cons (ps_set (i := 4) sc_law.nd rfl (.inl rfl) (pe_call G__law_lost (hr.mono (by omega)) (by rfl) T.D__law_lost.g T.D__law_lost.F.kp T.D__law_lost.b .nil pass0 (pa_cons (pe_slice sl_list (pv 1) (po_some pe_int) po_none) (pa_cons (pe_callB call_len_seq (by rfl) T.m_len PySem.boot_len (pa_cons (pv 3) pa_nil)) pa_nil))))
      (pss_cons (ps_set (i := 5) sc_law.nd rfl (.inl rfl) (pe_lst (pa_cons (pe_lc (own := [("_law_shares_here", 8)]) (g := gName 8) (tt := tYes) rfl sc_law.nd (pi_list (pv 3)) (blkOk_by (N := N_law) (sc := defScope s_law) (by decide +kernel)) (fun _ _ _ _ _ => pg_name (i := 8) sc_law.nd rfl (Or.inl rfl)) (fun _ _ _ _ _ => pts_nil) (fun _ _ _ _ _ => (pe_callTy (r := rLo K) call_list_of (by rfl) T.m_list PyProof.Rows.boot_list (pa_cons (pv 8) pa_nil)))) (pa_cons (pe_callTy call_list_of (by rfl) T.m_list PyProof.Rows.boot_list (pa_cons (pv 4) pa_nil)) pa_nil))))
      (pss_cons (ps_for PassesOwn.never rfl (pi_range1 (by rfl) T.m_range (pa_cons pe_int pa_nil)) (pg_name (i := 6) sc_law.nd rfl (.inl rfl)) (pss_cons (ps_set (i := 7) sc_law.nd rfl (.inl rfl) (pe_call G_planned (hr.mono (by omega)) (by rfl) T.D_planned.g T.D_planned.F.kp T.D_planned.b .nil pass0 (pa_cons (pe_ix ix_list (pv 5) pe_int (fun _ _ => rfl)) (pa_cons (pe_ix ix_list (pv 5) pe_int (fun _ _ => rfl)) pa_nil))))
      (pss_cons (ps_if (PW.pt (pw_or (pt_not (pt_val (pe_callB call_isi (by rfl) T.m_isinstance PyProof.Rows.boot_isinstance (pa_cons (pv 7) (pa_cons (pe_bltn (v := .ty "tuple") (by rfl) T.m_tuple PyProof.Rows.boot_tuple rfl) pa_nil))))) (pw_or (pt_cmpR op_lt (pe_callB call_len_seq (by rfl) T.m_len PySem.boot_len (pa_cons (pv 7) pa_nil)) pe_int (nomark _)) (pw_or1 (pt_cmpR (op_neD hr.units) (pv 5) (pe_lst (pa_cons (pv 3) (pa_cons (pv 4) pa_nil))) (nomark _)))))) (pss_one (ps_ret pe_bl)) pss_nil)
      (pss_one (ps_if (pt_cmpR op_eq (pe_ix ix_tup (pv 7) pe_int (fun _ _ => rfl)) pe_str (nomark _)) (pss_cons (ps_if (PW.pt (pw_or (pt_cmpR op_ne (pe_callB call_len_seq (by rfl) T.m_len PySem.boot_len (pa_cons (pv 7) pa_nil)) pe_int (nomark _)) (pw_or1 (pt_not (pt_val (pe_call G__law_plan_keeps (hr.mono (by omega)) (by rfl) T.D__law_plan_keeps.g T.D__law_plan_keeps.F.kp T.D__law_plan_keeps.b .nil pass0 (pa_cons (pv 3) (pa_cons (pv 2) (pa_cons (pv 4) (pa_cons (pe_ix ix_tup (pv 7) pe_int (fun _ _ => rfl)) pa_nil)))))))))) (pss_one (ps_ret pe_bl)) pss_nil)
      (pss_one (ps_expr (pe_bm PySem.F.plainAttrs_list PySem.F.slot_list_append PySem.F.type_list_append mt_append (pe_ix ix_tup (pv 7) pe_int (fun _ _ => rfl)) (pa_cons pe_int pa_nil))))) (pss_one (ps_if (PW.pt (pw_or (pt_cmpR op_ne (pe_ix ix_tup (pv 7) pe_int (fun _ _ => rfl)) pe_str (nomark _)) (pw_or (pt_cmpR op_ne (pe_callB call_len_seq (by rfl) T.m_len PySem.boot_len (pa_cons (pv 7) pa_nil)) pe_int (nomark _)) (pw_or1 (pt_not (pt_val (pe_call G__law_full (hr.mono (by omega)) (by rfl) T.D__law_full.g T.D__law_full.F.kp T.D__law_full.b .nil pass0 (pa_cons (pv 3) (pa_cons (pv 2) (pa_cons (pv 4) (pa_cons (pe_ix ix_tup (pv 7) pe_int (fun _ _ => rfl)) (pa_cons (pe_ix ix_tup (pv 7) pe_int (fun _ _ => rfl)) pa_nil)))))))))))) (pss_one (ps_ret pe_bl)) pss_nil)))))))
      (pss_one (ps_ret pe_bl))))))), ?_⟩
  refine ⟨_, rfl, a, ns, 520, rfl, hL, hn, by decide, fun H1 v1 rs s1 ⟨pr, ev, epr⟩ hrl hb => ?_⟩
  subst ev
  refine ⟨_, rfl, pr, rs, rfl, epr, by omega, hb, fun H2 pt pR n wss s2 qT hn1 hn2 wl wo lR => ?_⟩
  refine ⟨pt, _, rfl, qT, rfl, _, _, rfl, _, _, rfl, rfl, ?_⟩
  have hok : ∀ r ∈ wss.map sharesOf, AllOk 26 r ∧ r.length = n := fun r hr => by
    obtain ⟨ws, hw, rfl⟩ := List.mem_map.1 hr
    exact ⟨shares_ok (wo ws hw) (by omega), by rw [shares_len, (wo ws hw).1]⟩
  have se := season_of wo
  have hrl60 : (wss.map sharesOf).length ≤ 60 := by rw [List.length_map]; omega
  generalize wss.map sharesOf = rss at lR hok se hrl60
  have hu := se.unit
  obtain ⟨us, eR, hR⟩ := id lR
  have hul : us.length = rss.length := hR.1
  -- the hours that are lost
  refine ⟨_, rfl, 450, rfl, pr, _, rfl, SqL.of (s2 _ _ epr), fun Dc hDc => ?_⟩
  rw [show cutV (rs.map V.int) (some 450) none = (rs.drop 450).map V.int from cut_from rs 450 (by omega)]
  have sc := same_upd (o := .lst ((rs.drop 450).map V.int)) hDc
  refine ⟨_, rfl, pR, us, rfl, .inl (SqL.of (sc _ _ eR)), ?_⟩
  refine ⟨Dc, rs.drop 450, rss.length, by rw [hul]; rfl, upd_same, by rw [List.length_drop]; omega, fun r hr => hb r (List.mem_of_mem_drop hr), hrl60, fun H3 De ls s3 nDe ee lsl lsb => ?_⟩
  have s03 := sc.trans s3
  have lR3 := lR.same s03
  have epr3 := s03 _ _ (s2 _ _ epr)
  have eR3 := s03 _ _ eR
  have tb3 := ((tb.ext s1).ext s2).ext s03
  clear lR epr eR tb s03 nDe
  -- what is handed in
  obtain ⟨usDr, eRDr, hRDr⟩ := id lR3
  refine ⟨_, rfl, pR, rfl, ⟨_, SqL.of eRDr⟩, fun Dr hDr => ?_⟩
  refine lc_list (xs := usDr) (fun j H' => ∃ vs, H' Dr = some (.lst vs) ∧ Al (RowV K H') vs (rss.take j) ∧ (∀ u ∈ vs, u ≠ .ref Dr) ∧ Same H3 H') ⟨[], upd_same, .nil, (fun _ z => nomatch z), same_upd hDr⟩ (fun j H' _ hW => ?_) (fun j x H' hx hW => ?_) (fun H4 hW => ?_)
  · obtain ⟨_, _, _, _, sm⟩ := hW
    exact SqL.of (sm _ _ eRDr)
  · obtain ⟨vs, eV, hV, nd, sm⟩ := hW
    obtain ⟨r, er, b, rfl, lb⟩ := hRDr.of hx
    have hj : j < rss.length := (List.getElem?_eq_some_iff.1 er).1
    obtain ⟨zs, ez, hz⟩ := lb.same sm
    refine ⟨rfl, ?_⟩
    dsimp only [tYes]
    rw [if_pos rfl]
    refine ⟨_, rfl, b, zs, rfl, .inl (SqL.of ez), fun l hl => ?_⟩
    have sl := same_upd (o := .lst zs) hl
    have eV2 := sl _ _ eV
    have nl : l ≠ Dr := fun z => by rw [z, eV] at hl; cases hl
    have vl := hV.1
    rw [List.length_take] at vl
    obtain ⟨g1, g2⟩ := rows_grow (v := .ref l) (r := r) eV2 (hV.imp fun _ _ _ => RowV.same sl) nd ⟨l, rfl, zs, upd_same, hz.same sl⟩ (fun z => nl (by injection z))
    refine ⟨vs, eV2, small1000 (by omega), _, upd_same, ?_, g2, same_at hDr (sm.trans sl)⟩
    rw [List.take_add_one, er]
    exact g1
  obtain ⟨vsDr, eVDr, hVDr, ndDr, s4⟩ := hW
  rw [hRDr.1, List.take_of_length_le (Nat.le_refl _)] at hVDr
  have lDr : LR K H4 Dr rss := ⟨vsDr, eVDr, hVDr⟩
  refine ⟨_, rfl, De, ntV ls, rfl, .inl (SqL.of (s4 _ _ ee)), fun Dl hDl => ?_⟩
  have s5 := same_upd (o := .lst (ntV ls)) hDl
  refine ⟨(by show 2 ≤ sizeLine; decide), fun Dh hDh => ?_⟩
  have s6 := same_upd (o := .lst [.ref Dr, .ref Dl]) hDh
  have s46 := (s4.trans s5).trans s6
  have lR6 := lR3.same s46
  have lD6 := (lDr.same s5).same s6
  have ee6 := s46 _ _ ee
  have el6 : upd (upd H4 Dl (.lst (ntV ls))) Dh (.lst [.ref Dr, .ref Dl]) Dl = some (.lst (ntV ls)) := s6 _ _ upd_same
  have eh6 : upd (upd H4 Dl (.lst (ntV ls))) Dh (.lst [.ref Dr, .ref Dl]) Dh = some (.lst [.ref Dr, .ref Dl]) := upd_same
  have tb6 := tb3.ext s46
  generalize upd (upd H4 Dl (.lst (ntV ls))) Dh (.lst [.ref Dr, .ref Dl]) = H6 at lR6 lD6 ee6 el6 eh6 tb6 ⊢
  clear lDr hDh s6 s46
  refine ⟨2, rfl, by decide, by decide, ?_⟩
  refine for_range (lo := 0) (n := 2) (fun i σ H' => ∃ (y6 y7 y8 : Option V), σ = [some (.ref a), some (.ref pr), some (.int (n : Int)), some (.ref pR), some (.ref De), some (.ref Dh), y6, y7, y8] ∧ LamX.ExtN H6 H' ∧ LamX.Tabs [(T.P_plan_of, QL)] H') ⟨_, _, _, rfl, LamX.ExtN.refl _, tb6⟩ (fun i σ H7 hi hW => ?_) (fun σ H7 hW => ?_)
  · obtain ⟨y6, y7, y8, rfl, e7, tb7⟩ := hW
    have eh7 := lst_ext e7 eh6
    have lD7 := LR.ext e7 lD6
    have lR7 := LR.ext e7 lR6
    refine ⟨_, rfl, Dh, _, 0, .ref Dr, rfl, rfl, SqL.of eh7, rfl, _, rfl, Dh, _, 1, .ref Dl, rfl, rfl, SqL.of eh7, rfl, ?_⟩
    refine ⟨Dr, Dl, ls, n, rss, rfl, tb7, lD7, lst_ext e7 el6, by omega, hn2, hok, hu, fun H8 t L e8 tb8 pm so pv => ?_⟩
    have e68 := e7.trans e8
    have eh8 := lst_ext e68 eh6
    have lD8 := LR.ext e68 lD6
    have lR8 := LR.ext e68 lR6
    have el8 := lst_ext e68 el6
    have ee8 := lst_ext e68 ee6
    cases cr : crowdP (aheadN (lostF ls)) L (List.range rss.length) with
    | none =>
      rw [cr] at pv
      obtain ⟨q', os, W, eT, nq, eq', ptq⟩ := pv
      have kp := keep_of se (ample_of se pm so cr) ptq
      refine ⟨_, rfl, _, _, _, _, true, rfl, .ty "tuple", sqT_ty eT, kit_ty (by decide +kernel), true, rfl, ?_⟩
      refine iteF ?_
      refine ⟨_, rfl, t, _, rfl, .inr eT, _, _, rfl, rfl, _, rfl, ?_⟩
      refine iteF ?_
      refine ⟨_, rfl, _, rfl, _, rfl, (by show 2 ≤ sizeLine; decide), fun Dz hDz => ?_⟩
      have s9 := same_upd (o := .lst [.ref pR, .ref De]) hDz
      have tb9 := tb8.ext s9
      have e79 := ExtN.same e8 s9
      have lR9 := lR8.same s9
      have ee9 := s9 _ _ ee8
      refine ⟨handD rss ls, handD rss ls, .lst (SqL.of (s9 _ _ eh8)) (.cons (lD8.same s9).dp (.cons (.lst (SqL.of (s9 _ _ el8)) (ntD_all ls)) .nil)), .lst (SqL.of upd_same) (.cons lR9.dp (.cons (.lst (SqL.of ee9) (ntD_all ls)) .nil)), handD_shp rss ls, handD_shp rss ls, _, rfl, ?_⟩
      rw [handD_eqv]
      refine iteF ?_
      have eT9 := same_seqT s9 eT
      have eq9 := s9 _ _ eq'
      refine ⟨_, rfl, t, _, 0, _, rfl, rfl, eT9, rfl, rfl, _, rfl, ?_⟩
      rw [decide_eq_true rfl]
      refine iteT ?_
      refine ⟨_, rfl, t, _, rfl, .inr eT9, rfl, _, rfl, ?_⟩
      refine iteF ?_
      refine ⟨_, rfl, _, rfl, _, rfl, _, rfl, t, _, 1, _, rfl, rfl, eT9, rfl, ?_⟩
      refine ⟨pR, De, q', n, rss, ls, os, rfl, lR9, ee9, eq9, by omega, by omega, hok, kp, fun H10 s10 => ?_⟩
      refine ⟨_, rfl, iteF ?_⟩
      have eT10 := same_seqT s10 eT9
      have eq10 := s10 _ _ eq9
      have ol := kp.1
      refine ⟨_, rfl, t, _, 1, _, rfl, rfl, eT10, rfl, .inl ⟨rfl, _, SqL.of eq10⟩, q', _, _, rfl, rfl, eq10, small1000 (by rw [List.length_map]; omega), ?_⟩
      exact ⟨_, _, _, rfl, e7.trans (ExtN.put (ExtN.same e79 s10) nq), tabs_put eq10 (tb9.ext s10)⟩
    | some z =>
      obtain ⟨za, zl⟩ := z
      rw [cr] at pv
      have eT : SqT K H8 t [.str "stretch", .int za, .int zl] := pv
      have fp := full_of se pm so cr
      refine ⟨_, rfl, _, _, _, _, true, rfl, .ty "tuple", sqT_ty eT, kit_ty (by decide +kernel), true, rfl, ?_⟩
      refine iteF ?_
      refine ⟨_, rfl, t, _, rfl, .inr eT, _, _, rfl, rfl, _, rfl, ?_⟩
      refine iteF ?_
      refine ⟨_, rfl, _, rfl, _, rfl, (by show 2 ≤ sizeLine; decide), fun Dz hDz => ?_⟩
      have s9 := same_upd (o := .lst [.ref pR, .ref De]) hDz
      have tb9 := tb8.ext s9
      have e79 := ExtN.same e8 s9
      have lR9 := lR8.same s9
      have ee9 := s9 _ _ ee8
      refine ⟨handD rss ls, handD rss ls, .lst (SqL.of (s9 _ _ eh8)) (.cons (lD8.same s9).dp (.cons (.lst (SqL.of (s9 _ _ el8)) (ntD_all ls)) .nil)), .lst (SqL.of upd_same) (.cons lR9.dp (.cons (.lst (SqL.of ee9) (ntD_all ls)) .nil)), handD_shp rss ls, handD_shp rss ls, _, rfl, ?_⟩
      rw [handD_eqv]
      refine iteF ?_
      have eT9 := same_seqT s9 eT
      refine ⟨_, rfl, t, _, 0, _, rfl, rfl, eT9, rfl, rfl, _, rfl, ?_⟩
      rw [show decide (V.str "stretch" = V.str "plan") = false from by decide]
      refine iteF ?_
      refine ⟨_, rfl, t, _, 0, _, rfl, rfl, eT9, rfl, rfl, _, rfl, ?_⟩
      refine iteF ?_
      refine ⟨_, rfl, t, _, rfl, .inr eT9, rfl, _, rfl, ?_⟩
      refine iteF ?_
      refine ⟨_, rfl, _, rfl, _, rfl, _, rfl, t, _, 1, _, rfl, rfl, eT9, rfl, _, rfl, t, _, 2, _, rfl, rfl, eT9, rfl, ?_⟩
      refine ⟨pR, De, n, rss, ls, za, zl, rfl, lR9, ee9, hrl60, hn1, hn2, hok, hu, fp, fun H10 s10 => ?_⟩
      refine ⟨_, rfl, iteF ?_⟩
      exact ⟨_, _, _, rfl, ExtN.same (e7.trans e79) s10, tb9.ext s10⟩
  · exact q _

end
-- END law
end DT
namespace DT
open PySem PySem.Spec PyProof.Rows L2 TL
theorem facts {l : PySem.W.OpenLaw} {w : World} {K : PySem.W.Frag} {h : Heap} {mg : Str → Option Value} {f : Addr} (X : K.In h) (G : h.Ns mainGlobals mg) (hfa : mg ("law" : Str) = some (.ref f)) (cc : SaysU faL fnL tsL tfL exL w h K) :
    LamX.LawAtS l w K CX0 10 63 "_law_script" mg f h := by
  have c := cc.m
  have hm := c.more
  unfold exL at hm
  obtain ⟨fd_common, F_common⟩ := c.t.d.def_ 0 (d := d_common) rfl
  obtain ⟨fd_plus, F_plus⟩ := c.t.d.def_ 1 (d := d_plus) rfl
  obtain ⟨fd_floor_of, F_floor_of⟩ := c.t.d.def_ 2 (d := d_floor_of) rfl
  obtain ⟨fd_ceil_of, F_ceil_of⟩ := c.t.d.def_ 3 (d := d_ceil_of) rfl
  obtain ⟨fd_gains, F_gains⟩ := c.t.d.def_ 4 (d := d_gains) rfl
  obtain ⟨fd_first_hour, F_first_hour⟩ := c.t.d.def_ 5 (d := d_first_hour) rfl
  obtain ⟨fd_field_windows, F_field_windows⟩ := c.t.d.def_ 6 (d := d_field_windows) rfl
  obtain ⟨fd_windows, F_windows⟩ := c.t.d.def_ 7 (d := d_windows) rfl
  obtain ⟨fd_open_ahead, F_open_ahead⟩ := c.t.d.def_ 8 (d := d_open_ahead) rfl
  obtain ⟨fd_crowded, F_crowded⟩ := c.t.d.def_ 9 (d := d_crowded) rfl
  obtain ⟨fd_plan_of, F_plan_of⟩ := c.t.d.def_ 10 (d := d_plan_of) rfl
  obtain ⟨fd_planned, F_planned⟩ := c.t.d.def_ 11 (d := d_planned) rfl
  obtain ⟨fd__law_flow, F__law_flow⟩ := c.t.d.def_ 12 (d := d__law_flow) rfl
  obtain ⟨fd__law_whole, F__law_whole⟩ := c.t.d.def_ 13 (d := d__law_whole) rfl
  obtain ⟨fd__law_low, F__law_low⟩ := c.t.d.def_ 14 (d := d__law_low) rfl
  obtain ⟨fd__law_add, F__law_add⟩ := c.t.d.def_ 15 (d := d__law_add) rfl
  obtain ⟨fd__law_shares, F__law_shares⟩ := c.t.d.def_ 16 (d := d__law_shares) rfl
  obtain ⟨fd__law_many_fields, F__law_many_fields⟩ := c.t.d.def_ 17 (d := d__law_many_fields) rfl
  obtain ⟨fd__law_season, F__law_season⟩ := c.t.d.def_ 18 (d := d__law_season) rfl
  obtain ⟨fd__law_gains, F__law_gains⟩ := c.t.d.def_ 19 (d := d__law_gains) rfl
  obtain ⟨fd__law_windows, F__law_windows⟩ := c.t.d.def_ 20 (d := d__law_windows) rfl
  obtain ⟨fd__law_plan_keeps, F__law_plan_keeps⟩ := c.t.d.def_ 21 (d := d__law_plan_keeps) rfl
  obtain ⟨fd__law_lost, F__law_lost⟩ := c.t.d.def_ 22 (d := d__law_lost) rfl
  obtain ⟨fd__law_full, F__law_full⟩ := c.t.d.def_ 23 (d := d__law_full) rfl
  obtain ⟨fd_law, F_law⟩ := c.t.d.def_ 24 (d := d_law) rfl
  obtain ⟨T, eF, eT_plan_of, eC_plan_of⟩ : ∃ T : Env K mg, T.D_law.fd = fd_law ∧ T.P_plan_of = (He.cT K ("plan_of", none)).2 ∧ T.c_plan_of = (He.cT K ("plan_of", none)).1 := ⟨{
    D_common := ⟨_, fd_common, fun_ofD F_common, F_common.bindsN (ps := ["a", "b"]) fun _ _ _ _ _ _ us hl => match us, hl with | [_, _], _ => rfl, He.glo_ok X G (c.t.d.fact 0 (f := (He.Fa.glo "common" : He.Fa)) rfl)⟩
    D_plus := ⟨_, fd_plus, fun_ofD F_plus, F_plus.bindsN (ps := ["a", "b"]) fun _ _ _ _ _ _ us hl => match us, hl with | [_, _], _ => rfl, He.glo_ok X G (c.t.d.fact 1 (f := (He.Fa.glo "plus" : He.Fa)) rfl)⟩
    D_floor_of := ⟨_, fd_floor_of, fun_ofD F_floor_of, F_floor_of.bindsN (ps := ["a"]) fun _ _ _ _ _ _ us hl => match us, hl with | [_], _ => rfl, He.glo_ok X G (c.t.d.fact 2 (f := (He.Fa.glo "floor_of" : He.Fa)) rfl)⟩
    D_ceil_of := ⟨_, fd_ceil_of, fun_ofD F_ceil_of, F_ceil_of.bindsN (ps := ["a"]) fun _ _ _ _ _ _ us hl => match us, hl with | [_], _ => rfl, He.glo_ok X G (c.t.d.fact 3 (f := (He.Fa.glo "ceil_of" : He.Fa)) rfl)⟩
    D_gains := ⟨_, fd_gains, fun_ofD F_gains, F_gains.bindsN (ps := ["rows", "place"]) fun _ _ _ _ _ _ us hl => match us, hl with | [_, _], _ => rfl, He.glo_ok X G (c.t.d.fact 4 (f := (He.Fa.glo "gains" : He.Fa)) rfl)⟩
    D_first_hour := ⟨_, fd_first_hour, fun_ofD F_first_hour, F_first_hour.bindsN (ps := ["counts", "k"]) fun _ _ _ _ _ _ us hl => match us, hl with | [_, _], _ => rfl, He.glo_ok X G (c.t.d.fact 5 (f := (He.Fa.glo "first_hour" : He.Fa)) rfl)⟩
    D_field_windows := ⟨_, fd_field_windows, fun_ofD F_field_windows, F_field_windows.bindsN (ps := ["rows", "place"]) fun _ _ _ _ _ _ us hl => match us, hl with | [_, _], _ => rfl, He.glo_ok X G (c.t.d.fact 6 (f := (He.Fa.glo "field_windows" : He.Fa)) rfl)⟩
    D_windows := ⟨_, fd_windows, fun_ofD F_windows, F_windows.bindsN (ps := ["rows"]) fun _ _ _ _ _ _ us hl => match us, hl with | [_], _ => rfl, He.glo_ok X G (c.t.d.fact 7 (f := (He.Fa.glo "windows" : He.Fa)) rfl)⟩
    D_open_ahead := ⟨_, fd_open_ahead, fun_ofD F_open_ahead, F_open_ahead.bindsN (ps := ["lost", "many"]) fun _ _ _ _ _ _ us hl => match us, hl with | [_, _], _ => rfl, He.glo_ok X G (c.t.d.fact 8 (f := (He.Fa.glo "open_ahead" : He.Fa)) rfl)⟩
    D_crowded := ⟨_, fd_crowded, fun_ofD F_crowded, F_crowded.bindsN (ps := ["spans", "lost", "many"]) fun _ _ _ _ _ _ us hl => match us, hl with | [_, _, _], _ => rfl, He.glo_ok X G (c.t.d.fact 9 (f := (He.Fa.glo "crowded" : He.Fa)) rfl)⟩
    D_plan_of := ⟨_, fd_plan_of, fun_ofD F_plan_of, F_plan_of.bindsN (ps := ["spans", "lost", "many"]) fun _ _ _ _ _ _ us hl => match us, hl with | [_, _, _], _ => rfl, He.glo_ok X G (c.t.d.fact 10 (f := (He.Fa.glo "plan_of" : He.Fa)) rfl)⟩
    D_planned := ⟨_, fd_planned, fun_ofD F_planned, F_planned.bindsN (ps := ["rows", "lost"]) fun _ _ _ _ _ _ us hl => match us, hl with | [_, _], _ => rfl, He.glo_ok X G (c.t.d.fact 11 (f := (He.Fa.glo "planned" : He.Fa)) rfl)⟩
    D__law_flow := ⟨_, fd__law_flow, fun_ofD F__law_flow, F__law_flow.bindsN (ps := ["_law_script", "_law_many"]) fun _ _ _ _ _ _ us hl => match us, hl with | [_, _], _ => rfl, He.glo_ok X G (c.t.d.fact 12 (f := (He.Fa.glo "_law_flow" : He.Fa)) rfl)⟩
    D__law_whole := ⟨_, fd__law_whole, fun_ofD F__law_whole, F__law_whole.bindsN (ps := ["_law_found"]) fun _ _ _ _ _ _ us hl => match us, hl with | [_], _ => rfl, He.glo_ok X G (c.t.d.fact 13 (f := (He.Fa.glo "_law_whole" : He.Fa)) rfl)⟩
    D__law_low := ⟨_, fd__law_low, fun_ofD F__law_low, F__law_low.bindsN (ps := ["_law_top", "_law_bottom"]) fun _ _ _ _ _ _ us hl => match us, hl with | [_, _], _ => rfl, He.glo_ok X G (c.t.d.fact 14 (f := (He.Fa.glo "_law_low" : He.Fa)) rfl)⟩
    D__law_add := ⟨_, fd__law_add, fun_ofD F__law_add, F__law_add.bindsN (ps := ["_law_a", "_law_b"]) fun _ _ _ _ _ _ us hl => match us, hl with | [_, _], _ => rfl, He.glo_ok X G (c.t.d.fact 15 (f := (He.Fa.glo "_law_add" : He.Fa)) rfl)⟩
    D__law_shares := ⟨_, fd__law_shares, fun_ofD F__law_shares, F__law_shares.bindsN (ps := ["_law_row", "_law_n"]) fun _ _ _ _ _ _ us hl => match us, hl with | [_, _], _ => rfl, He.glo_ok X G (c.t.d.fact 16 (f := (He.Fa.glo "_law_shares" : He.Fa)) rfl)⟩
    D__law_many_fields := ⟨_, fd__law_many_fields, fun_ofD F__law_many_fields, F__law_many_fields.bindsN (ps := ["_law_one", "_law_top"]) fun _ _ _ _ _ _ us hl => match us, hl with | [_, _], _ => rfl, He.glo_ok X G (c.t.d.fact 17 (f := (He.Fa.glo "_law_many_fields" : He.Fa)) rfl)⟩
    D__law_season := ⟨_, fd__law_season, fun_ofD F__law_season, F__law_season.bindsN (ps := ["_law_row"]) fun _ _ _ _ _ _ us hl => match us, hl with | [_], _ => rfl, He.glo_ok X G (c.t.d.fact 18 (f := (He.Fa.glo "_law_season" : He.Fa)) rfl)⟩
    D__law_gains := ⟨_, fd__law_gains, fun_ofD F__law_gains, F__law_gains.bindsN (ps := ["_law_rows", "_law_n"]) fun _ _ _ _ _ _ us hl => match us, hl with | [_, _], _ => rfl, He.glo_ok X G (c.t.d.fact 19 (f := (He.Fa.glo "_law_gains" : He.Fa)) rfl)⟩
    D__law_windows := ⟨_, fd__law_windows, fun_ofD F__law_windows, F__law_windows.bindsN (ps := ["_law_rows", "_law_n"]) fun _ _ _ _ _ _ us hl => match us, hl with | [_, _], _ => rfl, He.glo_ok X G (c.t.d.fact 20 (f := (He.Fa.glo "_law_windows" : He.Fa)) rfl)⟩
    D__law_plan_keeps := ⟨_, fd__law_plan_keeps, fun_ofD F__law_plan_keeps, F__law_plan_keeps.bindsN (ps := ["_law_rows", "_law_n", "_law_lost_here", "_law_plan"]) fun _ _ _ _ _ _ us hl => match us, hl with | [_, _, _, _], _ => rfl, He.glo_ok X G (c.t.d.fact 21 (f := (He.Fa.glo "_law_plan_keeps" : He.Fa)) rfl)⟩
    D__law_lost := ⟨_, fd__law_lost, fun_ofD F__law_lost, F__law_lost.bindsN (ps := ["_law_row", "_law_hours"]) fun _ _ _ _ _ _ us hl => match us, hl with | [_, _], _ => rfl, He.glo_ok X G (c.t.d.fact 22 (f := (He.Fa.glo "_law_lost" : He.Fa)) rfl)⟩
    D__law_full := ⟨_, fd__law_full, fun_ofD F__law_full, F__law_full.bindsN (ps := ["_law_rows", "_law_n", "_law_lost_here", "_law_first", "_law_last"]) fun _ _ _ _ _ _ us hl => match us, hl with | [_, _, _, _, _], _ => rfl, He.glo_ok X G (c.t.d.fact 23 (f := (He.Fa.glo "_law_full" : He.Fa)) rfl)⟩
    D_law := ⟨_, fd_law, fun_ofD F_law, F_law.bindsN (ps := ["_law_script"]) fun _ _ _ _ _ _ us hl => match us, hl with | [_], _ => rfl, He.glo_ok X G (c.t.d.fact 24 (f := (He.Fa.glo "law" : He.Fa)) rfl)⟩
    m_abs := He.free_ok X G (c.t.d.fact 25 (f := (He.Fa.free "abs" : He.Fa)) rfl)
    m_len := He.free_ok X G (c.t.d.fact 26 (f := (He.Fa.free "len" : He.Fa)) rfl)
    m_range := He.free_ok X G (c.t.d.fact 27 (f := (He.Fa.free "range" : He.Fa)) rfl)
    m_isinstance := He.free_ok X G (c.t.d.fact 28 (f := (He.Fa.free "isinstance" : He.Fa)) rfl)
    m_int := He.free_ok X G (c.t.d.fact 29 (f := (He.Fa.free "int" : He.Fa)) rfl)
    m_bool := He.free_ok X G (c.t.d.fact 30 (f := (He.Fa.free "bool" : He.Fa)) rfl)
    m_tuple := He.free_ok X G (c.t.d.fact 31 (f := (He.Fa.free "tuple" : He.Fa)) rfl)
    m_list := He.free_ok X G (c.t.d.fact 32 (f := (He.Fa.free "list" : He.Fa)) rfl)
    m_any := He.free_ok X G (c.t.d.fact 33 (f := (He.Fa.free "any" : He.Fa)) rfl)
    m_sum := He.free_ok X G (c.t.d.fact 34 (f := (He.Fa.free "sum" : He.Fa)) rfl)
    m_min := He.free_ok X G (c.t.d.fact 35 (f := (He.Fa.free "min" : He.Fa)) rfl)
    m_zip := He.free_ok X G (c.t.d.fact 36 (f := (He.Fa.free "zip" : He.Fa)) rfl)
    m_enumerate := He.free_ok X G (c.t.d.fact 37 (f := (He.Fa.free "enumerate" : He.Fa)) rfl)
    m_sorted := He.free_ok X G (c.t.d.fact 38 (f := (He.Fa.free "sorted" : He.Fa)) rfl)
    c_plan_of := (He.cT K ("plan_of", none)).1
    P_plan_of := (He.cT K ("plan_of", none)).2
    e_plan_of := code_ofD F_plan_of
  }, rfl, rfl, rfl⟩
  have e := hfa.symm.trans T.D_law.g
  obtain rfl : f = T.D_law.f := by injection e with e; injection e with e
  obtain ⟨k1, k2, k3⟩ := cc.tb ("plan_of", none) (.head _)
  rw [← eT_plan_of, ← eC_plan_of] at k1
  rw [← eT_plan_of] at k2 k3
  refine ⟨T.D_law.fd, [(T.c_plan_of, T.P_plan_of)], sp_lawT K T.P_plan_of, fun p hp => by rw [List.mem_singleton.1 hp]; exact k3, fun p hp => by rw [List.mem_singleton.1 hp]; exact k2, fun p hp => by rw [List.mem_singleton.1 hp]; exact PySem.W.codeHd_of_K X k1, fun s v => ?_, fun H a ns hl _ hT hS => ⟨a, ns, rfl, hT _ (.head _), hS, hl, fun _ => rfl⟩, fun base _ _ tb => ok_law T (tb _ (.head _))⟩
  rw [eF]
  exact FunD.bindsA (ps := ["_law_script"]) F_law (fun _ _ _ _ _ _ us hl => match us, hl with | [_], _ => rfl) s [v] rfl
end DT
open PySem PySem.W PySem.Calls PyProof.Rows
set_option maxHeartbeats 0 in
theorem PySem.Challenge.cw_ditchturn_k43_whole_plans_or_full_stretc_holds : PySem.Challenge.rw_ditchturn_k43_whole_plans_or_full_stretc.Holds := by
  w_on; o_law
  refine HandSHeadRun.head_any (r := OpenLaw.row PySem.Challenge.rw_ditchturn_k43_whole_plans_or_full_stretc) (q := view (OpenLaw.row PySem.Challenge.rw_ditchturn_k43_whole_plans_or_full_stretc).prog [27]) (H := DT.hkZ) (ob := DT.ob) (M := 30000) (loose := DT.looseL) (d := HandSHeadRun.topDef (OpenLaw.row PySem.Challenge.rw_ditchturn_k43_whole_plans_or_full_stretc).prog 27) (kwd := []) DT.ob_eq
    (by kernel_rfl) (fun s => by kernel_rfl) DT.run (by kernel_rfl) (by kernel_rfl) (by kernel_rfl) (by rfl) (by first | assumption | decide +kernel) (by decide +kernel) ⟨rfl, rfl, rfl, rfl, rfl, by decide +kernel⟩ ?hw ?hc
  case hw => w_witness2
  case hc =>
    refine LamX.walk_ofTsE (l := PySem.Challenge.rw_ditchturn_k43_whole_plans_or_full_stretc) (n := 63) (k := 10) (x := "_law_script") (CX := fun _ => L2.CX0) rfl (by decide) (by kernel_rfl) ⟨rfl, by decide, by decide⟩ ?F (fun _ _ _ _ _ z => z)
    intro w mg fa h Y G hmg0
    obtain ⟨K, KX, c⟩ := Y
    have hmg : mg ("law" : PySem.Str) = some (.ref fa) := by
      have e : (HandSHeadRun.topDef (OpenLaw.row PySem.Challenge.rw_ditchturn_k43_whole_plans_or_full_stretc).prog 27).name = ("law" : PySem.Str) := by kernel_rfl
      rw [← e]
      exact hmg0
    exact ⟨K, KX, DT.facts (l := PySem.Challenge.rw_ditchturn_k43_whole_plans_or_full_stretc) KX G hmg c⟩

