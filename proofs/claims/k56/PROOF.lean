import PyProof.Rows.All
import Wide.All
import OpenK.AllK
import Wide.FinOn
import HandS.ForMost
import HandS.Wide
import HandS.IsInst
import HandS.Head0
import HandS.Head1
import HandS.Head2
import HandS.HeadEnd
import HandS.HeadHook1
import HandS.HeadHook2
import HandS.HeadHook3
import HandS.HeadHook4
import HandS.StrMore
import HandS.Style
import HandS.Walk
import HandS.Codes
import HandS.Iter
import HandS.More
import HandS.ForExc
import HandS.ExcIs
import HandS.RaiseMore
import HandS.FStr
import HandS.Deep
import HandS.Zip
import HandS.HotCalls
import KE.KUnpackStar
import HandS.Star
import HandS.CallLocal
import HandS.Conv
import HandS.SetFor
import PySem.Challenge.RW_ditchturn_k56_whole_foe_in_a_ditch
set_option Elab.async false
set_option linter.all false
set_option maxRecDepth 100000
set_option maxHeartbeats 4000000
namespace DT
open PySem PySem.Spec PyProof.Rows L2
def excCB (K : PySem.W.Frag) (x : Str) : Bool :=
  decide (PySem.W.findIn K (.ref (He.ga K x)) "__getattribute__" = some (some (.builtin "BaseException.__getattribute__"))) &&
  (decide (PySem.W.findIn K (.ref (He.ga K x)) "__getattr__" = some none) && (decide (PySem.W.subIn K (.ref (He.ga K x)) (.type "BaseException") = some true) && (PySem.W.hasDictIn K (He.ga K x) &&
  (decide (PySem.W.findIn K (.ref (He.ga K x)) "__class__" = some (some (.builtin "object.__class__"))) && (decide (PySem.W.specialIn K (.builtin "object.__class__") "__get__" = some (some (.builtin "getset_descriptor.__get__"))) &&
  (decide (PySem.W.takesIn K (.builtin "object.__class__") = some true) && (decide (PySem.W.mroIn K (He.ga K x) (.type "object") = some true) && decide (PySem.W.kitOne K (.ref (He.ga K x)) (.type "ValueError") = some true))))))))
theorem excCB_all {K : PySem.W.Frag} {x : Str} (h : excCB K x = true) : ExcC K (He.ga K x) ∧ PySem.W.kitOne K (.ref (He.ga K x)) (.type "ValueError") = some true := by
  obtain ⟨h1, h⟩ := He.ba h
  obtain ⟨h2, h⟩ := He.ba h
  obtain ⟨h3, h⟩ := He.ba h
  obtain ⟨h4, h⟩ := He.ba h
  obtain ⟨h5, h⟩ := He.ba h
  obtain ⟨h6, h⟩ := He.ba h
  obtain ⟨h7, h⟩ := He.ba h
  obtain ⟨h8, h9⟩ := He.ba h
  exact ⟨⟨of_decide_eq_true h1, of_decide_eq_true h2, of_decide_eq_true h3, h4, of_decide_eq_true h5, of_decide_eq_true h6, of_decide_eq_true h7, of_decide_eq_true h8⟩, of_decide_eq_true h9⟩
theorem excCB_ok {K : PySem.W.Frag} {x : Str} (h : excCB K x = true) : ExcC K (He.ga K x) := (excCB_all h).1
theorem excCB_kit {K : PySem.W.Frag} {x : Str} (h : excCB K x = true) : PySem.W.kitOne K (.ref (He.ga K x)) (.type "ValueError") = some true := (excCB_all h).2
end DT

namespace DT
open PySem PySem.Spec PyProof.Rows L2
def topS (i : Nat) : Stmt := PySem.Challenge.pw_ditchturn_k56_whole_foe_in_a_ditch.main.body.getD i (.Pass ⟨0, 0, 0, 0⟩)
abbrev s_common : Stmt := topS 16
abbrev s_lowest : Stmt := topS 17
abbrev s_plus : Stmt := topS 18
abbrev s_minus : Stmt := topS 19
abbrev s_times : Stmt := topS 20
abbrev s_below : Stmt := topS 21
abbrev s_raised : Stmt := topS 23
abbrev s_turn_of : Stmt := topS 24
abbrev s_dealt : Stmt := topS 25
abbrev s_Moment___init__ : Stmt := inClass (topS 29) 0
abbrev s_like : Stmt := topS 30
abbrev s_begun : Stmt := topS 31
abbrev s_place_of : Stmt := topS 32
abbrev s_opposite : Stmt := topS 33
abbrev s_added : Stmt := topS 34
abbrev s_joined : Stmt := topS 35
abbrev s_endowed : Stmt := topS 36
abbrev s_entrusted : Stmt := topS 37
abbrev s_passed : Stmt := topS 38
abbrev s_watered : Stmt := topS 39
abbrev s_is_name : Stmt := topS 43
abbrev s_check_new_name : Stmt := topS 48
abbrev s_check_room : Stmt := topS 49
abbrev s_check_trade : Stmt := topS 50
abbrev s_check_free : Stmt := topS 51
abbrev s_settled : Stmt := topS 52
abbrev s_sold : Stmt := topS 53
abbrev s_lent : Stmt := topS 54
abbrev s_check_heirs : Stmt := topS 55
abbrev s_left : Stmt := topS 56
abbrev s_given_to : Stmt := topS 57
abbrev s_dried : Stmt := topS 58
abbrev s_behind_deed : Stmt := topS 60
abbrev s_Ditch___init__ : Stmt := inClass (topS 62) 0
abbrev s_Ditch_enter : Stmt := inClass (topS 62) 1
abbrev s_Ditch_do : Stmt := inClass (topS 62) 2
abbrev s_Ditch_settle : Stmt := inClass (topS 62) 3
abbrev s_Ditch_sell : Stmt := inClass (topS 62) 4
abbrev s_Ditch_lend : Stmt := inClass (topS 62) 5
abbrev s_Ditch_leave : Stmt := inClass (topS 62) 6
abbrev s_Ditch_hour : Stmt := inClass (topS 62) 7
abbrev s_Ditch_lose : Stmt := inClass (topS 62) 8
abbrev s_Ditch_back : Stmt := inClass (topS 62) 9
abbrev s_Ditch_again : Stmt := inClass (topS 62) 10
abbrev s_Ditch_fields : Stmt := inClass (topS 62) 12
abbrev s_Ditch_owned : Stmt := inClass (topS 62) 13
abbrev s_Ditch_free : Stmt := inClass (topS 62) 14
abbrev s_Ditch_share : Stmt := inClass (topS 62) 15
abbrev s_Ditch_lag : Stmt := inClass (topS 62) 16
abbrev s_Ditch_lags : Stmt := inClass (topS 62) 19
abbrev s_Ditch_loans : Stmt := inClass (topS 62) 20
abbrev s_Ditch_given : Stmt := inClass (topS 62) 22
abbrev s_Ditch_due : Stmt := inClass (topS 62) 24
abbrev s__law_flow : Stmt := topS 64
abbrev s__law_low : Stmt := topS 65
abbrev s__law_add : Stmt := topS 66
abbrev s__law_mul : Stmt := topS 67
abbrev s__law_less : Stmt := topS 68
abbrev s__law_sum : Stmt := topS 69
abbrev s__law_most : Stmt := topS 70
abbrev s__law_falling : Stmt := topS 71
abbrev s__law_keeps : Stmt := topS 72
abbrev s__law_pool : Stmt := topS 73
abbrev s_law : Stmt := topS 74
end DT
namespace DT
open PySem PySem.Spec PyProof.Rows L2
/-! ### a look at what the module's names reach, level by level, nothing dropped -/
def refsM (o : Obj) : List Addr := match o.data with
  | .func fd => He.refV fd.code
  | .cls cd => [cd.ns]
  | .dict es _ => es.toList.flatMap fun e => He.refV e.val
  | _ => []
def stepM (g : Addr → Option Obj) (as : List Addr) : List Addr := as.flatMap fun a => match g a with
  | some o => refsM o
  | none => []
def lev4 (g : Addr → Option Obj) (l1 l2 l3 : List Addr) : List Addr := mainGlobals :: (l1 ++ (l2 ++ (l3 ++ stepM g l3)))
def lev3 (g : Addr → Option Obj) (l1 l2 : List Addr) : List Addr := lev4 g l1 l2 (stepM g l2)
def lev2 (g : Addr → Option Obj) (l1 : List Addr) : List Addr := lev3 g l1 (stepM g l1)
def asM (g : Addr → Option Obj) : List Addr := lev2 g (stepM g [mainGlobals])
abbrev AlM : Type := He.AlT × Bool
def obsK (fa : List He.Fa) (fn : List He.DefD) (ts : List He.Tab) (ex : PySem.W.Frag → Bool) (K : PySem.W.Frag) : AlM := (He.obsT fa fn ts K, ex K)
def obsM (fa : List He.Fa) (fn : List He.DefD) (ts : List He.Tab) (ex : PySem.W.Frag → Bool) (g : Addr → Option Obj) : AlM := obsK fa fn ts ex (He.frG g (asM g))
def valM (fn : List He.DefD) (ts : List He.Tab) (w : World) : AlM := (He.valT fn ts w, true)
structure SaysM (fa : List He.Fa) (fn : List He.DefD) (ts : List He.Tab) (ex : PySem.W.Frag → Bool) (w : World) (K : PySem.W.Frag) : Prop where
  t : He.SaysT fa fn ts w K
  more : ex K = true
def hookM (fa : List He.Fa) (fn : List He.DefD) (ts : List He.Tab) (ex : PySem.W.Frag → Bool) : PySem.W.Hook where
  α := AlM
  obs := fun s => obsM fa fn ts ex s.heap.get?
  val := fun w => valM fn ts w
  says := fun w h => ∃ K : PySem.W.Frag, K.In h ∧ SaysM fa fn ts ex w K
  of := fun _ _ e => ⟨_, He.frG_in, ⟨congrArg (fun z : AlM => z.1) e, congrArg (fun z : AlM => z.2) e⟩⟩
  keeps := fun _ _ _ ⟨K, hK, c⟩ k => ⟨K, PySem.W.Frag.In.keeps hK k, c⟩
theorem obsM_eq {fa : List He.Fa} {fn : List He.DefD} {ts : List He.Tab} {ex : PySem.W.Frag → Bool} {g : Addr → Option Obj} {s : Shared} (h : ∀ a, g a = s.heap.get? a) : obsM fa fn ts ex g = (hookM fa fn ts ex).obs s := by
  have e : g = s.heap.get? := funext h
  rw [e] <;> rfl
end DT

namespace DT
open PySem PySem.Spec PyProof.Rows L2
def d_common : He.DefD := ⟨("common", none), "common", "common", defArgs s_common, defBody s_common, defScope s_common, [], []⟩
def d_lowest : He.DefD := ⟨("lowest", none), "lowest", "lowest", defArgs s_lowest, defBody s_lowest, defScope s_lowest, [], []⟩
def d_plus : He.DefD := ⟨("plus", none), "plus", "plus", defArgs s_plus, defBody s_plus, defScope s_plus, [], []⟩
def d_minus : He.DefD := ⟨("minus", none), "minus", "minus", defArgs s_minus, defBody s_minus, defScope s_minus, [], []⟩
def d_times : He.DefD := ⟨("times", none), "times", "times", defArgs s_times, defBody s_times, defScope s_times, [], []⟩
def d_below : He.DefD := ⟨("below", none), "below", "below", defArgs s_below, defBody s_below, defScope s_below, [], []⟩
def d_raised : He.DefD := ⟨("raised", none), "raised", "raised", defArgs s_raised, defBody s_raised, defScope s_raised, [], []⟩
def d_turn_of : He.DefD := ⟨("turn_of", none), "turn_of", "turn_of", defArgs s_turn_of, defBody s_turn_of, defScope s_turn_of, [], []⟩
def d_dealt : He.DefD := ⟨("dealt", none), "dealt", "dealt", defArgs s_dealt, defBody s_dealt, defScope s_dealt, [], []⟩
def d_Moment___init__ : He.DefD := ⟨("Moment", some "__init__"), "__init__", "Moment.__init__", defArgs s_Moment___init__, defBody s_Moment___init__, defScope s_Moment___init__, [], []⟩
def d_like : He.DefD := ⟨("like", none), "like", "like", defArgs s_like, defBody s_like, defScope s_like, [], []⟩
def d_begun : He.DefD := ⟨("begun", none), "begun", "begun", defArgs s_begun, defBody s_begun, defScope s_begun, [], []⟩
def d_place_of : He.DefD := ⟨("place_of", none), "place_of", "place_of", defArgs s_place_of, defBody s_place_of, defScope s_place_of, [], []⟩
def d_opposite : He.DefD := ⟨("opposite", none), "opposite", "opposite", defArgs s_opposite, defBody s_opposite, defScope s_opposite, [], []⟩
def d_added : He.DefD := ⟨("added", none), "added", "added", defArgs s_added, defBody s_added, defScope s_added, [], []⟩
def d_joined : He.DefD := ⟨("joined", none), "joined", "joined", defArgs s_joined, defBody s_joined, defScope s_joined, [], []⟩
def d_endowed : He.DefD := ⟨("endowed", none), "endowed", "endowed", defArgs s_endowed, defBody s_endowed, defScope s_endowed, [], []⟩
def d_entrusted : He.DefD := ⟨("entrusted", none), "entrusted", "entrusted", defArgs s_entrusted, defBody s_entrusted, defScope s_entrusted, [], []⟩
def d_passed : He.DefD := ⟨("passed", none), "passed", "passed", defArgs s_passed, defBody s_passed, defScope s_passed, [], []⟩
def d_watered : He.DefD := ⟨("watered", none), "watered", "watered", defArgs s_watered, defBody s_watered, defScope s_watered, [], []⟩
def d_is_name : He.DefD := ⟨("is_name", none), "is_name", "is_name", defArgs s_is_name, defBody s_is_name, defScope s_is_name, [], []⟩
def d_check_new_name : He.DefD := ⟨("check_new_name", none), "check_new_name", "check_new_name", defArgs s_check_new_name, defBody s_check_new_name, defScope s_check_new_name, [], []⟩
def d_check_room : He.DefD := ⟨("check_room", none), "check_room", "check_room", defArgs s_check_room, defBody s_check_room, defScope s_check_room, [], []⟩
def d_check_trade : He.DefD := ⟨("check_trade", none), "check_trade", "check_trade", defArgs s_check_trade, defBody s_check_trade, defScope s_check_trade, [], []⟩
def d_check_free : He.DefD := ⟨("check_free", none), "check_free", "check_free", defArgs s_check_free, defBody s_check_free, defScope s_check_free, [], []⟩
def d_settled : He.DefD := ⟨("settled", none), "settled", "settled", defArgs s_settled, defBody s_settled, defScope s_settled, [], []⟩
def d_sold : He.DefD := ⟨("sold", none), "sold", "sold", defArgs s_sold, defBody s_sold, defScope s_sold, [], []⟩
def d_lent : He.DefD := ⟨("lent", none), "lent", "lent", defArgs s_lent, defBody s_lent, defScope s_lent, [], []⟩
def d_check_heirs : He.DefD := ⟨("check_heirs", none), "check_heirs", "check_heirs", defArgs s_check_heirs, defBody s_check_heirs, defScope s_check_heirs, [], []⟩
def d_left : He.DefD := ⟨("left", none), "left", "left", defArgs s_left, defBody s_left, defScope s_left, [], []⟩
def d_given_to : He.DefD := ⟨("given_to", none), "given_to", "given_to", defArgs s_given_to, defBody s_given_to, defScope s_given_to, [], []⟩
def d_dried : He.DefD := ⟨("dried", none), "dried", "dried", defArgs s_dried, defBody s_dried, defScope s_dried, [], []⟩
def d_behind_deed : He.DefD := ⟨("behind_deed", none), "behind_deed", "behind_deed", defArgs s_behind_deed, defBody s_behind_deed, defScope s_behind_deed, [], []⟩
def d_Ditch___init__ : He.DefD := ⟨("Ditch", some "__init__"), "__init__", "Ditch.__init__", defArgs s_Ditch___init__, defBody s_Ditch___init__, defScope s_Ditch___init__, [], []⟩
def d_Ditch_enter : He.DefD := ⟨("Ditch", some "enter"), "enter", "Ditch.enter", defArgs s_Ditch_enter, defBody s_Ditch_enter, defScope s_Ditch_enter, [], []⟩
def d_Ditch_do : He.DefD := ⟨("Ditch", some "do"), "do", "Ditch.do", defArgs s_Ditch_do, defBody s_Ditch_do, defScope s_Ditch_do, [], []⟩
def d_Ditch_settle : He.DefD := ⟨("Ditch", some "settle"), "settle", "Ditch.settle", defArgs s_Ditch_settle, defBody s_Ditch_settle, defScope s_Ditch_settle, [], []⟩
def d_Ditch_sell : He.DefD := ⟨("Ditch", some "sell"), "sell", "Ditch.sell", defArgs s_Ditch_sell, defBody s_Ditch_sell, defScope s_Ditch_sell, [], []⟩
def d_Ditch_lend : He.DefD := ⟨("Ditch", some "lend"), "lend", "Ditch.lend", defArgs s_Ditch_lend, defBody s_Ditch_lend, defScope s_Ditch_lend, [], []⟩
def d_Ditch_leave : He.DefD := ⟨("Ditch", some "leave"), "leave", "Ditch.leave", defArgs s_Ditch_leave, defBody s_Ditch_leave, defScope s_Ditch_leave, [], []⟩
def d_Ditch_hour : He.DefD := ⟨("Ditch", some "hour"), "hour", "Ditch.hour", defArgs s_Ditch_hour, defBody s_Ditch_hour, defScope s_Ditch_hour, [], []⟩
def d_Ditch_lose : He.DefD := ⟨("Ditch", some "lose"), "lose", "Ditch.lose", defArgs s_Ditch_lose, defBody s_Ditch_lose, defScope s_Ditch_lose, [], []⟩
def d_Ditch_back : He.DefD := ⟨("Ditch", some "back"), "back", "Ditch.back", defArgs s_Ditch_back, defBody s_Ditch_back, defScope s_Ditch_back, [], []⟩
def d_Ditch_again : He.DefD := ⟨("Ditch", some "again"), "again", "Ditch.again", defArgs s_Ditch_again, defBody s_Ditch_again, defScope s_Ditch_again, [], []⟩
def d_Ditch_fields : He.DefD := ⟨("Ditch", some "fields"), "fields", "Ditch.fields", defArgs s_Ditch_fields, defBody s_Ditch_fields, defScope s_Ditch_fields, [], []⟩
def d_Ditch_owned : He.DefD := ⟨("Ditch", some "owned"), "owned", "Ditch.owned", defArgs s_Ditch_owned, defBody s_Ditch_owned, defScope s_Ditch_owned, [], []⟩
def d_Ditch_free : He.DefD := ⟨("Ditch", some "free"), "free", "Ditch.free", defArgs s_Ditch_free, defBody s_Ditch_free, defScope s_Ditch_free, [], []⟩
def d_Ditch_share : He.DefD := ⟨("Ditch", some "share"), "share", "Ditch.share", defArgs s_Ditch_share, defBody s_Ditch_share, defScope s_Ditch_share, [], []⟩
def d_Ditch_lag : He.DefD := ⟨("Ditch", some "lag"), "lag", "Ditch.lag", defArgs s_Ditch_lag, defBody s_Ditch_lag, defScope s_Ditch_lag, [], []⟩
def d_Ditch_lags : He.DefD := ⟨("Ditch", some "lags"), "lags", "Ditch.lags", defArgs s_Ditch_lags, defBody s_Ditch_lags, defScope s_Ditch_lags, [], []⟩
def d_Ditch_loans : He.DefD := ⟨("Ditch", some "loans"), "loans", "Ditch.loans", defArgs s_Ditch_loans, defBody s_Ditch_loans, defScope s_Ditch_loans, [], []⟩
def d_Ditch_given : He.DefD := ⟨("Ditch", some "given"), "given", "Ditch.given", defArgs s_Ditch_given, defBody s_Ditch_given, defScope s_Ditch_given, [], []⟩
def d_Ditch_due : He.DefD := ⟨("Ditch", some "due"), "due", "Ditch.due", defArgs s_Ditch_due, defBody s_Ditch_due, defScope s_Ditch_due, [], []⟩
def d__law_flow : He.DefD := ⟨("_law_flow", none), "_law_flow", "_law_flow", defArgs s__law_flow, defBody s__law_flow, defScope s__law_flow, [], []⟩
def d__law_low : He.DefD := ⟨("_law_low", none), "_law_low", "_law_low", defArgs s__law_low, defBody s__law_low, defScope s__law_low, [], []⟩
def d__law_add : He.DefD := ⟨("_law_add", none), "_law_add", "_law_add", defArgs s__law_add, defBody s__law_add, defScope s__law_add, [], []⟩
def d__law_mul : He.DefD := ⟨("_law_mul", none), "_law_mul", "_law_mul", defArgs s__law_mul, defBody s__law_mul, defScope s__law_mul, [], []⟩
def d__law_less : He.DefD := ⟨("_law_less", none), "_law_less", "_law_less", defArgs s__law_less, defBody s__law_less, defScope s__law_less, [], []⟩
def d__law_sum : He.DefD := ⟨("_law_sum", none), "_law_sum", "_law_sum", defArgs s__law_sum, defBody s__law_sum, defScope s__law_sum, [], []⟩
def d__law_most : He.DefD := ⟨("_law_most", none), "_law_most", "_law_most", defArgs s__law_most, defBody s__law_most, defScope s__law_most, [], []⟩
def d__law_falling : He.DefD := ⟨("_law_falling", none), "_law_falling", "_law_falling", defArgs s__law_falling, defBody s__law_falling, defScope s__law_falling, [], []⟩
def d__law_keeps : He.DefD := ⟨("_law_keeps", none), "_law_keeps", "_law_keeps", defArgs s__law_keeps, defBody s__law_keeps, defScope s__law_keeps, [], []⟩
def d__law_pool : He.DefD := ⟨("_law_pool", none), "_law_pool", "_law_pool", defArgs s__law_pool, defBody s__law_pool, defScope s__law_pool, [], []⟩
def d_law : He.DefD := ⟨("law", none), "law", "law", defArgs s_law, defBody s_law, defScope s_law, [], []⟩
def fn0 : List He.DefD := [d_common, d_lowest, d_plus, d_minus, d_times, d_below, d_raised, d_turn_of, d_dealt, d_Moment___init__, d_like, d_begun, d_place_of, d_opposite, d_added, d_joined, d_endowed, d_entrusted, d_passed, d_watered, d_is_name, d_check_new_name, d_check_room, d_check_trade, d_check_free, d_settled, d_sold, d_lent, d_check_heirs, d_left]
def fn1 : List He.DefD := [d_given_to, d_dried, d_behind_deed, d_Ditch___init__, d_Ditch_enter, d_Ditch_do, d_Ditch_settle, d_Ditch_sell, d_Ditch_lend, d_Ditch_leave, d_Ditch_hour, d_Ditch_lose, d_Ditch_back, d_Ditch_again, d_Ditch_fields, d_Ditch_owned, d_Ditch_free, d_Ditch_share, d_Ditch_lag, d_Ditch_lags, d_Ditch_loans, d_Ditch_given, d_Ditch_due, d__law_flow, d__law_low, d__law_add, d__law_mul, d__law_less, d__law_sum, d__law_most]
def fn2 : List He.DefD := [d__law_falling, d__law_keeps, d__law_pool, d_law]
def fnL : List He.DefD := fn0 ++ (fn1 ++ (fn2))
def fa0 : List He.Fa := [.glo "common", .glo "lowest", .glo "plus", .glo "minus", .glo "times", .glo "below", .glo "raised", .glo "turn_of", .glo "dealt", .glo "like", .glo "begun", .glo "place_of", .glo "opposite", .glo "added", .glo "joined", .glo "endowed", .glo "entrusted", .glo "passed", .glo "watered", .glo "is_name", .glo "check_new_name", .glo "check_room", .glo "check_trade", .glo "check_free", .glo "settled", .glo "sold", .glo "lent", .glo "check_heirs", .glo "left", .glo "given_to"]
def fa1 : List He.Fa := [.glo "dried", .glo "behind_deed", .glo "_law_flow", .glo "_law_low", .glo "_law_add", .glo "_law_mul", .glo "_law_less", .glo "_law_sum", .glo "_law_most", .glo "_law_falling", .glo "_law_keeps", .glo "_law_pool", .glo "law", .free "abs", .free "len", .free "range", .free "int", .free "tuple", .free "list", .free "all", .free "any", .free "sum", .free "zip", .free "enumerate", .free "ValueError", .glo "Moment", .cls "Moment", .mkr "Moment", .noat "Moment" "order", .noat "Moment" "holdings"]
def fa2 : List He.Fa := [.noat "Moment" "frees", .noat "Moment" "portions", .noat "Moment" "arrears", .noat "Moment" "counts", .noat "Moment" "debts", .noat "Moment" "wet", .noat "Moment" "dry", .glo "Ditch", .cls "Ditch", .mkr "Ditch", .noat "Ditch" "now", .noat "Ditch" "past", .noat "Ditch" "undone", .meth "Moment" "__init__", .meth "Ditch" "__init__", .meth "Ditch" "enter", .meth "Ditch" "do", .meth "Ditch" "settle", .meth "Ditch" "sell", .meth "Ditch" "lend", .meth "Ditch" "leave", .meth "Ditch" "hour", .meth "Ditch" "lose", .meth "Ditch" "back", .meth "Ditch" "again", .meth "Ditch" "fields", .meth "Ditch" "owned", .meth "Ditch" "free", .meth "Ditch" "share", .meth "Ditch" "lag"]
def fa3 : List He.Fa := [.meth "Ditch" "lags", .meth "Ditch" "loans", .meth "Ditch" "given", .meth "Ditch" "due", .glo "DitchError", .exc "DitchError", .glo "BadName", .exc "BadName", .exm "BadName" "DitchError" true, .glo "Taken", .exc "Taken", .exm "Taken" "DitchError" true, .glo "Full", .exc "Full", .exm "Full" "DitchError" true, .glo "NoField", .exc "NoField", .exm "NoField" "DitchError" true, .glo "Same", .exc "Same", .exm "Same" "DitchError" true, .glo "NoPart", .exc "NoPart", .exm "NoPart" "DitchError" true, .glo "TooMuch", .exc "TooMuch", .exm "TooMuch" "DitchError" true, .glo "NoHours", .exc "NoHours", .exm "NoHours" "DitchError" true]
def fa4 : List He.Fa := [.glo "NoHeirs", .exc "NoHeirs", .exm "NoHeirs" "DitchError" true, .glo "NoWeight", .exc "NoWeight", .exm "NoWeight" "DitchError" true, .glo "WrongTurn", .exc "WrongTurn", .exm "WrongTurn" "DitchError" true, .glo "NothingLeft", .exc "NothingLeft", .exm "NothingLeft" "DitchError" true, .glo "NOUGHT", .glo "WHOLE", .str "LETTERS" "abcdefghijklmnopqrstuvwxyz", .int "LONGEST_NAME" 8, .int "MOST_FIELDS" 24, .int "MOST_HOURS" 999, .int "MOST_WEIGHT" 999999, .glo "WAYS"]
def faL : List He.Fa := fa0 ++ (fa1 ++ (fa2 ++ (fa3 ++ (fa4))))
def ls0 : List PySem.Str := ["_wall", "DitchError", "BadName", "Taken", "Full", "NoField", "Same", "NoPart", "TooMuch", "NoHours", "NoHeirs", "NoWeight", "WrongTurn", "NothingLeft", "common", "lowest", "plus", "minus", "times", "below", "raised", "turn_of", "dealt", "NOUGHT", "WHOLE", "Moment", "like", "begun", "place_of", "opposite"]
def ls1 : List PySem.Str := ["added", "joined", "endowed", "entrusted", "passed", "watered", "LETTERS", "LONGEST_NAME", "is_name", "MOST_FIELDS", "MOST_HOURS", "MOST_WEIGHT", "check_new_name", "check_room", "check_trade", "check_free", "settled", "sold", "lent", "check_heirs", "left", "given_to", "dried", "WAYS", "behind_deed", "Ditch", "_law_flow", "_law_low", "_law_add", "_law_mul"]
def ls2 : List PySem.Str := ["_law_less", "_law_sum", "_law_most", "_law_falling", "_law_keeps", "_law_pool"]
def looseL : List PySem.Str := ls0 ++ (ls1 ++ (ls2))
def tsL : List He.Tab := [(fun K => He.ga K "WAYS", ["settle", "sell", "lend", "leave", "hour", "lose"])]
def exL (K : PySem.W.Frag) : Bool := He.tupB K "NOUGHT" [.int 0, .int 1] && (He.tupB K "WHOLE" [.int 1, .int 1] && (excCB K "DitchError" && (excCB K "BadName" && (excCB K "Taken" && (excCB K "Full" && (excCB K "NoField" && (excCB K "Same" && (excCB K "NoPart" && (excCB K "TooMuch" && (excCB K "NoHours" && (excCB K "NoHeirs" && (excCB K "NoWeight" && (excCB K "WrongTurn" && (excCB K "NothingLeft" && (decide (PySem.W.kitOne K (.ref (He.ga K "BadName")) (.ref (He.ga K "BadName")) = some true) && (decide (PySem.W.kitOne K (.ref (He.ga K "BadName")) (.ref (He.ga K "Taken")) = some false) && (decide (PySem.W.kitOne K (.ref (He.ga K "BadName")) (.ref (He.ga K "Full")) = some false) && (decide (PySem.W.kitOne K (.ref (He.ga K "BadName")) (.ref (He.ga K "NoField")) = some false) && (decide (PySem.W.kitOne K (.ref (He.ga K "BadName")) (.ref (He.ga K "Same")) = some false) && (decide (PySem.W.kitOne K (.ref (He.ga K "BadName")) (.ref (He.ga K "NoPart")) = some false) && (decide (PySem.W.kitOne K (.ref (He.ga K "BadName")) (.ref (He.ga K "NoHours")) = some false) && (decide (PySem.W.kitOne K (.ref (He.ga K "BadName")) (.ref (He.ga K "TooMuch")) = some false) && (decide (PySem.W.kitOne K (.ref (He.ga K "BadName")) (.ref (He.ga K "NoHeirs")) = some false) && (decide (PySem.W.kitOne K (.ref (He.ga K "BadName")) (.ref (He.ga K "NoWeight")) = some false) && (decide (PySem.W.kitOne K (.ref (He.ga K "Taken")) (.ref (He.ga K "BadName")) = some false) && (decide (PySem.W.kitOne K (.ref (He.ga K "Taken")) (.ref (He.ga K "Taken")) = some true) && (decide (PySem.W.kitOne K (.ref (He.ga K "Taken")) (.ref (He.ga K "Full")) = some false) && (decide (PySem.W.kitOne K (.ref (He.ga K "Taken")) (.ref (He.ga K "NoField")) = some false) && (decide (PySem.W.kitOne K (.ref (He.ga K "Taken")) (.ref (He.ga K "Same")) = some false) && (decide (PySem.W.kitOne K (.ref (He.ga K "Taken")) (.ref (He.ga K "NoPart")) = some false) && (decide (PySem.W.kitOne K (.ref (He.ga K "Taken")) (.ref (He.ga K "NoHours")) = some false) && (decide (PySem.W.kitOne K (.ref (He.ga K "Taken")) (.ref (He.ga K "TooMuch")) = some false) && (decide (PySem.W.kitOne K (.ref (He.ga K "Taken")) (.ref (He.ga K "NoHeirs")) = some false) && (decide (PySem.W.kitOne K (.ref (He.ga K "Taken")) (.ref (He.ga K "NoWeight")) = some false) && (decide (PySem.W.kitOne K (.ref (He.ga K "Full")) (.ref (He.ga K "BadName")) = some false) && (decide (PySem.W.kitOne K (.ref (He.ga K "Full")) (.ref (He.ga K "Taken")) = some false) && (decide (PySem.W.kitOne K (.ref (He.ga K "Full")) (.ref (He.ga K "Full")) = some true) && (decide (PySem.W.kitOne K (.ref (He.ga K "Full")) (.ref (He.ga K "NoField")) = some false) && (decide (PySem.W.kitOne K (.ref (He.ga K "Full")) (.ref (He.ga K "Same")) = some false) && (decide (PySem.W.kitOne K (.ref (He.ga K "Full")) (.ref (He.ga K "NoPart")) = some false) && (decide (PySem.W.kitOne K (.ref (He.ga K "Full")) (.ref (He.ga K "NoHours")) = some false) && (decide (PySem.W.kitOne K (.ref (He.ga K "Full")) (.ref (He.ga K "TooMuch")) = some false) && (decide (PySem.W.kitOne K (.ref (He.ga K "Full")) (.ref (He.ga K "NoHeirs")) = some false) && (decide (PySem.W.kitOne K (.ref (He.ga K "Full")) (.ref (He.ga K "NoWeight")) = some false) && (decide (PySem.W.kitOne K (.ref (He.ga K "NoField")) (.ref (He.ga K "BadName")) = some false) && (decide (PySem.W.kitOne K (.ref (He.ga K "NoField")) (.ref (He.ga K "Taken")) = some false) && (decide (PySem.W.kitOne K (.ref (He.ga K "NoField")) (.ref (He.ga K "Full")) = some false) && (decide (PySem.W.kitOne K (.ref (He.ga K "NoField")) (.ref (He.ga K "NoField")) = some true) && (decide (PySem.W.kitOne K (.ref (He.ga K "NoField")) (.ref (He.ga K "Same")) = some false) && (decide (PySem.W.kitOne K (.ref (He.ga K "NoField")) (.ref (He.ga K "NoPart")) = some false) && (decide (PySem.W.kitOne K (.ref (He.ga K "NoField")) (.ref (He.ga K "NoHours")) = some false) && (decide (PySem.W.kitOne K (.ref (He.ga K "NoField")) (.ref (He.ga K "TooMuch")) = some false) && (decide (PySem.W.kitOne K (.ref (He.ga K "NoField")) (.ref (He.ga K "NoHeirs")) = some false) && (decide (PySem.W.kitOne K (.ref (He.ga K "NoField")) (.ref (He.ga K "NoWeight")) = some false) && (decide (PySem.W.kitOne K (.ref (He.ga K "Same")) (.ref (He.ga K "BadName")) = some false) && (decide (PySem.W.kitOne K (.ref (He.ga K "Same")) (.ref (He.ga K "Taken")) = some false) && (decide (PySem.W.kitOne K (.ref (He.ga K "Same")) (.ref (He.ga K "Full")) = some false) && (decide (PySem.W.kitOne K (.ref (He.ga K "Same")) (.ref (He.ga K "NoField")) = some false) && (decide (PySem.W.kitOne K (.ref (He.ga K "Same")) (.ref (He.ga K "Same")) = some true) && (decide (PySem.W.kitOne K (.ref (He.ga K "Same")) (.ref (He.ga K "NoPart")) = some false) && (decide (PySem.W.kitOne K (.ref (He.ga K "Same")) (.ref (He.ga K "NoHours")) = some false) && (decide (PySem.W.kitOne K (.ref (He.ga K "Same")) (.ref (He.ga K "TooMuch")) = some false) && (decide (PySem.W.kitOne K (.ref (He.ga K "Same")) (.ref (He.ga K "NoHeirs")) = some false) && (decide (PySem.W.kitOne K (.ref (He.ga K "Same")) (.ref (He.ga K "NoWeight")) = some false) && (decide (PySem.W.kitOne K (.ref (He.ga K "NoPart")) (.ref (He.ga K "BadName")) = some false) && (decide (PySem.W.kitOne K (.ref (He.ga K "NoPart")) (.ref (He.ga K "Taken")) = some false) && (decide (PySem.W.kitOne K (.ref (He.ga K "NoPart")) (.ref (He.ga K "Full")) = some false) && (decide (PySem.W.kitOne K (.ref (He.ga K "NoPart")) (.ref (He.ga K "NoField")) = some false) && (decide (PySem.W.kitOne K (.ref (He.ga K "NoPart")) (.ref (He.ga K "Same")) = some false) && (decide (PySem.W.kitOne K (.ref (He.ga K "NoPart")) (.ref (He.ga K "NoPart")) = some true) && (decide (PySem.W.kitOne K (.ref (He.ga K "NoPart")) (.ref (He.ga K "NoHours")) = some false) && (decide (PySem.W.kitOne K (.ref (He.ga K "NoPart")) (.ref (He.ga K "TooMuch")) = some false) && (decide (PySem.W.kitOne K (.ref (He.ga K "NoPart")) (.ref (He.ga K "NoHeirs")) = some false) && (decide (PySem.W.kitOne K (.ref (He.ga K "NoPart")) (.ref (He.ga K "NoWeight")) = some false) && (decide (PySem.W.kitOne K (.ref (He.ga K "NoHours")) (.ref (He.ga K "BadName")) = some false) && (decide (PySem.W.kitOne K (.ref (He.ga K "NoHours")) (.ref (He.ga K "Taken")) = some false) && (decide (PySem.W.kitOne K (.ref (He.ga K "NoHours")) (.ref (He.ga K "Full")) = some false) && (decide (PySem.W.kitOne K (.ref (He.ga K "NoHours")) (.ref (He.ga K "NoField")) = some false) && (decide (PySem.W.kitOne K (.ref (He.ga K "NoHours")) (.ref (He.ga K "Same")) = some false) && (decide (PySem.W.kitOne K (.ref (He.ga K "NoHours")) (.ref (He.ga K "NoPart")) = some false) && (decide (PySem.W.kitOne K (.ref (He.ga K "NoHours")) (.ref (He.ga K "NoHours")) = some true) && (decide (PySem.W.kitOne K (.ref (He.ga K "NoHours")) (.ref (He.ga K "TooMuch")) = some false) && (decide (PySem.W.kitOne K (.ref (He.ga K "NoHours")) (.ref (He.ga K "NoHeirs")) = some false) && (decide (PySem.W.kitOne K (.ref (He.ga K "NoHours")) (.ref (He.ga K "NoWeight")) = some false) && (decide (PySem.W.kitOne K (.ref (He.ga K "TooMuch")) (.ref (He.ga K "BadName")) = some false) && (decide (PySem.W.kitOne K (.ref (He.ga K "TooMuch")) (.ref (He.ga K "Taken")) = some false) && (decide (PySem.W.kitOne K (.ref (He.ga K "TooMuch")) (.ref (He.ga K "Full")) = some false) && (decide (PySem.W.kitOne K (.ref (He.ga K "TooMuch")) (.ref (He.ga K "NoField")) = some false) && (decide (PySem.W.kitOne K (.ref (He.ga K "TooMuch")) (.ref (He.ga K "Same")) = some false) && (decide (PySem.W.kitOne K (.ref (He.ga K "TooMuch")) (.ref (He.ga K "NoPart")) = some false) && (decide (PySem.W.kitOne K (.ref (He.ga K "TooMuch")) (.ref (He.ga K "NoHours")) = some false) && (decide (PySem.W.kitOne K (.ref (He.ga K "TooMuch")) (.ref (He.ga K "TooMuch")) = some true) && (decide (PySem.W.kitOne K (.ref (He.ga K "TooMuch")) (.ref (He.ga K "NoHeirs")) = some false) && (decide (PySem.W.kitOne K (.ref (He.ga K "TooMuch")) (.ref (He.ga K "NoWeight")) = some false) && (decide (PySem.W.kitOne K (.ref (He.ga K "NoHeirs")) (.ref (He.ga K "BadName")) = some false) && (decide (PySem.W.kitOne K (.ref (He.ga K "NoHeirs")) (.ref (He.ga K "Taken")) = some false) && (decide (PySem.W.kitOne K (.ref (He.ga K "NoHeirs")) (.ref (He.ga K "Full")) = some false) && (decide (PySem.W.kitOne K (.ref (He.ga K "NoHeirs")) (.ref (He.ga K "NoField")) = some false) && (decide (PySem.W.kitOne K (.ref (He.ga K "NoHeirs")) (.ref (He.ga K "Same")) = some false) && (decide (PySem.W.kitOne K (.ref (He.ga K "NoHeirs")) (.ref (He.ga K "NoPart")) = some false) && (decide (PySem.W.kitOne K (.ref (He.ga K "NoHeirs")) (.ref (He.ga K "NoHours")) = some false) && (decide (PySem.W.kitOne K (.ref (He.ga K "NoHeirs")) (.ref (He.ga K "TooMuch")) = some false) && (decide (PySem.W.kitOne K (.ref (He.ga K "NoHeirs")) (.ref (He.ga K "NoHeirs")) = some true) && (decide (PySem.W.kitOne K (.ref (He.ga K "NoHeirs")) (.ref (He.ga K "NoWeight")) = some false) && (decide (PySem.W.kitOne K (.ref (He.ga K "NoWeight")) (.ref (He.ga K "BadName")) = some false) && (decide (PySem.W.kitOne K (.ref (He.ga K "NoWeight")) (.ref (He.ga K "Taken")) = some false) && (decide (PySem.W.kitOne K (.ref (He.ga K "NoWeight")) (.ref (He.ga K "Full")) = some false) && (decide (PySem.W.kitOne K (.ref (He.ga K "NoWeight")) (.ref (He.ga K "NoField")) = some false) && (decide (PySem.W.kitOne K (.ref (He.ga K "NoWeight")) (.ref (He.ga K "Same")) = some false) && (decide (PySem.W.kitOne K (.ref (He.ga K "NoWeight")) (.ref (He.ga K "NoPart")) = some false) && (decide (PySem.W.kitOne K (.ref (He.ga K "NoWeight")) (.ref (He.ga K "NoHours")) = some false) && (decide (PySem.W.kitOne K (.ref (He.ga K "NoWeight")) (.ref (He.ga K "TooMuch")) = some false) && (decide (PySem.W.kitOne K (.ref (He.ga K "NoWeight")) (.ref (He.ga K "NoHeirs")) = some false) && (decide (PySem.W.kitOne K (.ref (He.ga K "NoWeight")) (.ref (He.ga K "NoWeight")) = some true) && (decide (PySem.W.nsIn K (He.ga K "WAYS") "settle" = some (some (.ref (He.ga K "settled")))) && (decide (PySem.W.nsIn K (He.ga K "WAYS") "sell" = some (some (.ref (He.ga K "sold")))) && (decide (PySem.W.nsIn K (He.ga K "WAYS") "lend" = some (some (.ref (He.ga K "lent")))) && (decide (PySem.W.nsIn K (He.ga K "WAYS") "leave" = some (some (.ref (He.ga K "left")))) && (decide (PySem.W.nsIn K (He.ga K "WAYS") "hour" = some (some (.ref (He.ga K "given_to")))) && (decide (PySem.W.nsIn K (He.ga K "WAYS") "lose" = some (some (.ref (He.ga K "dried")))) && (true)))))))))))))))))))))))))))))))))))))))))))))))))))))))))))))))))))))))))))))))))))))))))))))))))))))))))))))))))))))))))
abbrev R : PySem.W.OpenRow := PySem.W.OpenLaw.row PySem.Challenge.rw_ditchturn_k56_whole_foe_in_a_ditch
abbrev hkZ : PySem.W.Hook := hookM faL fnL tsL exL
def ob (s : PySem.W.SharedT) : AlM := obsM faL fnL tsL exL (HandSHeadRun.getT s)
theorem ob_eq (s : PySem.W.SharedT) : ob s = hkZ.obs s.abs := obsM_eq (HandSHeadRun.getT_eq s)
theorem run0 (w : World) : HandSHeadRun.RunEq R (PySem.W.view R.prog [74]) hkZ ob 30000 looseL (w.withFollow "special-get-raises" false) := by
  intro os; kernel_rfl
theorem run1 (w : World) : HandSHeadRun.RunEq R (PySem.W.view R.prog [74]) hkZ ob 30000 looseL (w.withFollow "special-get-raises" true) := by
  intro os; kernel_rfl
theorem run (w : World) : HandSHeadRun.RunEq R (PySem.W.view R.prog [74]) hkZ ob 30000 looseL w :=
  PySem.W.byRow2 "special-get-raises" (P := fun w => HandSHeadRun.RunEq R (PySem.W.view R.prog [74]) hkZ ob 30000 looseL w) run0 run1 w
end DT

namespace DT
/-! ### numbers: gcd, lowest terms -/
def gc (a b : Int) : Int := (Int.gcd a b : Int)
structure Low (a b : Int) : Prop where
  pos : 0 < b
  cop : Int.gcd a b = 1
theorem gc_pos {a b : Int} (h : 0 < b) : 0 < gc a b := by
  have : Int.gcd a b ≠ 0 := by
    intro e
    have := (Int.gcd_eq_zero_iff).1 e
    omega
  unfold gc
  omega
theorem gc_dl (a b : Int) : gc a b ∣ a := Int.gcd_dvd_left a b
theorem gc_dr (a b : Int) : gc a b ∣ b := Int.gcd_dvd_right a b
theorem gc_le {a b : Int} (h : 0 < b) : gc a b ≤ b := Int.le_of_dvd h (gc_dr a b)
theorem gc_step {a b : Int} : Int.gcd b (a % b) = Int.gcd a b := by
  rw [Int.emod_def, Int.gcd_comm a b]
  have := Int.gcd_add_mul_right_right b a (-(a / b))
  rw [← this]
  congr 1
  rw [Int.neg_mul, Int.mul_comm (a / b) b]
  omega
theorem gc_abs (a b : Int) : Int.gcd (if a < 0 then -a else a) b = Int.gcd a b := by
  split
  · exact Int.neg_gcd
  · rfl
theorem div_pos' {b g : Int} (hb : 0 < b) (hg : 0 < g) (hd : g ∣ b) : 0 < b / g := by
  obtain ⟨q, rfl⟩ := hd
  rw [Int.mul_ediv_cancel_left q (by omega)]
  exact Int.pos_of_mul_pos_right hb (by omega)
theorem low_div {a b : Int} (h : 0 < b) : Low (a / gc a b) (b / gc a b) := by
  have hg := gc_pos (a := a) h
  refine ⟨div_pos' h hg (gc_dr a b), ?_⟩
  have hn : 0 < Int.gcd a b := by
    have := hg
    unfold gc at this
    omega
  have e := Int.gcd_mul_left (gc a b) (a / gc a b) (b / gc a b)
  rw [Int.mul_ediv_cancel' (gc_dl a b), Int.mul_ediv_cancel' (gc_dr a b)] at e
  have e2 : (gc a b).natAbs = Int.gcd a b := by unfold gc; omega
  rw [e2] at e
  have : Int.gcd a b * 1 = Int.gcd a b * Int.gcd (a / gc a b) (b / gc a b) := by rw [← e, Nat.mul_one]
  exact (Nat.eq_of_mul_eq_mul_left hn this).symm
theorem low_cross (a b : Int) : (a / gc a b) * b = (b / gc a b) * a := by
  obtain ⟨p, hp⟩ := gc_dl a b
  obtain ⟨q, hq⟩ := gc_dr a b
  by_cases h0 : gc a b = 0
  · rw [h0] at hp hq
    rw [show a = 0 by omega, show b = 0 by omega]
  · have e1 : a / gc a b = p := Int.ediv_eq_of_eq_mul_right h0 hp
    have e2 : b / gc a b = q := Int.ediv_eq_of_eq_mul_right h0 hq
    rw [e1, e2]
    calc p * b = p * (gc a b * q) := by rw [← hq]
      _ = q * (gc a b * p) := by rw [Int.mul_left_comm, Int.mul_comm p q, Int.mul_left_comm q]
      _ = q * a := by rw [← hp]
theorem low_self {a b : Int} (h : Low a b) : a / gc a b = a ∧ b / gc a b = b := by
  have : gc a b = 1 := by unfold gc; rw [h.cop]; rfl
  rw [this, Int.ediv_one, Int.ediv_one]
  exact ⟨rfl, rfl⟩
theorem low_uniq {a b c d : Int} (h : Low a b) (k : Low c d) (e : a * d = c * b) : a = c ∧ b = d := by
  have h1 : b.natAbs ∣ d.natAbs := by
    have c1 : Nat.Coprime b.natAbs a.natAbs := by
      have := h.cop
      rw [Int.gcd_comm] at this
      exact this
    refine c1.dvd_of_dvd_mul_left (m := a.natAbs) (n := d.natAbs) ?_
    rw [← Int.natAbs_mul, e, Int.natAbs_mul]
    exact Nat.dvd_mul_left _ _
  have h2 : d.natAbs ∣ b.natAbs := by
    have c1 : Nat.Coprime d.natAbs c.natAbs := by
      have := k.cop
      rw [Int.gcd_comm] at this
      exact this
    refine c1.dvd_of_dvd_mul_left (m := c.natAbs) (n := b.natAbs) ?_
    rw [← Int.natAbs_mul, ← e, Int.natAbs_mul]
    exact Nat.dvd_mul_left _ _
  have hb := h.pos
  have hd := k.pos
  have e1 : b.natAbs = d.natAbs := Nat.dvd_antisymm h1 h2
  have e2 : b = d := by omega
  subst e2
  exact ⟨Int.eq_of_mul_eq_mul_right (by omega) e, rfl⟩
/-- the low form of a pair is told by any low pair worth the same -/
theorem low_is {a b c d : Int} (hd : 0 < d) (h : Low a b) (e : a * d = c * b) : a = c / gc c d ∧ b = d / gc c d := by
  refine low_uniq h (low_div hd) ?_
  obtain ⟨p, hp⟩ := gc_dl c d
  obtain ⟨q, hq⟩ := gc_dr c d
  have hg := gc_pos (a := c) hd
  have e1 : c / gc c d = p := Int.ediv_eq_of_eq_mul_right (by omega) hp
  have e2 : d / gc c d = q := Int.ediv_eq_of_eq_mul_right (by omega) hq
  rw [e1, e2]
  have e3 : gc c d * (a * q) = gc c d * (p * b) := by
    calc gc c d * (a * q) = a * (gc c d * q) := by rw [Int.mul_left_comm]
      _ = a * d := by rw [← hq]
      _ = c * b := e
      _ = gc c d * p * b := by rw [← hp]
      _ = gc c d * (p * b) := by rw [Int.mul_assoc]
  exact Int.eq_of_mul_eq_mul_left (by omega) e3
/-! ### the sum by crossing over what the bottoms share -/
theorem plus_low {a b c d : Int} (h : Low a b) (k : Low c d) :
    let s := gc b d
    let r := b / s
    let t := a * (d / s) + c * r
    let g := gc t s
    Low (t / g) (r * (d / g)) ∧ (t / g) * (b * d) = (a * d + c * b) * (r * (d / g)) := by
  intro s r t g
  have hb := h.pos
  have hd := k.pos
  have hs : 0 < s := gc_pos hd
  have hg : 0 < g := gc_pos hs
  obtain ⟨p, hp⟩ : s ∣ b := gc_dl b d
  obtain ⟨q, hq⟩ : s ∣ d := gc_dr b d
  have er : r = p := Int.ediv_eq_of_eq_mul_right (by omega) hp
  have eq : d / s = q := Int.ediv_eq_of_eq_mul_right (by omega) hq
  obtain ⟨u, hu⟩ : g ∣ t := gc_dl t s
  obtain ⟨v, hv⟩ : g ∣ s := gc_dr t s
  have eu : t / g = u := Int.ediv_eq_of_eq_mul_right (by omega) hu
  have ht : t = a * q + c * p := by
    show a * (d / s) + c * r = _
    rw [eq, er]
  have hgd : d = g * (v * q) := by rw [hq, ← Int.mul_assoc, ← hv]
  have ed : d / g = v * q := Int.ediv_eq_of_eq_mul_right (by omega) hgd
  have hp0 : 0 < p := Int.pos_of_mul_pos_right (hp ▸ hb) (by omega)
  have hq0 : 0 < q := Int.pos_of_mul_pos_right (hq ▸ hd) (by omega)
  have hv0 : 0 < v := Int.pos_of_mul_pos_right (hv ▸ hs) (by omega)
  rw [eu, er, ed]
  have cpq : Int.gcd p q = 1 := by
    have := (low_div (a := b) hd).cop
    rw [show b / gc b d = p from er, show d / gc b d = q from eq] at this
    exact this
  have cap : Nat.Coprime a.natAbs p.natAbs := by
    have c0 : Nat.Coprime a.natAbs b.natAbs := h.cop
    refine Nat.Coprime.coprime_dvd_right ?_ c0
    rw [hp, Int.natAbs_mul]
    exact Nat.dvd_mul_left _ _
  have ccq : Nat.Coprime c.natAbs q.natAbs := by
    have c0 : Nat.Coprime c.natAbs d.natAbs := k.cop
    refine Nat.Coprime.coprime_dvd_right ?_ c0
    rw [hq, Int.natAbs_mul]
    exact Nat.dvd_mul_left _ _
  have cqp : Nat.Coprime q.natAbs p.natAbs := by
    rw [Int.gcd_comm] at cpq
    exact cpq
  have ctp : Int.gcd t p = 1 := by
    rw [ht, Int.mul_comm c p, Int.gcd_add_mul_left_left]
    show Nat.Coprime (a * q).natAbs p.natAbs
    rw [Int.natAbs_mul]
    exact Nat.Coprime.mul_left cap cqp
  have ctq : Int.gcd t q = 1 := by
    rw [ht, Int.add_comm, Int.mul_comm a q, Int.gcd_add_mul_left_left]
    show Nat.Coprime (c * p).natAbs q.natAbs
    rw [Int.natAbs_mul]
    exact Nat.Coprime.mul_left ccq cpq
  have cuv : Int.gcd u v = 1 := by
    have := (low_div (a := t) hs).cop
    rw [show t / gc t s = u from eu, show s / gc t s = v from Int.ediv_eq_of_eq_mul_right (by omega) hv] at this
    exact this
  have ut : u.natAbs ∣ t.natAbs := by
    rw [hu, Int.natAbs_mul]
    exact Nat.dvd_mul_left _ _
  have cup : Nat.Coprime u.natAbs p.natAbs := Nat.Coprime.coprime_dvd_left ut ctp
  have cuq : Nat.Coprime u.natAbs q.natAbs := Nat.Coprime.coprime_dvd_left ut ctq
  refine ⟨⟨Int.mul_pos hp0 (Int.mul_pos hv0 hq0), ?_⟩, ?_⟩
  · show Nat.Coprime u.natAbs (p * (v * q)).natAbs
    rw [Int.natAbs_mul, Int.natAbs_mul]
    exact Nat.Coprime.mul_right cup (Nat.Coprime.mul_right cuv cuq)
  · have e1 : a * d + c * b = s * t := by
      rw [ht, Int.mul_add, ← Int.mul_assoc, ← Int.mul_assoc, Int.mul_comm s a, Int.mul_comm s c, Int.mul_assoc, Int.mul_assoc, ← hq, ← hp]
    rw [e1]
    calc u * (b * d) = u * ((s * p) * (g * (v * q))) := by rw [← hp, ← hgd]
      _ = s * (g * u) * (p * (v * q)) := by
        simp only [Int.mul_assoc, Int.mul_comm, Int.mul_left_comm]
      _ = s * t * (p * (v * q)) := by rw [← hu]
/-- the sum as the program reckons it is the low form of the sum by crossing -/
theorem plus_is {a b c d : Int} (h : Low a b) (k : Low c d) :
    let s := gc b d
    let r := b / s
    let t := a * (d / s) + c * r
    let g := gc t s
    t / g = (a * d + c * b) / gc (a * d + c * b) (b * d) ∧ r * (d / g) = (b * d) / gc (a * d + c * b) (b * d) := by
  intro s r t g
  obtain ⟨h1, h2⟩ := plus_low h k
  exact low_is (Int.mul_pos h.pos k.pos) h1 h2
end DT

namespace DT
open PySem PySem.Spec PyProof.Rows L2
/-! ### heaps that only grow; pairs of ints -/
theorem same_upd {H : Hp} {p : Addr} {o : HO} (h : H p = none) : Same H (upd H p o) := fun b x e => by
  rw [upd_ne (ne_of_none e h)]
  exact e
theorem same_seqT {K : PySem.W.Frag} {H H' : Hp} {a : Addr} {xs : List V} (e : Same H H') (h : SqT K H a xs) : SqT K H' a xs := by
  rcases h with h | h
  · rcases h with h | ⟨o, h⟩
    · exact .inl (.inl (e _ _ h))
    · exact .inl (.inr ⟨o, e _ _ h⟩)
  · exact .inr h
/-- v is a tuple of the ints a and b -/
def Pr (K : PySem.W.Frag) (H : Hp) (v : V) (a b : Int) : Prop := ∃ p, v = .ref p ∧ SqT K H p [.int a, .int b]
theorem Pr.same {K : PySem.W.Frag} {H H' : Hp} {v : V} {a b : Int} (h : Pr K H v a b) (e : Same H H') : Pr K H' v a b := by
  obtain ⟨p, r, q⟩ := h
  exact ⟨p, r, same_seqT e q⟩
theorem Pr.new {K : PySem.W.Frag} {H : Hp} {p : Addr} {a b : Int} : Pr K (upd H p (.tup [.int a, .int b])) (.ref p) a b := ⟨p, rfl, SqT.of upd_same⟩
theorem sqT_ty {K : PySem.W.Frag} {H : Hp} {a : Addr} {xs : List V} (h : SqT K H a xs) : TyX K H (.ref a) (.type "tuple") := by
  rcases h with (h | ⟨o, h⟩) | ⟨o, its, n, h, c, _⟩
  · exact .base (.tup h)
  · exact .fTuple h
  · exact .kTuple h c
theorem Pr.dp {K : PySem.W.Frag} {H : Hp} {v : V} {a b : Int} (h : Pr K H v a b) : Dp K H v (.tuple [.int a, .int b]) := by
  obtain ⟨p, rfl, q⟩ := h
  exact .tup q (.cons (.int a) (.cons (.int b) .nil))
/-- v is a new list of the ints rs -/
def Ls (H : Hp) (v : V) (rs : List Int) : Prop := ∃ p, v = .ref p ∧ H p = some (.lst (rs.map V.int))
theorem Ls.same {H H' : Hp} {v : V} {rs : List Int} (h : Ls H v rs) (e : Same H H') : Ls H' v rs := by
  obtain ⟨p, r, q⟩ := h
  exact ⟨p, r, e _ _ q⟩
theorem ls_at {rs : List Int} {j : Nat} (h : j < rs.length) : atI (rs.map V.int) (j : Int) = some (.int (rs.getD j 0)) := by
  refine atI_nat ?_
  rw [List.getElem?_map, List.getElem?_eq_getElem h]
  simp [List.getD, List.getElem?_eq_getElem h]
/-! ### sizes -/
def Bd (n : Nat) (x : Int) : Prop := x.natAbs < 2 ^ n
theorem Bd.mono {n m : Nat} {x : Int} (h : Bd n x) (e : n ≤ m) : Bd m x := Nat.lt_of_lt_of_le h (Nat.pow_le_pow_right (by decide) e)
theorem Bd.mul {n m : Nat} {x y : Int} (h : Bd n x) (k : Bd m y) : Bd (n + m) (x * y) := wide_lt h k
theorem Bd.add {n : Nat} {x y : Int} (h : Bd n x) (k : Bd n y) : Bd (n + 1) (x + y) := by
  unfold Bd at *
  have : (x + y).natAbs ≤ x.natAbs + y.natAbs := Int.natAbs_add_le x y
  rw [Nat.pow_succ]
  omega
theorem Bd.neg {n : Nat} {x : Int} (h : Bd n x) : Bd n (-x) := by
  unfold Bd at *
  omega
theorem Bd.dvd {n : Nat} {x y : Int} (h : Bd n x) (e : y ∣ x) (hx : x ≠ 0) : Bd n y :=
  Nat.lt_of_le_of_lt (Nat.le_of_dvd (by omega) (Int.natAbs_dvd_natAbs.2 e)) h
theorem Bd.div {n : Nat} {x y : Int} (h : Bd n x) (e : y ∣ x) : Bd n (x / y) := by
  unfold Bd at *
  rw [Int.natAbs_ediv_of_dvd e]
  exact Nat.lt_of_le_of_lt (Nat.div_le_self _ _) h
theorem Bd.gc {n : Nat} {x y : Int} (h : Bd n y) (hy : 0 < y) : Bd n (gc x y) := h.dvd (gc_dr x y) (by omega)
theorem Bd.of {n : Nat} {x m : Int} (h1 : -m < x) (h2 : x < m) (e : m.natAbs ≤ 2 ^ n) : Bd n x := by
  unfold Bd
  omega
theorem bd_mulok {n m : Nat} {x y : Int} (h : Bd n x) (k : Bd m y) (e : n + m ≤ 900000) : CMulW x y :=
  wide_mul (a := n + 1) (b := m + 1) (h.mono (by omega)) (k.mono (by omega)) (by omega) (by omega) (by omega)
theorem bd_divok {n : Nat} {x y : Int} (hy : 0 < y) (k : Bd n y) (e : n ≤ 8900) : CDivW x y := wide_div (b := n + 1) hy (k.mono (by omega)) (by omega) (by omega)
/-- a def of the text: where it stands, how it binds, what the module's name holds -/
structure Df (K : PySem.W.Frag) (mg : Str → Option Value) (x : Str) (st : Stmt) (ps : List Str) where
  f : Addr
  fd : FuncData
  F : Fun K x x st f fd
  b : Binds K fd ps []
  g : mg x = some (.ref f)
end DT
namespace DT
open PySem PySem.Spec PyProof.Rows L2
theorem ls_z {rs : List Int} {z : Int} (j : Nat) (e : z = (j : Int)) (h : j < rs.length) : atI (rs.map V.int) z = some (.int (rs.getD j 0)) := by
  rw [e]
  exact ls_at h
theorem getD_in {rs : List Int} {j : Nat} (h : j < rs.length) : rs.getD j 0 ∈ rs := by
  simp [List.getD, List.getElem?_eq_getElem h]
theorem eqv_pr (a b : Int) : PyData.eqv (.tuple [.int a, .int b]) (.tuple [.int a, .int b]) = true := by
  simp [PyData.eqv, PyData.eqvAll]
theorem shp_pr (a b : Int) : SeqAt.shaped (.tuple [.int a, .int b]) = true := by
  rfl
/-- the promise of a law: True for every script -/
def sp_law (K : PySem.W.Frag) : Sp := fun vs H Q _ => ∃ (a : Addr) (ns : List Int), vs = [.ref a] ∧ SqL K H a (ns.map V.int) ∧ ns.length ≤ 63 ∧ ∀ H', Q (.bl true) H'
end DT
namespace DT
theorem Bd.ediv {n : Nat} {x y : Int} (h : Bd n x) : Bd n (x / y) := Nat.lt_of_le_of_lt (Int.natAbs_ediv_le_natAbs x y) h
theorem Bd.emod {n : Nat} {x y : Int} (hy : 0 < y) (h : Bd n y) : Bd n (x % y) := by
  unfold Bd at *
  have := Int.emod_nonneg x (show y ≠ 0 by omega)
  have := Int.emod_lt_of_pos x hy
  omega
end DT
namespace DT
open PySem PySem.Spec PyProof.Rows L2
/-- a store at an address that was free to begin with -/
theorem same_at {H H1 : Hp} {p : Addr} {o : HO} (hp : H p = none) (sm : Same H H1) : Same H (upd H1 p o) := fun b x e => by
  rw [upd_ne (ne_of_none e hp)]
  exact sm _ _ e
/-- what list(..) of a list or tuple asks -/
def rLo (K : PySem.W.Frag) : List V → Hp → VK → Prop := fun xs H Q => ∃ p ys, xs = [.ref p] ∧ (SqL K H p ys ∨ SqT K H p ys) ∧ ∀ l, H l = none → Q (.ref l) (upd H l (.lst ys))
end DT

namespace DT
open PySem PySem.Spec PyProof.Rows L2
def sp_lowest (K : PySem.W.Frag) : Sp := fun vs H Q _ => ∃ t b : Int, vs = [.int t, .int b] ∧ 0 < b ∧ Bd 8900 b ∧ ∀ H' v, Same H H' → Pr K H' v (t / gc t b) (b / gc t b) → Q v H'
end DT

namespace DT
open PySem PySem.Spec PyProof.Rows L2
/-! ### pairs and their reckoning, as the law does it -/
abbrev Q2 := Int × Int
def lowP (t b : Int) : Q2 := (t / gc t b, b / gc t b)
def addP (x y : Q2) : Q2 := lowP (x.1 * y.2 + y.1 * x.2) (x.2 * y.2)
def subP (x y : Q2) : Q2 := lowP (x.1 * y.2 - y.1 * x.2) (x.2 * y.2)
def mulP (x y : Q2) : Q2 := lowP (x.1 * y.1) (x.2 * y.2)
def Pp (K : PySem.W.Frag) (H : Hp) (v : V) (x : Q2) : Prop := Pr K H v x.1 x.2
theorem Pp.same {K : PySem.W.Frag} {H H' : Hp} {v : V} {x : Q2} (h : Pp K H v x) (e : Same H H') : Pp K H' v x := Pr.same h e
/-- both terms below 2 ^ n, the bottom above nought -/
structure Ok (n : Nat) (x : Q2) : Prop where
  pos : 0 < x.2
  top : Bd n x.1
  bot : Bd n x.2
theorem Ok.mono {n m : Nat} {x : Q2} (h : Ok n x) (e : n ≤ m) : Ok m x := ⟨h.pos, h.top.mono e, h.bot.mono e⟩
theorem lowP_low {t b : Int} (h : 0 < b) : Low (lowP t b).1 (lowP t b).2 := low_div h
theorem lowP_ok {t b : Int} {n : Nat} (h : 0 < b) (h1 : Bd n t) (h2 : Bd n b) : Ok n (lowP t b) := ⟨(low_div h).pos, h1.div (gc_dl t b), h2.div (gc_dr t b)⟩
theorem addP_ok {x y : Q2} {n m : Nat} (h : Ok n x) (k : Ok m y) : Ok (n + m + 1) (addP x y) :=
  lowP_ok (Int.mul_pos h.pos k.pos) (Bd.add (h.top.mul k.bot) ((k.top.mul h.bot).mono (by omega))) ((h.bot.mul k.bot).mono (by omega))
theorem subP_ok {x y : Q2} {n m : Nat} (h : Ok n x) (k : Ok m y) : Ok (n + m + 1) (subP x y) := by
  unfold subP
  rw [Int.sub_eq_add_neg]
  exact lowP_ok (Int.mul_pos h.pos k.pos) (Bd.add (h.top.mul k.bot) ((k.top.mul h.bot).neg.mono (by omega))) ((h.bot.mul k.bot).mono (by omega))
theorem mulP_ok {x y : Q2} {n m : Nat} (h : Ok n x) (k : Ok m y) : Ok (n + m) (mulP x y) := lowP_ok (Int.mul_pos h.pos k.pos) (h.top.mul k.top) (h.bot.mul k.bot)
theorem addP_low {x y : Q2} (h : 0 < x.2) (k : 0 < y.2) : Low (addP x y).1 (addP x y).2 := low_div (Int.mul_pos h k)
/-- promise of a def that makes the pair f x y of two pairs -/
def sp_two (K : PySem.W.Frag) (C : Q2 → Q2 → Prop) (f : Q2 → Q2 → Q2) : Sp := fun vs H Q _ => ∃ (v u : V) (x y : Q2) (n m : Nat), vs = [v, u] ∧ Pp K H v x ∧ Pp K H u y ∧ Ok n x ∧ Ok m y ∧ n + m ≤ 8890 ∧ C x y ∧ ∀ H' r, Same H H' → Pp K H' r (f x y) → Q r H'
def anyC : Q2 → Q2 → Prop := fun _ _ => True
def lowC : Q2 → Q2 → Prop := fun x y => Low x.1 x.2 ∧ Low y.1 y.2
theorem len_two {K : PySem.W.Frag} {C : Q2 → Q2 → Prop} {f : Q2 → Q2 → Q2} {vs : List V} {H : Hp} {Q : VK} {E : XK} (h : sp_two K C f vs H Q E) : vs.length = 2 := by
  obtain ⟨v, u, x, y, n, m, rfl, _⟩ := h
  rfl
theorem low_neg {a b : Int} (h : Low a b) : Low (-a) b := ⟨h.pos, by rw [Int.neg_gcd]; exact h.cop⟩
theorem subP_eq (x y : Q2) : addP x (-y.1, y.2) = subP x y := by
  unfold addP subP
  show lowP (x.1 * y.2 + -y.1 * x.2) _ = _
  rw [Int.neg_mul, ← Int.sub_eq_add_neg]
theorem pp_eq {K : PySem.W.Frag} {H : Hp} {v u : V} {x : Q2} (h : Pp K H v x) (k : Pp K H u x) : ∃ d e, Dp K H v d ∧ Dp K H u e ∧ SeqAt.shaped d = true ∧ SeqAt.shaped e = true ∧ PyData.eqv d e = true :=
  ⟨_, _, Pr.dp h, Pr.dp k, shp_pr _ _, shp_pr _ _, eqv_pr _ _⟩
end DT
namespace DT
open PySem PySem.Spec PyProof.Rows L2
/-! ### sums of lists of pairs -/
def sumP (xs : List Q2) : Q2 := xs.foldl addP (0, 1)
inductive Pps (K : PySem.W.Frag) (H : Hp) : List V → List Q2 → Prop
  | nil : Pps K H [] []
  | cons {v : V} {vs : List V} {x : Q2} {xs : List Q2} : Pp K H v x → Pps K H vs xs → Pps K H (v :: vs) (x :: xs)
theorem Pps.len {K : PySem.W.Frag} {H : Hp} : ∀ {vs : List V} {xs : List Q2}, Pps K H vs xs → vs.length = xs.length
  | _, _, .nil => rfl
  | _, _, .cons _ t => congrArg (· + 1) t.len
theorem Pps.same {K : PySem.W.Frag} {H H' : Hp} (e : Same H H') : ∀ {vs : List V} {xs : List Q2}, Pps K H vs xs → Pps K H' vs xs
  | _, _, .nil => .nil
  | _, _, .cons h t => .cons (h.same e) (t.same e)
theorem Pps.snoc {K : PySem.W.Frag} {H : Hp} {v : V} {x : Q2} (h : Pp K H v x) : ∀ {vs : List V} {xs : List Q2}, Pps K H vs xs → Pps K H (vs ++ [v]) (xs ++ [x])
  | _, _, .nil => .cons h .nil
  | _, _, .cons g t => .cons g (t.snoc h)
theorem pps_get {K : PySem.W.Frag} {H : Hp} : ∀ {vs : List V} {xs : List Q2} {i : Nat} {z : V}, Pps K H vs xs → vs[i]? = some z → ∃ x, xs[i]? = some x ∧ Pp K H z x
  | _, _, 0, _, .cons h _, e => ⟨_, rfl, Option.some.inj e ▸ h⟩
  | _, _, i + 1, z, .cons (vs := vs) (xs := xs) _ t, e => by
    have r := pps_get (vs := vs) (i := i) (z := z) t (by simpa using e)
    simpa using r
theorem sumP_take {xs : List Q2} {i : Nat} {x : Q2} (h : xs[i]? = some x) : sumP (xs.take (i + 1)) = addP (sumP (xs.take i)) x := by
  unfold sumP
  rw [List.take_add_one, h, List.foldl_append]
  rfl
theorem sumP_ok0 : Ok (201 * (0 + 1)) (sumP []) := ⟨by decide, by unfold Bd; decide +kernel, by unfold Bd; decide +kernel⟩
theorem sumP_low0 : Low (sumP []).1 (sumP []).2 := ⟨by decide, rfl⟩
def lowS : Q2 → Prop := fun x => Low x.1 x.2
def anyS : Q2 → Prop := fun _ => True
def sp_sum (K : PySem.W.Frag) (C : Q2 → Prop) : Sp := fun vs H Q _ => ∃ (l : Addr) (us : List V) (xs : List Q2), vs = [.ref l] ∧ SqL K H l us ∧ Pps K H us xs ∧ (∀ x ∈ xs, Ok 200 x) ∧ xs.length ≤ 30 ∧ (∀ x ∈ xs, C x) ∧
  ∀ H' r, Same H H' → Pp K H' r (sumP xs) → Ok 6300 (sumP xs) → Low (sumP xs).1 (sumP xs).2 → Q r H'
end DT
namespace DT
open PySem PySem.Spec PyProof.Rows L2
def datP (x : Q2) : PyData := .tuple [.int x.1, .int x.2]
theorem Pps.dp {K : PySem.W.Frag} {H : Hp} : ∀ {vs : List V} {xs : List Q2}, Pps K H vs xs → DpAll K H vs (xs.map datP)
  | _, _, .nil => .nil
  | _, _, .cons h t => .cons (Pr.dp h) t.dp
theorem lay_ps : ∀ xs : List Q2, PyData.canLayAll0 (xs.map datP) = true
  | [] => by simp [PyData.canLayAll0]
  | x :: xs => by
    rw [List.map_cons]
    simp only [PyData.canLayAll0, lay_ps xs, datP, PyData.canLay0, Bool.and_self]
theorem dep_ps : ∀ xs : List Q2, PyData.depthAll (xs.map datP) ≤ 1
  | [] => by simp [PyData.depthAll]
  | x :: xs => by
    have ih := dep_ps xs
    rw [List.map_cons]
    simp only [PyData.depthAll, datP, PyData.depth] at ih ⊢
    omega
theorem shp_ps (xs : List Q2) : SeqAt.shaped (.list (xs.map datP)) = true := by
  have h1 := lay_ps xs
  have h2 := dep_ps xs
  unfold SeqAt.shaped
  rw [Bool.and_eq_true]
  refine ⟨by simp only [PyData.canLay0, h1], decide_eq_true ?_⟩
  simp only [PyData.depth]
  omega
theorem eqv_ps : ∀ xs : List Q2, PyData.eqvAll (xs.map datP) (xs.map datP) = true
  | [] => by simp [PyData.eqvAll]
  | x :: xs => by
    rw [List.map_cons]
    simp only [PyData.eqvAll, eqv_ps xs, Bool.and_true]
    exact eqv_pr x.1 x.2
theorem eqv_psL (xs : List Q2) : PyData.eqv (.list (xs.map datP)) (.list (xs.map datP)) = true := by
  simp only [PyData.eqv, eqv_ps xs]
end DT
namespace DT
open PySem PySem.Spec PyProof.Rows L2
/-- a store to a list leaves pairs that stand elsewhere -/
theorem Pp.off {K : PySem.W.Frag} {H H' : Hp} {v : V} {x : Q2} {D : Addr} {us : List V} (h : Pp K H v x) (e : ∀ b o, H b = some o → b ≠ D → H' b = some o) (hD : H D = some (.lst us)) : Pp K H' v x := by
  obtain ⟨p, rfl, q⟩ := h
  refine ⟨p, rfl, ?_⟩
  rcases q with q | q
  · rcases q with q | ⟨o, q⟩
    · exact .inl (.inl (e _ _ q (fun z => by rw [z, hD] at q; cases q)))
    · exact .inl (.inr ⟨o, e _ _ q (fun z => by rw [z, hD] at q; cases q)⟩)
  · exact .inr q
theorem Pps.off {K : PySem.W.Frag} {H H' : Hp} {D : Addr} {ws : List V} : ∀ {vs : List V} {xs : List Q2}, Pps K H vs xs → (∀ b o, H b = some o → b ≠ D → H' b = some o) → H D = some (.lst ws) → Pps K H' vs xs
  | _, _, .nil, _, _ => .nil
  | _, _, .cons h t, e, hD => .cons (h.off e hD) (t.off e hD)
end DT

namespace DT
open PySem PySem.Spec PyProof.Rows L2
/-- xs[i] of a list, 0 ≤ i, for xs[i] += e -/
theorem get_list {X : Cx} : PGet X (fun x y H Q => ∃ (p : Addr) (xs : List V) (i : Nat) (v : V), x = .ref p ∧ y = .int (i : Int) ∧ SqL X.K H p xs ∧ xs[i]? = some v ∧ Q v H) := by
  intro pins s σ H o i ov iv Q I ro ri h
  obtain ⟨p, xs, k, v, rfl, rfl, hq, hx, q⟩ := h
  cases ro
  obtain ⟨t, rfl⟩ := ri
  obtain ⟨its, r, pl, hz⟩ := I.list hq
  obtain ⟨w, ew, rw'⟩ := r.get hx
  have hk : k < xs.length := (List.getElem?_eq_some_iff.1 hx).1
  have hn := line63
  exact wpAny_getItem_list pl.isList (by omega) (by omega) (by simpa using ew) ⟨v, H, I, rw', q⟩
/-! ### lists of pairs, tracked -/
def LP (K : PySem.W.Frag) (H : Hp) (p : Addr) (xs : List Q2) : Prop := ∃ us, H p = some (.lst us) ∧ Pps K H us xs
theorem LP.same {K : PySem.W.Frag} {H H' : Hp} {p : Addr} {xs : List Q2} (h : LP K H p xs) (e : Same H H') : LP K H' p xs := by
  obtain ⟨us, h1, h2⟩ := h
  exact ⟨us, e _ _ h1, h2.same e⟩
/-- every pair in lowest terms and below 2 ^ n -/
def AllOk (n : Nat) (xs : List Q2) : Prop := ∀ x ∈ xs, Ok n x ∧ Low x.1 x.2
theorem AllOk.mono {n m : Nat} {xs : List Q2} (h : AllOk n xs) (e : n ≤ m) : AllOk m xs := fun x hx => ⟨(h x hx).1.mono e, (h x hx).2⟩
theorem AllOk.nil {n : Nat} : AllOk n [] := fun _ h => nomatch h
theorem AllOk.snoc {n : Nat} {xs : List Q2} {x : Q2} (h : AllOk n xs) (o : Ok n x) (l : Low x.1 x.2) : AllOk n (xs ++ [x]) := fun y hy => by
  rcases List.mem_append.1 hy with z | z
  · exact h y z
  · rw [List.mem_singleton.1 z]
    exact ⟨o, l⟩
/-- a list that grows by one pair, the pair's tuple anywhere -/
theorem pps_grow {K : PySem.W.Frag} {H : Hp} {D : Addr} {us : List V} {v : V} {xs : List Q2} {x : Q2} (hD : H D = some (.lst us)) (h : Pps K H us xs) (k : Pp K H v x) : Pps K (upd H D (.lst (us ++ [v]))) (us ++ [v]) (xs ++ [x]) := by
  have sd : ∀ b o, H b = some o → b ≠ D → upd H D (.lst (us ++ [v])) b = some o := fun b o e n => by
    rw [upd_ne n]
    exact e
  exact (h.off sd hD).snoc (k.off sd hD)
theorem pps_at {K : PySem.W.Frag} {H : Hp} {us : List V} {xs : List Q2} (h : Pps K H us xs) {i : Nat} {x : Q2} (e : xs[i]? = some x) : ∃ v, us[i]? = some v ∧ Pp K H v x := by
  have hi : i < us.length := by
    rw [h.len]
    exact (List.getElem?_eq_some_iff.1 e).1
  obtain ⟨y, ey, py⟩ := pps_get h (List.getElem?_eq_getElem hi)
  rw [e] at ey
  cases ey
  exact ⟨_, List.getElem?_eq_getElem hi, py⟩
/-- == of two lists of pairs -/
theorem eqv_iff : ∀ (xs ys : List Q2), PyData.eqvAll (xs.map datP) (ys.map datP) = decide (xs = ys)
  | [], [] => by simp [PyData.eqvAll]
  | [], y :: ys => by simp [PyData.eqvAll]
  | x :: xs, [] => by simp [PyData.eqvAll]
  | x :: xs, y :: ys => by
    rw [List.map_cons, List.map_cons]
    simp only [PyData.eqvAll, eqv_iff xs ys]
    obtain ⟨a, b⟩ := x
    obtain ⟨c, d⟩ := y
    simp only [datP, PyData.eqv, PyData.eqvAll, Bool.and_true]
    by_cases h1 : a = c <;> by_cases h2 : b = d <;> by_cases h3 : xs = ys <;> simp [h1, h2, h3]
/-- a list of ints -/
theorem sq_ints {K : PySem.W.Frag} {H : Hp} {p : Addr} {rs : List Int} (h : H p = some (.lst (rs.map V.int))) : SqL K H p (rs.map V.int) := SqL.of h
theorem cut_map (rs : List Int) (lo hi : Option Int) : cutV (rs.map V.int) lo hi = ((rs.drop (HT.sIx rs.length 0 lo)).take (HT.sIx rs.length rs.length hi - HT.sIx rs.length 0 lo)).map V.int := by
  unfold cutV
  rw [List.length_map, ← List.map_drop, ← List.map_take]
theorem cut_to (rs : List Int) (n : Nat) (h : n ≤ rs.length) : cutV (rs.map V.int) none (some (n : Int)) = (rs.take n).map V.int := by
  rw [cut_map, HT.sIx_none, HT.sIx_nat, List.drop_zero, Nat.sub_zero, Nat.min_eq_left h]
theorem cut_from (rs : List Int) (n : Nat) (h : n ≤ rs.length) : cutV (rs.map V.int) (some (n : Int)) none = (rs.drop n).map V.int := by
  rw [cut_map, HT.sIx_none, HT.sIx_nat, Nat.min_eq_left h]
  rw [List.take_of_length_le (by rw [List.length_drop]; omega)]
end DT
namespace DT
open PySem PySem.Spec PyProof.Rows L2
/-- a store to the list at D leaves the lists of pairs at other places -/
theorem LP.off {K : PySem.W.Frag} {H : Hp} {D p : Addr} {us vs : List V} {xs : List Q2} (h : LP K H p xs) (hD : H D = some (.lst us)) (n : p ≠ D) : LP K (upd H D (.lst vs)) p xs := by
  obtain ⟨ws, e, k⟩ := h
  refine ⟨ws, by rw [upd_ne n]; exact e, k.off (D := D) (fun b o eb nb => by rw [upd_ne nb]; exact eb) hD⟩
theorem LP.ne {K : PySem.W.Frag} {H H' : Hp} {p q : Addr} {xs : List Q2} (h : LP K H p xs) (n : H q = none) : p ≠ q := by
  obtain ⟨us, e, _⟩ := h
  exact ne_of_none e n
theorem LP.sq {K : PySem.W.Frag} {H : Hp} {p : Addr} {xs : List Q2} (h : LP K H p xs) : ∃ us, SqL K H p us ∧ us.length = xs.length ∧ Pps K H us xs := by
  obtain ⟨us, e, k⟩ := h
  exact ⟨us, SqL.of e, k.len, k⟩
theorem LP.dp {K : PySem.W.Frag} {H : Hp} {p : Addr} {xs : List Q2} (h : LP K H p xs) : Dp K H (.ref p) (.list (xs.map datP)) := by
  obtain ⟨us, e, k⟩ := h
  exact .lst (SqL.of e) k.dp
def dat2 (xs ys : List Q2) : PyData := .list [.list (xs.map datP), .list (ys.map datP)]
theorem shp_2 (xs ys : List Q2) : SeqAt.shaped (dat2 xs ys) = true := by
  have h1 := lay_ps xs
  have h2 := dep_ps xs
  have h3 := lay_ps ys
  have h4 := dep_ps ys
  unfold SeqAt.shaped dat2
  rw [Bool.and_eq_true]
  refine ⟨by simp only [PyData.canLay0, PyData.canLayAll0, h1, h3, Bool.and_self], decide_eq_true ?_⟩
  simp only [PyData.depth, PyData.depthAll]
  omega
theorem eqv_2 (xs ys : List Q2) : PyData.eqv (dat2 xs ys) (dat2 xs ys) = true := by
  unfold dat2
  simp only [PyData.eqv, PyData.eqvAll, eqv_ps, Bool.and_self]
end DT

namespace DT
open PySem PySem.Spec PyProof.Rows L2
theorem take_map {rs : List Int} {i : Nat} {r : Int} (h : rs[i]? = some r) (f : Int → Int) : ((rs.take i).map f).map V.int ++ [V.int (f r)] = ((rs.take (i + 1)).map f).map V.int := by
  rw [List.take_add_one, h]
  simp only [List.map_append, Option.toList_some, List.map_cons, List.map_nil]
theorem int_at {rs : List Int} {i : Nat} {x : V} (h : (rs.map V.int)[i]? = some x) : ∃ r, rs[i]? = some r ∧ x = .int r := by
  rw [List.getElem?_map] at h
  cases e : rs[i]? with
  | none => rw [e] at h; cases h
  | some r => rw [e] at h; exact ⟨r, rfl, (Option.some.inj h).symm⟩
/-! ### the first of the greatest -/
def lessP (x y : Q2) : Bool := decide (x.1 * y.2 < y.1 * x.2)
def itemP (xs : List Q2) (i : Nat) : Q2 := xs.getD i (0, 1)
def firstF (xs : List Q2) : Nat → Nat
  | 0 => 0
  | i + 1 => if lessP (itemP xs (firstF xs i)) (itemP xs i) = true then i else firstF xs i
def firstM (xs : List Q2) : Nat := firstF xs xs.length
theorem firstF_lt (xs : List Q2) : ∀ i, firstF xs i < max 1 i
  | 0 => by show 0 < max 1 0; omega
  | i + 1 => by
    have ih := firstF_lt xs i
    unfold firstF
    split <;> omega
theorem firstM_lt {xs : List Q2} (h : 0 < xs.length) : firstM xs < xs.length := by
  have := firstF_lt xs xs.length
  unfold firstM
  omega
theorem item_some {xs : List Q2} {i : Nat} (h : i < xs.length) : xs[i]? = some (itemP xs i) := by
  unfold itemP
  rw [List.getElem?_eq_getElem h]
  simp [List.getD, List.getElem?_eq_getElem h]
theorem item_ok {xs : List Q2} {n i : Nat} (h : AllOk n xs) (hi : i < xs.length) : Ok n (itemP xs i) ∧ Low (itemP xs i).1 (itemP xs i).2 := by
  refine h _ ?_
  exact List.mem_of_getElem? (item_some hi)
def sp_first (K : PySem.W.Frag) : Sp := fun vs H Q _ => ∃ (p : Addr) (xs : List Q2), vs = [.ref p] ∧ LP K H p xs ∧ 0 < xs.length ∧ xs.length ≤ 1000 ∧ AllOk 4000 xs ∧ Q (.int (firstM xs : Int)) H
/-- two lists, item by item -/
def sp_raised (K : PySem.W.Frag) : Sp := fun vs H Q _ => ∃ (p q : Addr) (xs ys : List Q2), vs = [.ref p, .ref q] ∧ LP K H p xs ∧ LP K H q ys ∧ xs.length = ys.length ∧ xs.length ≤ 1000 ∧ AllOk 3800 xs ∧ AllOk 3800 ys ∧
  ∀ H' r, Same H H' → H r = none → LP K H' r (List.zipWith addP xs ys) → Q (.ref r) H'
theorem zip_at {xs ys : List Q2} {i : Nat} {x y : Q2} (hx : xs[i]? = some x) (hy : ys[i]? = some y) : (List.zipWith addP xs ys).take (i + 1) = (List.zipWith addP xs ys).take i ++ [addP x y] := by
  rw [List.take_add_one]
  have : (List.zipWith addP xs ys)[i]? = some (addP x y) := by
    rw [List.getElem?_zipWith, hx, hy]
  rw [this]
  rfl
/-- the weights and the shares of the law -/
def sharesOf (ws : List Int) : List Q2 := ws.map fun w => lowP w ws.sum
def WsOk (n : Nat) (ws : List Int) : Prop := ws.length = n ∧ (∀ w ∈ ws, 0 ≤ w ∧ w < 1000005) ∧ 0 < ws.sum ∧ ws.sum ≤ 1000005 * n
theorem shares_ok {n : Nat} {ws : List Int} (h : WsOk n ws) (hn : n ≤ 24) : AllOk 26 (sharesOf ws) := by
  intro x hx
  obtain ⟨w, hw, rfl⟩ := List.mem_map.1 hx
  obtain ⟨h1, h2, h3, h4⟩ := h
  have hb := h2 w hw
  exact ⟨lowP_ok h3 (Bd.of (m := 30000000) (by omega) (by omega) (by decide)) (Bd.of (m := 30000000) (by omega) (by omega) (by decide)), lowP_low h3⟩
theorem shares_len (ws : List Int) : (sharesOf ws).length = ws.length := by
  unfold sharesOf
  rw [List.length_map]
theorem sum_bound {ws : List Int} : (∀ w ∈ ws, 0 ≤ w ∧ w < 1000005) → 0 ≤ ws.sum ∧ ws.sum ≤ 1000005 * ws.length := by
  induction ws with
  | nil => intro _; exact ⟨Int.le_refl _, Int.le_refl _⟩
  | cons w ws ih =>
    intro h
    have h1 := h w List.mem_cons_self
    have h2 := ih fun v hv => h v (List.mem_cons_of_mem _ hv)
    rw [List.sum_cons, List.length_cons]
    omega
end DT

namespace DT
open PySem PySem.Spec PyProof.Rows L2 TL
/-! ### the text of a number -/
abbrev numT (n : Int) : Str := Str.ofString (toString n)
theorem tl_pos (n : Nat) : tl (numT (n : Int)) = numL n := tl_num n
theorem tl_neg (m : Nat) : tl (numT (-((m + 1 : Nat) : Int))) = 45 :: numL (m + 1) := by
  rw [show numT (-((m + 1 : Nat) : Int)) = Str.ofString ("-" ++ toString (((m + 1 : Nat)) : Int)) from rfl, tl_ofString, String.toList_append, List.map_append]
  rw [← tl_num (m + 1), tl_ofString]
  rfl
theorem numT_neg {n : Int} (h : n < 0) : (("-" : Str) ++ numT (-n)) = numT n := by
  obtain ⟨m, rfl⟩ : ∃ m : Nat, n = -((m + 1 : Nat) : Int) := ⟨(-n).toNat - 1, by omega⟩
  apply ext_tl
  rw [tl_append, tl_neg, Int.neg_neg, tl_pos]
  rfl
theorem tl_numT (n : Int) : tl (numT n) = (if n < 0 then [45] else []) ++ numL n.natAbs := by
  by_cases h : n < 0
  · obtain ⟨m, rfl⟩ : ∃ m : Nat, n = -((m + 1 : Nat) : Int) := ⟨(-n).toNat - 1, by omega⟩
    rw [tl_neg, if_pos h]
    rw [show (-((m + 1 : Nat) : Int)).natAbs = m + 1 by omega]
    rfl
  · obtain ⟨m, rfl⟩ : ∃ m : Nat, n = (m : Int) := ⟨n.toNat, by omega⟩
    rw [tl_pos, if_neg h]
    rfl
theorem numT_len {n : Int} {k : Nat} (hk : 0 < k) (h : n.natAbs < 10 ^ k) : (numT n).length ≤ k + 1 := by
  rw [len_tl, tl_numT, List.length_append]
  have := numL_len hk h
  split <;> simp only [List.length_cons, List.length_nil] <;> omega
theorem numL_head {n : Nat} (h : 0 < n) : (numL n).head? ≠ some 48 := by
  induction n using Nat.strongRecOn with
  | _ n ih =>
    by_cases h10 : n < 10
    · rw [numL_lt h10]
      intro e
      have e1 : 48 + n = 48 := Option.some.inj e
      omega
    · rw [numL_step (by omega), List.head?_append]
      have i := ih (n / 10) (by omega) (by omega)
      cases e : (numL (n / 10)).head? with
      | none =>
        rw [List.head?_eq_none_iff] at e
        exact absurd e (numL_ne _)
      | some c =>
        rw [e] at i
        exact i
theorem numL_zero : numL 0 = [48] := numL_lt (by decide)
theorem numL_is0 {n : Nat} (h : numL n = [48]) : n = 0 := by
  rw [← numL_zero] at h
  exact numL_inj h
/-! ### is_number -/
def figs : List Nat := [48, 49, 50, 51, 52, 53, 54, 55, 56, 57]
def isNumB (l : List Nat) : Bool := if l = [] ∨ 400 < l.length then false else if l.head? = some 48 then decide (l = [48]) else l.all fun c => decide (c ∈ figs)
theorem mem_figs {c : Nat} : c ∈ figs ↔ 48 ≤ c ∧ c ≤ 57 := by
  unfold figs
  simp only [List.mem_cons, List.not_mem_nil, or_false]
  omega
theorem isNum_numL {n : Nat} (h : (numL n).length ≤ 400) : isNumB (numL n) = true := by
  unfold isNumB
  rw [if_neg (by rintro (e | e); exact numL_ne n e; omega)]
  by_cases h0 : n = 0
  · subst h0
    rw [numL_zero]
    rfl
  · rw [if_neg (numL_head (by omega)), List.all_eq_true]
    intro c hc
    exact decide_eq_true (mem_figs.2 (numL_digits n c hc))
theorem tl_fig : tl ("0123456789" : Str) = figs := by
  show tl (Str.ofString "0123456789") = figs
  rw [tl_ofString]
  rfl
/-! ### reading -/
theorem tl_rp (x : Str) : tl (Txt.removeprefix x ("-" : Str)) = (match tl x with | 45 :: r => r | l => l) := by
  have e1 : tl ("-" : Str) = [45] := by
    show tl (Str.ofString "-") = _
    rw [tl_ofString]
    rfl
  have e2 : ("-" : Str).length = 1 := by rw [len_tl, e1]; rfl
  have e3 : ("-" : Str).cps = #[45] := by
    apply Array.toList_inj.1
    exact e1
  rw [PySem.StrLaws.removeprefix_eq]
  unfold Builtin.Str.subAt
  rw [e2, e3]
  obtain ⟨a⟩ := x
  obtain ⟨l⟩ := a
  show tl (if _ then _ else _) = (match l with | 45 :: r => r | l => l)
  cases l with
  | nil => rfl
  | cons c r =>
    by_cases h : c = 45
    · subst h
      rw [if_pos (by simp [Str.length])]
      show ((45 :: r).drop 1).take ((45 :: r).length - 1) = r
      simp
    · rw [if_neg (by simp [Str.length, h])]
      show c :: r = _
      split
      · rename_i e
        cases e
        exact absurd rfl h
      · rfl
theorem slash_tl : tl ("/" : Str) = [47] := by
  show tl (Str.ofString "/") = _
  rw [tl_ofString]
  rfl
theorem slash_len : (("/" : Str).length == 0) = false := by
  rw [len_tl, slash_tl]
  rfl
theorem numT_free (n : Int) : 47 ∉ tl (numT n) := by
  rw [tl_numT]
  intro h
  rcases List.mem_append.1 h with h | h
  · split at h
    · rw [List.mem_singleton] at h; omega
    · cases h
  · exact numL_free (by omega) h
theorem part_app (a b : Int) : Txt.partition (numT a ++ ("/" : Str) ++ numT b) ("/" : Str) = (numT a, ("/" : Str), numT b) := partition_app slash_tl (numT_free a)
theorem rp_num (n : Int) : tl (Txt.removeprefix (numT n) ("-" : Str)) = numL n.natAbs := by
  rw [tl_rp, tl_numT]
  by_cases h : n < 0
  · rw [if_pos h]
    rfl
  · rw [if_neg h, List.nil_append]
    split
    · rename_i r e
      have : 45 ∈ numL n.natAbs := by rw [e]; exact List.mem_cons_self
      exact absurd this (numL_free (by omega))
    · rfl
theorem int_numT {n : Int} (h : (numL n.natAbs).length ≤ 4000) : PySem.intText? (numT n) = some n := by
  by_cases hn : n < 0
  · obtain ⟨m, rfl⟩ : ∃ m : Nat, n = -((m + 1 : Nat) : Int) := ⟨(-n).toNat - 1, by omega⟩
    rw [show (-((m + 1 : Nat) : Int)).natAbs = m + 1 by omega] at h
    have e := intText_neg (x := numT (-((m + 1 : Nat) : Int))) (tl_neg m) (numL_digits _) (numL_ne _) (by rw [len_tl, tl_neg, List.length_cons]; omega)
    rw [numL_val] at e
    exact e
  · obtain ⟨m, rfl⟩ : ∃ m : Nat, n = (m : Int) := ⟨n.toNat, by omega⟩
    exact int_num (Nat.le_trans h (by decide))
end DT

namespace DT
open PySem PySem.Spec PyProof.Rows L2 TL
/-- what the written part says of an own error class without an __init__ of its own -/
structure ExcT (K : PySem.W.Frag) (mg : Str → Option Value) (x : Str) (C : Addr) : Prop where
  g : mg x = some (.ref C)
  xx : PySem.W.excIn K C [.type "ValueError", .type "Exception", .type "BaseException", .type "object"] "ValueError.__new__" = true
  k : PySem.W.keepIn K (.ref C) = true
  b : PySem.W.subIn K (.ref C) (.type "BaseException") = some true
  t : PySem.W.typeIn K (.ref C) = some (.type "type")
/-- isinstance(e, c), the class of the caught error told where it is asked -/
theorem call_isX {X : Cx} {a D : Addr} {oe : Obj} {cls : Value} {d : Option Addr} {pn : List (Addr × Obj)} (C : ExcC X.K D) (hz : Zc cls d oe) (hf : ∃ vs, oe.data = .fields vs) :
    CallR (X.suite a ((a, oe) :: pn)) (.builtin "isinstance") (fun xs H Q => cls = .ref D ∧ d = none ∧ rIsE X.K D a xs H Q) := by
  intro pins s σ H xs us Q I r h
  obtain ⟨rfl, rfl, h⟩ := h
  exact call_isE C hz hf pins s σ H xs us Q I r h
theorem op_mul_str {X : Cx} : OpR X (binaryOp .Mult) (fun x y H Q => ∃ (z : Str) (n : Int), x = .str z ∧ y = .int n ∧ MulOk z n ∧ Q (.str (Txt.mul z n)) H) := by
  intro pins s σ H x y v u Q I rx ry h
  obtain ⟨z, n, rfl, rfl, hz, q⟩ := h
  obtain ⟨t, rfl⟩ := rx
  obtain ⟨t', rfl⟩ := ry
  exact SB.mul hz fun t' k => ⟨.str _, H, I.tok _, ⟨_, rfl⟩, q⟩
theorem rep_size (a : Array Nat) : ∀ (k : Nat) (b : Array Nat), ((List.replicate k a).foldl (· ++ ·) b).size = b.size + k * a.size
  | 0, b => by simp
  | k + 1, b => by
    rw [List.replicate_succ, List.foldl_cons, rep_size a k, Array.size_append, Nat.succ_mul]
    omega
theorem mul_len (z : Str) (n : Int) : (Txt.mul z n).length ≤ n.toNat * z.length + z.length := by
  unfold Txt.mul
  split
  · exact Nat.zero_le _
  · split
    · omega
    · show ((List.replicate n.toNat z.cps).foldl (· ++ ·) #[]).size ≤ _
      rw [rep_size]
      show 0 + n.toNat * z.length ≤ _
      omega
theorem app_len (x y : Str) : (x ++ y).length = x.length + y.length := by
  rw [len_tl, tl_append, List.length_append, ← len_tl, ← len_tl]
end DT
namespace DT
open PySem PySem.Spec PyProof.Rows L2 TL
theorem line5' {n : Nat} (h : n ≤ 100000) : n ≤ sizeLine := Nat.le_trans h (by decide)
theorem log_small {n : Nat} (h : n < 1000) : n.log2 < 1920 := by
  by_cases h0 : n = 0
  · rw [h0]
    decide
  · exact (Nat.log2_lt h0).2 (Nat.lt_of_lt_of_le h (by decide +kernel))
theorem sign_fig : tl ("0123456789" : Str) = figs := tl_fig
theorem tl0 : tl ("0" : Str) = [48] := by
  show tl (Str.ofString "0") = _
  rw [tl_ofString]
  rfl
theorem tl45 : tl ("-" : Str) = [45] := by
  show tl (Str.ofString "-") = _
  rw [tl_ofString]
  rfl
end DT

namespace DT
/-! ### what a pair is worth -/
def val (x : Q2) : Rat := (x.1 : Rat) / (x.2 : Rat)
theorem r_ne {a : Int} (h : 0 < a) : (a : Rat) ≠ 0 := fun e => by
  have := Rat.intCast_eq_zero_iff.1 e
  omega
theorem r_pos {a : Int} (h : 0 < a) : (0 : Rat) < (a : Rat) := Rat.intCast_pos.2 h
theorem val_eq {x y : Q2} (hx : 0 < x.2) (hy : 0 < y.2) (h : x.1 * y.2 = y.1 * x.2) : val x = val y := by
  unfold val
  have h1 := r_ne hx
  have h2 := r_ne hy
  have h3 : (x.1 : Rat) * (y.2 : Rat) = (y.1 : Rat) * (x.2 : Rat) := by rw [← Rat.intCast_mul, ← Rat.intCast_mul, h]
  grind
theorem val_low {t b : Int} (h : 0 < b) : val (lowP t b) = (t : Rat) / (b : Rat) := by
  have := val_eq (x := lowP t b) (y := (t, b)) (lowP_low h).pos h (by show t / gc t b * b = t * (b / gc t b); rw [low_cross t b, Int.mul_comm])
  exact this
theorem val_add {x y : Q2} (hx : 0 < x.2) (hy : 0 < y.2) : val (addP x y) = val x + val y := by
  unfold addP
  rw [val_low (Int.mul_pos hx hy)]
  unfold val
  have h1 := r_ne hx
  have h2 := r_ne hy
  rw [Rat.intCast_add, Rat.intCast_mul, Rat.intCast_mul, Rat.intCast_mul]
  grind
theorem val_sub {x y : Q2} (hx : 0 < x.2) (hy : 0 < y.2) : val (subP x y) = val x - val y := by
  unfold subP
  rw [val_low (Int.mul_pos hx hy)]
  unfold val
  have h1 := r_ne hx
  have h2 := r_ne hy
  rw [Rat.intCast_sub, Rat.intCast_mul, Rat.intCast_mul, Rat.intCast_mul]
  grind
theorem val_mul {x y : Q2} (hx : 0 < x.2) (hy : 0 < y.2) : val (mulP x y) = val x * val y := by
  unfold mulP
  rw [val_low (Int.mul_pos hx hy)]
  unfold val
  have h1 := r_ne hx
  have h2 := r_ne hy
  rw [Rat.intCast_mul, Rat.intCast_mul]
  grind
theorem val_lt {x y : Q2} (hx : 0 < x.2) (hy : 0 < y.2) : x.1 * y.2 < y.1 * x.2 ↔ val x < val y := by
  unfold val
  rw [Rat.div_lt_iff (r_pos hx), ← Rat.intCast_lt_intCast, Rat.intCast_mul, Rat.intCast_mul]
  have h2 := r_ne hy
  have hp := r_pos hy
  have e : (y.1 : Rat) / (y.2 : Rat) * (x.2 : Rat) = ((y.1 : Rat) * (x.2 : Rat)) / (y.2 : Rat) := by grind
  rw [e, Rat.lt_div_iff hp]
theorem lessP_iff {x y : Q2} (hx : 0 < x.2) (hy : 0 < y.2) : lessP x y = true ↔ val x < val y := by
  unfold lessP
  rw [decide_eq_true_iff]
  exact val_lt hx hy
theorem val_inj {x y : Q2} (hx : Low x.1 x.2) (hy : Low y.1 y.2) (h : val x = val y) : x = y := by
  have h1 := r_ne hx.pos
  have h2 := r_ne hy.pos
  have h3 : (x.1 : Rat) * (y.2 : Rat) = (y.1 : Rat) * (x.2 : Rat) := by
    unfold val at h
    grind
  rw [← Rat.intCast_mul, ← Rat.intCast_mul, Rat.intCast_inj] at h3
  obtain ⟨e1, e2⟩ := low_uniq hx hy h3
  exact Prod.ext e1 e2
def rsum (l : List Rat) : Rat := l.foldr (· + ·) 0
theorem rsum_cons (a : Rat) (l : List Rat) : rsum (a :: l) = a + rsum l := rfl
theorem rsum_nil : rsum [] = 0 := rfl
theorem rsum_app (l m : List Rat) : rsum (l ++ m) = rsum l + rsum m := by
  induction l with
  | nil => rw [List.nil_append, rsum_nil]; grind
  | cons a l ih => rw [List.cons_append, rsum_cons, rsum_cons, ih]; grind
def worth (xs : List Q2) : Rat := rsum (xs.map val)
theorem worth_cons (x : Q2) (xs : List Q2) : worth (x :: xs) = val x + worth xs := rfl
theorem worth_app (xs ys : List Q2) : worth (xs ++ ys) = worth xs + worth ys := by
  unfold worth
  rw [List.map_append, rsum_app]
/-- all bottoms above nought -/
def AllPos (xs : List Q2) : Prop := ∀ x ∈ xs, 0 < x.2
theorem AllOk.pos {n : Nat} {xs : List Q2} (h : AllOk n xs) : AllPos xs := fun x hx => (h x hx).1.pos
theorem fold_worth : ∀ (xs : List Q2) (x : Q2), 0 < x.2 → AllPos xs → val (xs.foldl addP x) = val x + worth xs ∧ 0 < (xs.foldl addP x).2
  | [], x, hx, _ => ⟨by show val x = val x + 0; grind, hx⟩
  | y :: ys, x, hx, h => by
    have hy := h y List.mem_cons_self
    have hz : 0 < (addP x y).2 := (addP_low hx hy).pos
    obtain ⟨e, p⟩ := fold_worth ys (addP x y) hz fun z hz => h z (List.mem_cons_of_mem _ hz)
    refine ⟨?_, p⟩
    rw [List.foldl_cons, e, val_add hx hy, worth_cons]
    grind
theorem sumP_worth {xs : List Q2} (h : AllPos xs) : val (sumP xs) = worth xs := by
  have := (fold_worth xs (0, 1) (by decide) h).1
  have z : val (0, 1) = 0 := by
    unfold val
    show ((0 : Int) : Rat) / ((1 : Int) : Rat) = 0
    rw [Rat.intCast_zero, Rat.intCast_one]
    grind
  unfold sumP
  rw [this, z]
  grind
theorem worth_zip : ∀ (xs ys : List Q2), xs.length = ys.length → AllPos xs → AllPos ys → worth (List.zipWith addP xs ys) = worth xs + worth ys
  | [], [], _, _, _ => by show (0 : Rat) = 0 + 0; grind
  | x :: xs, y :: ys, h, hx, hy => by
    rw [List.zipWith_cons_cons, worth_cons, worth_cons, worth_cons, val_add (hx x List.mem_cons_self) (hy y List.mem_cons_self),
      worth_zip xs ys (by simpa using h) (fun z hz => hx z (List.mem_cons_of_mem _ hz)) fun z hz => hy z (List.mem_cons_of_mem _ hz)]
    grind
theorem worth_set : ∀ {xs : List Q2} {i : Nat} {x y : Q2}, xs[i]? = some x → worth (xs.set i y) = worth xs - val x + val y
  | [], i, x, y, h => by simp at h
  | a :: xs, 0, x, y, h => by
    have e : a = x := Option.some.inj h
    subst e
    show val y + worth xs = val a + worth xs - val a + val y
    grind
  | a :: xs, i + 1, x, y, h => by
    have ih := worth_set (xs := xs) (i := i) (x := x) (y := y) (by simpa using h)
    show val a + worth (xs.set i y) = val a + worth xs - val x + val y
    rw [ih]
    grind
theorem worth_shares {n : Nat} {ws : List Int} (h : WsOk n ws) : worth (sharesOf ws) = 1 := by
  obtain ⟨_, _, hs, _⟩ := h
  have key : ∀ (l : List Int) (S : Int), 0 < S → worth (l.map fun w => lowP w S) = (l.sum : Rat) / (S : Rat) := by
    intro l S hS
    have hn := r_ne hS
    induction l with
    | nil =>
      show (0 : Rat) = ((0 : Int) : Rat) / (S : Rat)
      rw [Rat.intCast_zero]
      grind
    | cons w l ih =>
      rw [List.map_cons, worth_cons, ih, val_low hS, List.sum_cons, Rat.intCast_add]
      grind
  unfold sharesOf
  rw [key ws ws.sum hs]
  have hn := r_ne hs
  grind
theorem val_one : val (1, 1) = 1 := by
  unfold val
  show ((1 : Int) : Rat) / ((1 : Int) : Rat) = 1
  rw [Rat.intCast_one]
  grind
theorem val_zero' : val (0, 1) = 0 := by
  unfold val
  show ((0 : Int) : Rat) / ((1 : Int) : Rat) = 0
  rw [Rat.intCast_zero, Rat.intCast_one]
  grind
/-! ### one hour -/
def hourM (xs ys : List Q2) : Nat × List Q2 :=
  let zs := List.zipWith addP xs ys
  (firstM zs, zs.set (firstM zs) (subP (itemP zs (firstM zs)) (1, 1)))
theorem zip_ok {n m : Nat} {xs ys : List Q2} (hx : AllOk n xs) (hy : AllOk m ys) : AllOk (n + m + 1) (List.zipWith addP xs ys) := by
  intro z hz
  obtain ⟨i, hi⟩ := List.mem_iff_getElem?.1 hz
  rw [List.getElem?_zipWith] at hi
  cases ex : xs[i]? with
  | none => rw [ex] at hi; simp at hi
  | some x =>
    cases ey : ys[i]? with
    | none => rw [ex, ey] at hi; simp at hi
    | some y =>
      rw [ex, ey] at hi
      have e1 : addP x y = z := Option.some.inj hi
      have o1 := hx x (List.mem_of_getElem? ex)
      have o2 := hy y (List.mem_of_getElem? ey)
      rw [← e1]
      exact ⟨addP_ok o1.1 o2.1, addP_low o1.1.pos o2.1.pos⟩
theorem ok11 : Ok 1 ((1, 1) : Q2) := ⟨by decide, by unfold Bd; decide, by unfold Bd; decide⟩
theorem sub_low {x y : Q2} (hx : 0 < x.2) (hy : 0 < y.2) : Low (subP x y).1 (subP x y).2 := low_div (Int.mul_pos hx hy)
theorem hour_ok {n m : Nat} {xs ys : List Q2} (hx : AllOk n xs) (hy : AllOk m ys) (hl : xs.length = ys.length) (h0 : 0 < xs.length) : AllOk (n + m + 3) (hourM xs ys).2 ∧ (hourM xs ys).2.length = xs.length ∧ (hourM xs ys).1 < xs.length := by
  have hz := zip_ok hx hy
  have lz : (List.zipWith addP xs ys).length = xs.length := by rw [List.length_zipWith]; omega
  have hf := firstM_lt (xs := List.zipWith addP xs ys) (by omega)
  have oi := item_ok hz hf
  refine ⟨fun z hz' => ?_, ?_, by show firstM (List.zipWith addP xs ys) < _; omega⟩
  · rcases List.mem_or_eq_of_mem_set hz' with h | h
    · exact ⟨(hz z h).1.mono (by omega), (hz z h).2⟩
    · rw [h]
      exact ⟨(subP_ok oi.1 ok11).mono (by omega), sub_low oi.1.pos ok11.pos⟩
  · show ((List.zipWith addP xs ys).set _ _).length = _
    rw [List.length_set, lz]
theorem hour_worth {n m : Nat} {xs ys : List Q2} (hx : AllOk n xs) (hy : AllOk m ys) (hl : xs.length = ys.length) (h0 : 0 < xs.length) : worth (hourM xs ys).2 = worth xs + worth ys - 1 := by
  have hz := zip_ok hx hy
  have lz : (List.zipWith addP xs ys).length = xs.length := by rw [List.length_zipWith]; omega
  have hf := firstM_lt (xs := List.zipWith addP xs ys) (by omega)
  have oi := item_ok hz hf
  show worth ((List.zipWith addP xs ys).set _ _) = _
  rw [worth_set (item_some hf), val_sub oi.1.pos ok11.pos, val_one, worth_zip xs ys hl hx.pos hy.pos]
  grind
/-- lags behind some hours: as many, small, in lowest terms, together nought -/
structure Lags (n N : Nat) (xs : List Q2) : Prop where
  len : xs.length = n
  ok : AllOk N xs
  zero : worth xs = 0
end DT
namespace DT
open PySem PySem.Spec PyProof.Rows L2
theorem Pps.set {K : PySem.W.Frag} {H : Hp} {v : V} {y : Q2} (h : Pp K H v y) : ∀ {us : List V} {xs : List Q2} (i : Nat), Pps K H us xs → Pps K H (us.set i v) (xs.set i y)
  | _, _, _, .nil => .nil
  | _, _, 0, .cons _ t => .cons h t
  | _, _, i + 1, .cons g t => .cons g (t.set h i)
theorem LP.put {K : PySem.W.Frag} {H : Hp} {p : Addr} {us : List V} {v : V} {xs : List Q2} {y : Q2} (e : H p = some (.lst us)) (k : Pps K H us xs) (h : Pp K H v y) (i : Nat) : LP K (upd H p (.lst (us.set i v))) p (xs.set i y) := by
  have sd : ∀ b o, H b = some o → b ≠ p → upd H p (.lst (us.set i v)) b = some o := fun b o eb n => by
    rw [upd_ne n]
    exact eb
  exact ⟨_, upd_same, Pps.set (h.off sd e) i (k.off sd e)⟩
def sp_hour (K : PySem.W.Frag) : Sp := fun vs H Q _ => ∃ (p q : Addr) (xs ys : List Q2) (N : Nat), vs = [.ref p, .ref q] ∧ LP K H p xs ∧ LP K H q ys ∧ xs.length = ys.length ∧ 0 < xs.length ∧ xs.length ≤ 1000 ∧ AllOk N xs ∧ AllOk 26 ys ∧ N ≤ 3700 ∧
  ∀ H' t r, Same H H' → H r = none → SqT K H' t [.int ((hourM xs ys).1 : Int), .ref r] → LP K H' r (hourM xs ys).2 → Q (.ref t) H'
theorem ix_nat {n : Nat} {j : Nat} (h : j < n) : ixN n (j : Int) = some j := by
  unfold ixN
  rw [if_pos (by omega), if_pos (by omega), Int.toNat_natCast]
end DT

namespace DT
open PySem PySem.Spec PyProof.Rows L2
/-- a method of the text -/
structure Dm (K : PySem.W.Frag) (C : Addr) (m qual : Str) (st : Stmt) (ps : List Str) where
  f : Addr
  fd : FuncData
  F : Fun K m qual st f fd
  b : Binds K fd ps []
  at_ : Meth K C m f
theorem fun_ofD {K : PySem.W.Frag} {x qual : Str} {st : Stmt} {f : Addr} {fd : FuncData} (F : FunD K x qual (defArgs st) (defBody st) (defScope st) [] [] f fd) : Fun K x qual st f fd := by
  obtain ⟨oc, od, dV, kV, doc, pm, an, cdv, ct, osl, rfl, lk, hcd, hD, _⟩ := F.ex
  rcases hD with ⟨_, rfl⟩ | ⟨e, _⟩
  · exact ⟨⟨oc, od, kV, doc, pm, an, cdv, ct, osl, rfl, lk, hcd⟩, F.kp⟩
  · exact absurd rfl e
/-- a call of a def that could raise, where it does not -/
theorem passF {P : Program} {w : World} {X : Cx} : Passes (L2.CX P w) X E0 := fun _ _ _ _ _ _ _ h => by
  obtain ⟨_, _, _, _, _, _, _, _, _, _, _, _, z⟩ := h
  exact z.elim
theorem excT_of {K : PySem.W.Frag} {mg : Str → Option Value} {x : Str} (g : mg x = some (.ref (He.ga K x))) (c : (He.Fa.exc x).ok K = true) : ExcT K mg x (He.ga K x) := by
  obtain ⟨a, b, c, d⟩ := He.exc_ok c
  exact ⟨g, a, b, c, d⟩
end DT

namespace DT
open PySem PySem.Spec PyProof.Rows L2
/-! ### the frame rule: what a def need not see stays as it is -/
def del (M : List Addr) (H : Hp) : Hp := fun b => if b ∈ M then none else H b
def glue (M : List Addr) (H G : Hp) : Hp := fun b => if b ∈ M then H b else G b
/-- what may be set aside: lists, dicts, instances with their own dicts -/
def Aside (H : Hp) (M : List Addr) : Prop := ∀ b ∈ M, (∃ xs, H b = some (.lst xs)) ∨ (∃ kvs, H b = some (.dK kvs)) ∨ (∃ C dx fs, H b = some (.ins C dx fs) ∧ dx ∈ M) ∨ ∃ x, H b = some (.own x) ∧ x ∈ M
theorem del_in {M : List Addr} {H : Hp} {b : Addr} (h : b ∈ M) : del M H b = none := if_pos h
theorem del_out {M : List Addr} {H : Hp} {b : Addr} (h : b ∉ M) : del M H b = H b := if_neg h
theorem glue_in {M : List Addr} {H G : Hp} {b : Addr} (h : b ∈ M) : glue M H G b = H b := if_pos h
theorem glue_out {M : List Addr} {H G : Hp} {b : Addr} (h : b ∉ M) : glue M H G b = G b := if_neg h
theorem del_some {M : List Addr} {H : Hp} {b : Addr} {o : HO} (h : del M H b = some o) : b ∉ M ∧ H b = some o := by
  by_cases hb : b ∈ M
  · rw [del_in hb] at h; cases h
  · rw [del_out hb] at h; exact ⟨hb, h⟩
theorem Aside.some {H : Hp} {M : List Addr} (k : Aside H M) {b : Addr} (h : b ∈ M) : ∃ o, H b = some o := by
  rcases k b h with ⟨_, e⟩ | ⟨_, e⟩ | ⟨_, _, _, e, _⟩ | ⟨_, e, _⟩ <;> exact ⟨_, e⟩
theorem Aside.own {H : Hp} {M : List Addr} (k : Aside H M) {b a : Addr} (h : H b = Option.some (.own a)) (ha : a ∉ M) : b ∉ M := fun hb => by
  rcases k b hb with ⟨_, e⟩ | ⟨_, e⟩ | ⟨_, _, _, e, _⟩ | ⟨_, e, hx⟩ <;> rw [h] at e <;> cases e
  exact ha hx
theorem Aside.tup {H : Hp} {M : List Addr} (k : Aside H M) {b : Addr} {xs : List V} (h : H b = Option.some (.tup xs)) : b ∉ M := fun hb => by
  rcases k b hb with ⟨_, e⟩ | ⟨_, e⟩ | ⟨_, _, _, e, _⟩ | ⟨_, e, _⟩ <;> rw [h] at e <;> cases e
theorem Aside.frz {H : Hp} {M : List Addr} (k : Aside H M) {b : Addr} {o : Obj} {u : HO} (h : H b = Option.some (.frz o u)) : b ∉ M := fun hb => by
  rcases k b hb with ⟨_, e⟩ | ⟨_, e⟩ | ⟨_, _, _, e, _⟩ | ⟨_, e, _⟩ <;> rw [h] at e <;> cases e
theorem Aside.tbl {H : Hp} {M : List Addr} (k : Aside H M) {b : Addr} {ps : Array Value} (h : H b = Option.some (.tbl ps)) : b ∉ M := fun hb => by
  rcases k b hb with ⟨_, e⟩ | ⟨_, e⟩ | ⟨_, _, _, e, _⟩ | ⟨_, e, _⟩ <;> rw [h] at e <;> cases e
theorem hok_del {P : Program} {w : World} {H : Hp} {h : Heap} {M : List Addr} (x : HOk P w H h) (k : Aside H M) : HOk P w (del M H) h := fun a o e => by
  obtain ⟨ha, e⟩ := del_some e
  exact (x a o e).stay (fun _ _ _ q => q) (fun b q => by rw [del_out (k.own q ha)]; exact q) fun b xs q => by rw [del_out (k.tup q)]; exact q
theorem hok_glue {P : Program} {w : World} {H G : Hp} {h h' : Heap} {M : List Addr} (x : HOk P w H h) (y : HOk P w G h') (k : Aside H M) (hn : ∀ b ∈ M, G b = none) (hk : ∀ b ∈ M, ∀ o, h.get? b = some o → h'.get? b = some o) : HOk P w (glue M H G) h' := fun a o e => by
  by_cases ha : a ∈ M
  · rw [glue_in ha] at e
    have ob := x a o e
    rcases k a ha with ⟨xs, e1⟩ | ⟨kvs, e1⟩ | ⟨C, dx, fs, e1, hd⟩ | ⟨y, e1, _⟩ <;> rw [e] at e1 <;> cases e1
    · obtain ⟨z, its, n, r, g⟩ := ob
      exact ⟨z, its, n, r, hk a ha _ g⟩
    · obtain ⟨z, y, vs, r, ob, es, ep, g, c⟩ := ob
      exact ⟨z, y, vs, r, ob, es, ep, hk a ha _ g, c⟩
    · obtain ⟨d, z, ne, g, mA, ⟨od, es, ep, e2, c⟩, r⟩ := ob
      exact ⟨by rw [glue_in hd]; exact d, z, ne, hk a ha _ g, mA, ⟨od, es, ep, hk dx hd _ e2, c⟩, r⟩
    · obtain ⟨ob, g⟩ := ob
      exact ⟨ob, hk a ha _ g⟩
  · rw [glue_out ha] at e
    have out : ∀ b o, G b = some o → b ∉ M := fun b o q z => by rw [hn b z] at q; cases q
    exact (y a o e).stay (fun _ _ _ q => q) (fun b q => by rw [glue_out (out _ _ q)]; exact q) fun b xs q => by rw [glue_out (out _ _ q)]; exact q
def frm (sp : Sp) : Sp := fun vs H Q E => ∃ M, Aside H M ∧ sp vs (del M H) (fun v G => (∀ b ∈ M, G b = none) → Q v (glue M H G)) (fun cls d G => (∀ b ∈ M, G b = none) → E cls d (glue M H G))
section
variable {P : Program} {w : World} {K : PySem.W.Frag} {mg : Str → Option Value} {base : Heap} {k : Nat} {f : Addr} {fd : FuncData} {ps : List Str} {sp : Sp}
theorem env_del {A : Around} {outer : List Env} {s : Shared} {H : Hp} {M : List Addr} (e : Env0 P w K mg base A outer s H) (a : Aside H M) : Env0 P w K mg base A outer s (del M H) :=
  ⟨e.frames, e.mod, fun b o q => ⟨(e.bs b o q).1, by
    by_cases hb : b ∈ M
    · exact del_in hb
    · rw [del_out hb]; exact (e.bs b o q).2⟩, e.bsz, e.funs, fun b hb => by
    by_cases hm : b ∈ M
    · exact del_in hm
    · rw [del_out hm]; exact e.frf b hb, hok_del e.hok a, e.bare⟩
theorem aside_out {H : Hp} {M : List Addr} (a : Aside H M) {b : Addr} (h : H b = none) : b ∉ M := fun hb => by
  obtain ⟨o, e⟩ := a.some hb
  rw [h] at e
  cases e
theorem del_none {H : Hp} {M : List Addr} {b : Addr} (h : H b = none) : del M H b = none := by
  unfold del
  split
  · rfl
  · exact h
theorem fn_frame (F : FnOk P w K mg base CX0 k f fd ps sp) : FnOk P w K mg base CX0 k f fd ps (frm sp) := by
  refine ⟨fun vs H Q E h => ?_, fun A outer s H args us vs Q E hr e b r h => ?_⟩
  · obtain ⟨M, _, h⟩ := h
    exact F.len _ _ _ _ h
  obtain ⟨M, a, h⟩ := h
  have run := F.run A outer s (del M H) args us vs _ _ hr (env_del e a) b r h
  refine codeAny_mono run fun res s' hres => ?_
  cases res with
  | error ex => exact hres
  | ok fl =>
    cases fl with
    | ret u =>
      obtain ⟨v, G, h1, h2, un, hok, rel, q⟩ := hres
      have gt : ∀ b ∈ M, ∃ o, s.heap.get? b = some o := fun b hb => by
        obtain ⟨o, eo⟩ := a.some hb
        exact objOk_get (e.hok b o eo)
      have nf : ∀ b ∈ M, b ∉ frs outer := fun b hb hf => aside_out a (e.frf b hf) hb
      have hn : ∀ b ∈ M, G b = none := fun b hb => by
        obtain ⟨o, eo⟩ := gt b hb
        exact un.free b o eo (del_in hb) (by simp)
      refine ⟨v, glue M H G, h1, h2, ⟨fun b o q1 q2 => un.keep b o q1 (del_none q2), fun b o q1 q2 => un.slot b o q1 (del_none q2), fun b o q1 q2 q3 => ?_, un.there, fun b xs q1 => ?_, fun b o u q1 => ?_, fun b ps q1 => ?_⟩,
        hok_glue e.hok hok a hn fun b hb o eo => un.keep b o eo (del_in hb) (nf b hb) (by simp), rel, q hn⟩
      · rw [glue_out (aside_out a q2)]
        exact un.free b o q1 (del_none q2) q3
      · rw [glue_out (a.tup q1)]
        exact un.tups b xs (by rw [del_out (a.tup q1)]; exact q1)
      · rw [glue_out (a.frz q1)]
        exact un.frzs b o u (by rw [del_out (a.frz q1)]; exact q1)
      · rw [glue_out (a.tbl q1)]
        exact un.tbls b ps (by rw [del_out (a.tbl q1)]; exact q1)
    | _ => exact hres
theorem fn_frameX (F : FnOk P w K mg base (L2.CX P w) k f fd ps sp) : FnOk P w K mg base (L2.CX P w) k f fd ps (frm sp) := by
  refine ⟨fun vs H Q E h => ?_, fun A outer s H args us vs Q E hr e b r h => ?_⟩
  · obtain ⟨M, _, h⟩ := h
    exact F.len _ _ _ _ h
  obtain ⟨M, a, h⟩ := h
  have run := F.run A outer s (del M H) args us vs _ _ hr (env_del e a) b r h
  have gt : ∀ b ∈ M, ∃ o, s.heap.get? b = some o := fun b hb => by
    obtain ⟨o, eo⟩ := a.some hb
    exact objOk_get (e.hok b o eo)
  have nf : ∀ b ∈ M, b ∉ frs outer := fun b hb hf => aside_out a (e.frf b hf) hb
  refine codeAny_mono run fun res s' hres => ?_
  cases res with
  | error ex =>
    obtain ⟨x, B, G, cls, d, h1, fl, hok, ub, na, h2, h3, q⟩ := hres
    have hn : ∀ b ∈ M, G b = none := fun b hb => by
      obtain ⟨o, eo⟩ := gt b hb
      exact ub.free b o eo (del_in hb)
    refine ⟨x, B, glue M H G, cls, d, h1, fl, hok_glue e.hok hok a hn fun b hb o eo => ub.keep b o eo (del_in hb) (nf b hb), ⟨fun b o q1 q2 => ub.keep b o q1 (del_none q2), ub.slot, fun b o q1 q2 => ?_, ub.there, fun b xs q1 => ?_, fun b o u q1 => ?_, fun b ps q1 => ?_⟩, ?_, h2, h3, q hn⟩
    · rw [glue_out (aside_out a q2)]
      exact ub.free b o q1 (del_none q2)
    · rw [glue_out (a.tup q1)]
      exact ub.tups b xs (by rw [del_out (a.tup q1)]; exact q1)
    · rw [glue_out (a.frz q1)]
      exact ub.frzs b o u (by rw [del_out (a.frz q1)]; exact q1)
    · rw [glue_out (a.tbl q1)]
      exact ub.tbls b ps (by rw [del_out (a.tbl q1)]; exact q1)
    · by_cases hx : x ∈ M
      · exfalso
        obtain ⟨o, eo⟩ := gt x hx
        have hB := ub.keep x o eo (del_in hx) (nf x hx)
        rw [fl.2.1] at hB
        cases hB
      · rw [glue_out hx]
        exact na
  | ok fl =>
    cases fl with
    | ret u =>
      obtain ⟨v, G, h1, h2, un, hok, rel, q⟩ := hres
      have hn : ∀ b ∈ M, G b = none := fun b hb => by
        obtain ⟨o, eo⟩ := gt b hb
        exact un.free b o eo (del_in hb) (by simp)
      refine ⟨v, glue M H G, h1, h2, ⟨fun b o q1 q2 => un.keep b o q1 (del_none q2), fun b o q1 q2 => un.slot b o q1 (del_none q2), fun b o q1 q2 q3 => ?_, un.there, fun b xs q1 => ?_, fun b o u q1 => ?_, fun b ps q1 => ?_⟩,
        hok_glue e.hok hok a hn fun b hb o eo => un.keep b o eo (del_in hb) (nf b hb) (by simp), rel, q hn⟩
      · rw [glue_out (aside_out a q2)]
        exact un.free b o q1 (del_none q2) q3
      · rw [glue_out (a.tup q1)]
        exact un.tups b xs (by rw [del_out (a.tup q1)]; exact q1)
      · rw [glue_out (a.frz q1)]
        exact un.frzs b o u (by rw [del_out (a.frz q1)]; exact q1)
      · rw [glue_out (a.tbl q1)]
        exact un.tbls b ps (by rw [del_out (a.tbl q1)]; exact q1)
    | _ => exact hres
end
end DT

namespace DT
open PySem PySem.Spec PyProof.Rows L2
/-! ### moments: what they hold -/
abbrev Debt := Str × Str × Q2 × Int
structure Mo where
  order : List Str
  hold : List Q2
  free : List Q2
  port : List Q2
  arr : List Q2
  cnt : List Int
  debts : List Debt
  wet : Int
  dry : Int
/-- a moment's fields -/
def mf (o h f q a c d : Addr) (w y : Int) : List (Str × V) := [("order", .ref o), ("holdings", .ref h), ("frees", .ref f), ("portions", .ref q), ("arrears", .ref a), ("counts", .ref c), ("debts", .ref d), ("wet", .int w), ("dry", .int y)]
section
variable {o h f q a c d x : Addr} {w y z : Int}
theorem mf_order : (mf o h f q a c d w y).lookup ("order" : Str) = some (V.ref o) := rfl
theorem mf_holdings : (mf o h f q a c d w y).lookup ("holdings" : Str) = some (V.ref h) := rfl
theorem mf_frees : (mf o h f q a c d w y).lookup ("frees" : Str) = some (V.ref f) := rfl
theorem mf_portions : (mf o h f q a c d w y).lookup ("portions" : Str) = some (V.ref q) := rfl
theorem mf_arrears : (mf o h f q a c d w y).lookup ("arrears" : Str) = some (V.ref a) := rfl
theorem mf_counts : (mf o h f q a c d w y).lookup ("counts" : Str) = some (V.ref c) := rfl
theorem mf_debts : (mf o h f q a c d w y).lookup ("debts" : Str) = some (V.ref d) := rfl
theorem mf_wet : (mf o h f q a c d w y).lookup ("wet" : Str) = some (V.int w) := rfl
theorem mf_dry : (mf o h f q a c d w y).lookup ("dry" : Str) = some (V.int y) := rfl
theorem ps_order : putF ("order" : Str) (V.ref x) (mf o h f q a c d w y) = mf x h f q a c d w y := rfl
theorem ps_holdings : putF ("holdings" : Str) (V.ref x) (mf o h f q a c d w y) = mf o x f q a c d w y := rfl
theorem ps_frees : putF ("frees" : Str) (V.ref x) (mf o h f q a c d w y) = mf o h x q a c d w y := rfl
theorem ps_portions : putF ("portions" : Str) (V.ref x) (mf o h f q a c d w y) = mf o h f x a c d w y := rfl
theorem ps_arrears : putF ("arrears" : Str) (V.ref x) (mf o h f q a c d w y) = mf o h f q x c d w y := rfl
theorem ps_counts : putF ("counts" : Str) (V.ref x) (mf o h f q a c d w y) = mf o h f q a x d w y := rfl
theorem ps_debts : putF ("debts" : Str) (V.ref x) (mf o h f q a c d w y) = mf o h f q a c x w y := rfl
theorem ps_wet : putF ("wet" : Str) (V.int z) (mf o h f q a c d w y) = mf o h f q a c d z y := rfl
theorem ps_dry : putF ("dry" : Str) (V.int z) (mf o h f q a c d w y) = mf o h f q a c d w z := rfl
end
/-- a raw moment at r -/
def Raw (C : Addr) (H : Hp) (r : Addr) (o h f q a c d : Addr) (w y : Int) : Prop := ∃ dx, H r = some (.ins C dx (mf o h f q a c d w y))
theorem Raw.same {C : Addr} {H H' : Hp} {r o h f q a c d : Addr} {w y : Int} (k : Raw C H r o h f q a c d w y) (e : Same H H') : Raw C H' r o h f q a c d w y := by
  obtain ⟨dx, z⟩ := k
  exact ⟨dx, e _ _ z⟩
/-- a loan: the tuple of giver, taker, part, hours left -/
def Dbt (K : PySem.W.Frag) (H : Hp) (v : V) (x : Debt) : Prop := ∃ t vp, v = .ref t ∧ H t = some (.tup [.str x.1, .str x.2.1, vp, .int x.2.2.2]) ∧ Pp K H vp x.2.2.1
theorem Dbt.same {K : PySem.W.Frag} {H H' : Hp} {v : V} {x : Debt} (k : Dbt K H v x) (e : Same H H') : Dbt K H' v x := by
  obtain ⟨t, vp, a, b, c⟩ := k
  exact ⟨t, vp, a, e _ _ b, c.same e⟩
inductive Dbts (K : PySem.W.Frag) (H : Hp) : List V → List Debt → Prop
  | nil : Dbts K H [] []
  | cons {v : V} {vs : List V} {x : Debt} {xs : List Debt} : Dbt K H v x → Dbts K H vs xs → Dbts K H (v :: vs) (x :: xs)
theorem Dbts.same {K : PySem.W.Frag} {H H' : Hp} {vs : List V} {xs : List Debt} (k : Dbts K H vs xs) (e : Same H H') : Dbts K H' vs xs := by
  induction k with
  | nil => exact .nil
  | cons a _ ih => exact .cons (a.same e) ih
theorem Dbts.len {K : PySem.W.Frag} {H : Hp} {vs : List V} {xs : List Debt} (k : Dbts K H vs xs) : vs.length = xs.length := by
  induction k with
  | nil => rfl
  | cons _ _ ih => rw [List.length_cons, List.length_cons, ih]
theorem Dbts.snoc {K : PySem.W.Frag} {H : Hp} {vs : List V} {xs : List Debt} {v : V} {x : Debt} (k : Dbts K H vs xs) (d : Dbt K H v x) : Dbts K H (vs ++ [v]) (xs ++ [x]) := by
  induction k with
  | nil => exact .cons d .nil
  | cons a _ ih => exact .cons a ih
theorem Dbts.get {K : PySem.W.Frag} {H : Hp} {vs : List V} {xs : List Debt} (k : Dbts K H vs xs) : ∀ {i : Nat} {v : V}, vs[i]? = some v → ∃ x, xs[i]? = some x ∧ Dbt K H v x := by
  induction k with
  | nil => intro i v h; cases h
  | cons a _ ih =>
    intro i v h
    cases i with
    | zero => cases h; exact ⟨_, rfl, a⟩
    | succ i => exact ih h
/-- what the lists of a moment hold -/
structure Lsts (K : PySem.W.Frag) (H : Hp) (m : Mo) (o h f q a c d : Addr) : Prop where
  ord : H o = some (.lst (m.order.map V.str))
  hol : LP K H h m.hold
  fre : LP K H f m.free
  por : LP K H q m.port
  arr : LP K H a m.arr
  cou : H c = some (.lst (m.cnt.map V.int))
  deb : ∃ vs, H d = some (.lst vs) ∧ Dbts K H vs m.debts
theorem Lsts.same {K : PySem.W.Frag} {H H' : Hp} {m : Mo} {o h f q a c d : Addr} (k : Lsts K H m o h f q a c d) (e : Same H H') : Lsts K H' m o h f q a c d := by
  obtain ⟨vs, z1, z2⟩ := k.deb
  exact ⟨e _ _ k.ord, k.hol.same e, k.fre.same e, k.por.same e, k.arr.same e, e _ _ k.cou, vs, e _ _ z1, z2.same e⟩
/-- the moment m stands at p -/
def MoAt (K : PySem.W.Frag) (C : Addr) (H : Hp) (p : Addr) (m : Mo) : Prop := ∃ o h f q a c d, Raw C H p o h f q a c d m.wet m.dry ∧ Lsts K H m o h f q a c d
theorem MoAt.same {K : PySem.W.Frag} {C : Addr} {H H' : Hp} {p : Addr} {m : Mo} (k : MoAt K C H p m) (e : Same H H') : MoAt K C H' p m := by
  obtain ⟨o, h, f, q, a, c, d, r, l⟩ := k
  exact ⟨o, h, f, q, a, c, d, r.same e, l.same e⟩
def mo0 : Mo := ⟨[], [], [], [], [], [], [], 0, 0⟩
def joinM (m : Mo) (z : Str) (x : Q2) : Mo := { m with order := m.order ++ [z], hold := m.hold ++ [x], free := m.free ++ [x], port := m.port ++ [x], arr := m.arr ++ [(0, 1)], cnt := m.cnt ++ [0] }
theorem few9 {o h f q a c d : Addr} {w y : Int} : (mf o h f q a c d w y).length < 1000 := by show 9 < 1000; decide
/-- a store to an instance that is new since H -/
theorem new_store {H H1 : Hp} {r C dx : Addr} {fs : List (Str × V)} (hr : H r = none) (s : Same H H1) : Same H (upd H1 r (.ins C dx fs)) := same_at hr s
end DT
namespace DT
open PySem PySem.Spec PyProof.Rows L2
theorem init_step {H0 H : Hp} {p dx C l : Addr} {fs : List (Str × V)} (fs' : List (Str × V)) (s : Same H0 H) (n : H0 p = none) (hp : H p = some (.ins C dx fs)) (hl : H l = none) :
    upd H l (.lst []) p = some (.ins C dx fs) ∧ upd (upd H l (.lst [])) p (.ins C dx fs') p = some (.ins C dx fs') ∧ Same H0 (upd (upd H l (.lst [])) p (.ins C dx fs')) ∧ upd (upd H l (.lst [])) p (.ins C dx fs') l = some (.lst []) ∧
    ∀ b o, H b = some o → b ≠ p → upd (upd H l (.lst [])) p (.ins C dx fs') b = some o := by
  have ne : p ≠ l := ne_of_none hp hl
  refine ⟨by rw [upd_ne ne]; exact hp, upd_same, same_at n (s.trans (same_upd hl)), by rw [upd_ne ne.symm]; exact upd_same, fun b o e nb => ?_⟩
  rw [upd_ne nb, upd_ne (ne_of_none e hl)]
  exact e
def sp_MInit (K : PySem.W.Frag) (C : Addr) : Sp := fun vs H Q _ => ∃ (H0 : Hp) (p dx : Addr), vs = [.ref p] ∧ Same H0 H ∧ H0 p = none ∧ H p = some (.ins C dx []) ∧
  ∀ H' o h f q a c d, Same H0 H' → H' p = some (.ins C dx (mf o h f q a c d 0 0)) → Lsts K H' mo0 o h f q a c d → Q .non H'
def sp_like (C : Addr) : Sp := fun vs H Q _ => ∃ (p o h f q a c d : Addr) (w y : Int), vs = [.ref p] ∧ Raw C H p o h f q a c d w y ∧ ∀ H' r, Same H H' → H r = none → Raw C H' r o h f q a c d w y → Q (.ref r) H'
def sp_joined (K : PySem.W.Frag) (C : Addr) : Sp := fun vs H Q _ => ∃ (p : Addr) (m : Mo) (z : Str) (v : V) (x : Q2), vs = [.ref p, .str z, v] ∧ MoAt K C H p m ∧ Pp K H v x ∧ m.order.length ≤ 900 ∧ m.hold.length ≤ 900 ∧ m.free.length ≤ 900 ∧ m.port.length ≤ 900 ∧ m.arr.length ≤ 900 ∧ m.cnt.length ≤ 900 ∧
  ∀ H' r, Same H H' → H r = none → MoAt K C H' r (joinM m z x) → Q (.ref r) H'
def sp_begun (K : PySem.W.Frag) (C : Addr) : Sp := fun vs H Q _ => ∃ z : Str, vs = [.str z] ∧ ∀ H' r, Same H H' → H r = none → MoAt K C H' r (joinM mo0 z (1, 1)) → Q (.ref r) H'
end DT
namespace DT
open PySem PySem.Spec PyProof.Rows L2
def sp_hourG (K : PySem.W.Frag) : Sp := fun vs H Q _ => ∃ (p q : Addr) (xs ys : List Q2) (N M : Nat), vs = [.ref p, .ref q] ∧ LP K H p xs ∧ LP K H q ys ∧ xs.length = ys.length ∧ 0 < xs.length ∧ xs.length ≤ 1000 ∧ AllOk N xs ∧ AllOk M ys ∧ N + M ≤ 3700 ∧
  ∀ H' t r, Same H H' → H r = none → SqT K H' t [.int ((hourM xs ys).1 : Int), .ref r] → LP K H' r (hourM xs ys).2 → Q (.ref t) H'
def negP (x : Q2) : Q2 := (-x.1, x.2)
theorem negP_ok {N : Nat} {x : Q2} (h : Ok N x) : Ok N (negP x) := ⟨h.pos, h.top.neg, h.bot⟩
theorem negP_low {x : Q2} (h : Low x.1 x.2) : Low (negP x).1 (negP x).2 := low_neg h
def sp_opp (K : PySem.W.Frag) : Sp := fun vs H Q _ => ∃ (v : V) (x : Q2), vs = [v] ∧ Pp K H v x ∧ ∀ H' r, Same H H' → Pp K H' r (negP x) → Q r H'
def addAt (xs : List Q2) (i : Nat) (x : Q2) : List Q2 := xs.set i (addP (itemP xs i) x)
theorem addAt_ok {N M i : Nat} {xs : List Q2} {x : Q2} (h : AllOk N xs) (o : Ok M x) (hi : i < xs.length) : AllOk (N + M + 1) (addAt xs i x) := fun y hy => by
  rcases List.mem_or_eq_of_mem_set hy with z | z
  · exact ⟨(h y z).1.mono (by omega), (h y z).2⟩
  · rw [z]
    exact ⟨addP_ok (item_ok h hi).1 o, addP_low (item_ok h hi).1.pos o.pos⟩
theorem addAt_len (xs : List Q2) (i : Nat) (x : Q2) : (addAt xs i x).length = xs.length := List.length_set
def sp_added (K : PySem.W.Frag) : Sp := fun vs H Q _ => ∃ (p : Addr) (i : Nat) (v : V) (xs : List Q2) (x : Q2) (N M : Nat), vs = [.ref p, .int (i : Int), v] ∧ LP K H p xs ∧ Pp K H v x ∧ i < xs.length ∧ AllOk N xs ∧ Ok M x ∧ Low x.1 x.2 ∧ N + M ≤ 8890 ∧
  ∀ H' r, Same H H' → H r = none → LP K H' r (addAt xs i x) → Q (.ref r) H'
def trustM (m : Mo) (i j : Nat) (x : Q2) : Mo := { m with free := addAt m.free i (negP x), port := addAt (addAt m.port i (negP x)) j x }
def sp_entrusted (K : PySem.W.Frag) (C : Addr) : Sp := fun vs H Q _ => ∃ (p : Addr) (m : Mo) (i j : Nat) (v : V) (x : Q2) (N M : Nat), vs = [.ref p, .int (i : Int), .int (j : Int), v] ∧ MoAt K C H p m ∧ Pp K H v x ∧ i < m.free.length ∧ i < m.port.length ∧ j < m.port.length ∧ AllOk N m.free ∧ AllOk N m.port ∧ Ok M x ∧ Low x.1 x.2 ∧ N + 2 * M + 1 ≤ 8890 ∧
  ∀ H' r, Same H H' → H r = none → MoAt K C H' r (trustM m i j x) → Q (.ref r) H'
def sp_pass0 (K : PySem.W.Frag) (C : Addr) : Sp := fun vs H Q _ => ∃ (p : Addr) (m : Mo), vs = [.ref p] ∧ MoAt K C H p m ∧ m.debts = [] ∧
  ∀ H' r dr o h f q a c d, Same H H' → H r = none → H' r = some (.ins C dr (mf o h f q a c d m.wet m.dry)) → Lsts K H' m o h f q a c d → Q (.ref r) H'
def waterM (m : Mo) : Mo := { m with arr := (hourM m.arr m.port).2, cnt := m.cnt.set (hourM m.arr m.port).1 (m.cnt.getD (hourM m.arr m.port).1 0 + 1), wet := m.wet + 1 }
def sp_water0 (K : PySem.W.Frag) (C : Addr) : Sp := fun vs H Q _ => ∃ (p : Addr) (m : Mo) (N M : Nat), vs = [.ref p] ∧ MoAt K C H p m ∧ m.debts = [] ∧ m.order.length = m.arr.length ∧ m.port.length = m.arr.length ∧ m.cnt.length = m.arr.length ∧ 0 < m.arr.length ∧ m.arr.length ≤ 24 ∧ AllOk N m.arr ∧ AllOk M m.port ∧ N + M ≤ 3700 ∧
  ∀ H' t r z, Same H H' → H r = none → m.order[(hourM m.arr m.port).1]? = some z → H' t = some (.tup [.str z, .ref r]) → MoAt K C H' r (waterM m) → Q (.ref t) H'
end DT
namespace DT
open PySem PySem.Spec PyProof.Rows L2
/-- a store to an instance leaves lists of pairs -/
theorem Pp.offI {K : PySem.W.Frag} {H : Hp} {v : V} {x : Q2} {D C dx : Addr} {fs : List (Str × V)} {o : HO} (h : Pp K H v x) (hD : H D = some (.ins C dx fs)) : Pp K (upd H D o) v x := by
  obtain ⟨p, rfl, q⟩ := h
  refine ⟨p, rfl, ?_⟩
  rcases q with (q | ⟨o, q⟩) | q
  · exact .inl (.inl (by rw [upd_ne (fun z => by rw [z, hD] at q; cases q)]; exact q))
  · exact .inl (.inr ⟨o, by rw [upd_ne (fun z => by rw [z, hD] at q; cases q)]; exact q⟩)
  · exact .inr q
theorem Pps.offI {K : PySem.W.Frag} {H : Hp} {D C dx : Addr} {fs : List (Str × V)} {o : HO} : ∀ {vs : List V} {xs : List Q2}, Pps K H vs xs → H D = some (.ins C dx fs) → Pps K (upd H D o) vs xs
  | _, _, .nil, _ => .nil
  | _, _, .cons h t, hD => .cons (h.offI hD) (t.offI hD)
theorem LP.offI {K : PySem.W.Frag} {H : Hp} {p : Addr} {xs : List Q2} {D C dx : Addr} {fs : List (Str × V)} {o : HO} (h : LP K H p xs) (hD : H D = some (.ins C dx fs)) : LP K (upd H D o) p xs := by
  obtain ⟨us, e, k⟩ := h
  exact ⟨us, by rw [upd_ne (ne_of e hD (by intro z; cases z))]; exact e, k.offI hD⟩
end DT
namespace DT
open PySem PySem.Spec PyProof.Rows L2
theorem Dbt.off {K : PySem.W.Frag} {H : Hp} {v : V} {x : Debt} {D : Addr} {u o : HO} (k : Dbt K H v x) (hD : H D = some u) (hk : ∀ v y, Pp K H v y → Pp K (upd H D o) v y) (hu : ∀ xs, u ≠ .tup xs) : Dbt K (upd H D o) v x := by
  obtain ⟨t, vp, a, b, c⟩ := k
  exact ⟨t, vp, a, by rw [upd_ne (fun z => by rw [z, hD] at b; exact hu _ (Option.some.inj b))]; exact b, hk _ _ c⟩
theorem Dbts.off {K : PySem.W.Frag} {H : Hp} {vs : List V} {xs : List Debt} {D : Addr} {u o : HO} (k : Dbts K H vs xs) (hD : H D = some u) (hk : ∀ v y, Pp K H v y → Pp K (upd H D o) v y) (hu : ∀ xs, u ≠ .tup xs) : Dbts K (upd H D o) vs xs := by
  induction k with
  | nil => exact .nil
  | cons a _ ih => exact .cons (a.off hD hk hu) ih
theorem Lsts.offI {K : PySem.W.Frag} {H : Hp} {m : Mo} {o h f q a c d D C dx : Addr} {fs : List (Str × V)} {x : HO} (k : Lsts K H m o h f q a c d) (hD : H D = some (.ins C dx fs)) : Lsts K (upd H D x) m o h f q a c d := by
  have ne : ∀ b xs, H b = some (.lst xs) → upd H D x b = some (.lst xs) := fun b xs e => by
    rw [upd_ne (ne_of e hD (by intro z; cases z))]
    exact e
  obtain ⟨vs, z1, z2⟩ := k.deb
  exact ⟨ne _ _ k.ord, k.hol.offI hD, k.fre.offI hD, k.por.offI hD, k.arr.offI hD, ne _ _ k.cou, vs, ne _ _ z1, z2.off hD (fun _ _ p => p.offI hD) (fun _ z => nomatch z)⟩
/-- what stays of a moment's lists where another list is changed -/
structure Lsts5 (K : PySem.W.Frag) (H : Hp) (m : Mo) (o h f q d : Addr) : Prop where
  ord : H o = some (.lst (m.order.map V.str))
  hol : LP K H h m.hold
  fre : LP K H f m.free
  por : LP K H q m.port
  deb : ∃ vs, H d = some (.lst vs) ∧ Dbts K H vs m.debts
theorem Lsts.offL {K : PySem.W.Frag} {H : Hp} {m : Mo} {o h f q a c d D : Addr} {xs ys : List V} (k : Lsts K H m o h f q a c d) (hD : H D = some (.lst xs)) (n1 : o ≠ D) (n2 : h ≠ D) (n3 : f ≠ D) (n4 : q ≠ D) (n5 : d ≠ D) : Lsts5 K (upd H D (.lst ys)) m o h f q d := by
  obtain ⟨vs, z1, z2⟩ := k.deb
  exact ⟨by rw [upd_ne n1]; exact k.ord, k.hol.off hD n2, k.fre.off hD n3, k.por.off hD n4, vs, by rw [upd_ne n5]; exact z1, z2.off hD (fun _ _ p => p.off (fun b o e nb => by rw [upd_ne nb]; exact e) hD) (fun _ z => nomatch z)⟩
theorem Lsts5.same {K : PySem.W.Frag} {H H' : Hp} {m : Mo} {o h f q d : Addr} (k : Lsts5 K H m o h f q d) (e : Same H H') : Lsts5 K H' m o h f q d := by
  obtain ⟨vs, z1, z2⟩ := k.deb
  exact ⟨e _ _ k.ord, k.hol.same e, k.fre.same e, k.por.same e, vs, e _ _ z1, z2.same e⟩
theorem Lsts5.offI {K : PySem.W.Frag} {H : Hp} {m : Mo} {o h f q d D C dx : Addr} {fs : List (Str × V)} {x : HO} (k : Lsts5 K H m o h f q d) (hD : H D = some (.ins C dx fs)) : Lsts5 K (upd H D x) m o h f q d := by
  have ne : ∀ b xs, H b = some (.lst xs) → upd H D x b = some (.lst xs) := fun b xs e => by
    rw [upd_ne (ne_of e hD (by intro z; cases z))]
    exact e
  obtain ⟨vs, z1, z2⟩ := k.deb
  exact ⟨ne _ _ k.ord, k.hol.offI hD, k.fre.offI hD, k.por.offI hD, vs, ne _ _ z1, z2.off hD (fun _ _ p => p.offI hD) (fun _ z => nomatch z)⟩
end DT

namespace DT
open PySem PySem.Spec PyProof.Rows L2 TL
/-! ### names -/
def lets : List Nat := [97, 98, 99, 100, 101, 102, 103, 104, 105, 106, 107, 108, 109, 110, 111, 112, 113, 114, 115, 116, 117, 118, 119, 120, 121, 122]
theorem tl_lets : tl ("abcdefghijklmnopqrstuvwxyz" : Str) = lets := by
  show tl (Str.ofString "abcdefghijklmnopqrstuvwxyz") = _
  rw [tl_ofString]
  decide
def nameB (z : Str) : Bool := decide (1 ≤ (tl z).length) && (decide ((tl z).length ≤ 8) && (tl z).all fun c => decide (c ∈ lets))
theorem name_len {z : Str} (h : nameB z = true) : 1 ≤ (tl z).length ∧ (tl z).length ≤ 8 := by
  unfold nameB at h
  rw [Bool.and_eq_true, Bool.and_eq_true] at h
  exact ⟨of_decide_eq_true h.1, of_decide_eq_true h.2.1⟩
/-- signs of a text held against the letters, one by one -/
theorem lets_take {z : Str} {i c : Nat} (h : z.cps[i]? = some c) : (((tl z).take (i + 1)).map fun c => decide (c ∈ lets)) = (((tl z).take i).map fun c => decide (c ∈ lets)) ++ [decide (c ∈ lets)] := by
  have e7 : (tl z)[i]? = some c := by
    rw [← h]
    simp [tl]
  rw [List.take_add_one, e7]
  simp only [List.map_append, Option.toList_some, List.map_cons, List.map_nil]
theorem tl_all (z : Str) : (tl z).take z.cps.size = tl z := by
  refine List.take_of_length_le ?_
  simp [tl]
def sp_name : Sp := fun vs H Q _ => ∃ z : Str, vs = [.str z] ∧ z.length ≤ 1000 ∧ ∀ H', Same H H' → Q (.bl (nameB z)) H'
end DT
namespace DT
open PySem PySem.Spec PyProof.Rows L2 TL
/-! ### the law's pool of names -/
def LetS (z : Str) : Prop := ∀ c ∈ tl z, c ∈ lets
theorem LetS.empty : LetS ("" : Str) := fun c hc => nomatch (show c ∈ ([] : List Nat) from hc)
theorem LetS.app {x y : Str} (h : LetS x) (k : LetS y) : LetS (x ++ y) := fun c hc => by
  rw [tl_append] at hc
  rcases List.mem_append.1 hc with z | z
  · exact h c z
  · exact k c z
theorem LetS.one {c : Nat} (h : c ∈ lets) : LetS ⟨#[c]⟩ := fun d hd => by
  have : d ∈ [c] := hd
  rw [List.mem_singleton.1 this]
  exact h
theorem let_at (x : Int) : ∃ c, c ∈ lets ∧ atI (tl ("abcdefghijklmnopqrstuvwxyz" : Str)) (x % 26) = some c := by
  have h1 := Int.emod_nonneg x (show (26 : Int) ≠ 0 by decide)
  have h2 := Int.emod_lt_of_pos x (show (0 : Int) < 26 by decide)
  obtain ⟨j, ej, hj⟩ : ∃ j : Nat, x % 26 = (j : Int) ∧ j < 26 := ⟨(x % 26).toNat, by omega, by omega⟩
  rw [tl_lets, ej]
  have hl : j < lets.length := hj
  exact ⟨lets[j], List.getElem_mem hl, atI_nat (List.getElem?_eq_getElem hl)⟩
theorem tl_cutTo (z : Str) (n : Nat) (h : n ≤ (tl z).length) : tl (cutS z none (some (n : Int))) = (tl z).take n := by
  unfold cutS
  rw [HT.sIx_none, HT.sIx_nat]
  have hz : z.length = (tl z).length := len_tl z
  rw [hz, Nat.min_eq_left h, Nat.sub_zero, List.drop_zero]
theorem tl_cutFrom (z : Str) (n : Nat) (h : n ≤ (tl z).length) : tl (cutS z (some (n : Int)) none) = (tl z).drop n := by
  unfold cutS
  rw [HT.sIx_none, HT.sIx_nat]
  have hz : z.length = (tl z).length := len_tl z
  rw [hz, Nat.min_eq_left h]
  show ((tl z).drop n).take ((tl z).length - n) = _
  rw [List.take_of_length_le (by rw [List.length_drop]; omega)]
theorem mulOk0 (z : Str) : MulOk z 0 := ⟨by decide, fun h => absurd (by decide) h, fun h => absurd (by decide) h⟩
theorem mulOk1 (z : Str) : MulOk z 1 := ⟨by decide, fun _ h => by simp at h, fun _ h => by simp at h⟩
theorem mul_flag (c : Nat) (hc : c ∈ lets) (b : Bool) : MulOk (⟨#[c]⟩ : Str) (if b then 1 else 0) ∧ LetS (Txt.mul (⟨#[c]⟩ : Str) (if b then 1 else 0)) ∧ (tl (Txt.mul (⟨#[c]⟩ : Str) (if b then 1 else 0))).length ≤ 1 := by
  cases b with
  | false =>
    refine ⟨mulOk0 _, ?_, ?_⟩
    · have e : Txt.mul (⟨#[c]⟩ : Str) (if false then 1 else 0) = Str.empty := by unfold Txt.mul; rfl
      rw [e]
      exact fun d hd => nomatch (show d ∈ ([] : List Nat) from hd)
    · have e : Txt.mul (⟨#[c]⟩ : Str) (if false then 1 else 0) = Str.empty := by unfold Txt.mul; rfl
      rw [e]
      exact Nat.zero_le _
  | true =>
    have e : Txt.mul (⟨#[c]⟩ : Str) (if true then 1 else 0) = ⟨#[c]⟩ := by unfold Txt.mul; rfl
    rw [e]
    exact ⟨mulOk1 _, LetS.one hc, Nat.le_refl _⟩
theorem name_of {z : Str} (h : LetS z) (h1 : 1 ≤ (tl z).length) (h2 : (tl z).length ≤ 8) : nameB z = true := by
  unfold nameB
  rw [decide_eq_true h1, decide_eq_true h2]
  simp only [Bool.true_and, List.all_eq_true, decide_eq_true_eq]
  exact h
def sp_pool (K : PySem.W.Frag) : Sp := fun vs H Q _ => ∃ (p : Addr) (rs : List Int), vs = [.ref p] ∧ H p = some (.lst (rs.map V.int)) ∧ 7 ≤ rs.length ∧ (∀ r ∈ rs, 0 ≤ r ∧ r < 1000000) ∧ ∀ (H' : Hp) (r : Addr) (zs : List Str), Same H H' → H r = none → H' r = some (.lst (zs.map V.str)) → zs.length = 26 → (∀ z ∈ zs, nameB z = true) → Q (.ref r) H'
end DT

namespace DT
open PySem PySem.Spec PyProof.Rows L2
/-! ### data held against data -/
theorem sqL_ty {K : PySem.W.Frag} {H : Hp} {a : Addr} {xs : List V} (h : SqL K H a xs) : TyX K H (.ref a) (.type "list") := by
  rcases h with (h | ⟨o, h⟩) | ⟨o, its, n, h, c, _⟩
  · exact .base (.lst h)
  · exact .base (.frz h)
  · exact .kList h c
mutual
theorem dp_same {K : PySem.W.Frag} {H H' : Hp} (e : Same H H') : ∀ {v : V} {d : PyData}, Dp K H v d → Dp K H' v d
  | _, _, .non => .non
  | _, _, .bl b => .bl b
  | _, _, .int i => .int i
  | _, _, .str x => .str x
  | _, _, .lst h k => .lst (e.seq h) (dps_same e k)
  | _, _, .tup h k => .tup (same_seqT e h) (dps_same e k)
theorem dps_same {K : PySem.W.Frag} {H H' : Hp} (e : Same H H') : ∀ {vs : List V} {ds : List PyData}, DpAll K H vs ds → DpAll K H' vs ds
  | _, _, .nil => .nil
  | _, _, .cons h t => .cons (dp_same e h) (dps_same e t)
end
theorem dps_len {K : PySem.W.Frag} {H : Hp} : ∀ {vs : List V} {ds : List PyData}, DpAll K H vs ds → vs.length = ds.length
  | _, _, .nil => rfl
  | _, _, .cons _ t => by rw [List.length_cons, List.length_cons, dps_len t]
theorem dps_get {K : PySem.W.Frag} {H : Hp} : ∀ {vs : List V} {ds : List PyData}, DpAll K H vs ds → ∀ {i : Nat} {v : V}, vs[i]? = some v → ∃ d, ds[i]? = some d ∧ Dp K H v d
  | _, _, .nil, i, v, h => by cases h
  | _, _, .cons a t, 0, v, h => by cases h; exact ⟨_, rfl, a⟩
  | _, _, .cons a t, i + 1, v, h => dps_get t h
theorem dps_snoc {K : PySem.W.Frag} {H : Hp} : ∀ {vs : List V} {ds : List PyData} {v : V} {d : PyData}, DpAll K H vs ds → Dp K H v d → DpAll K H (vs ++ [v]) (ds ++ [d])
  | _, _, _, _, .nil, h => .cons h .nil
  | _, _, _, _, .cons a t, h => .cons a (dps_snoc t h)
/-- plain data, at most n deep -/
def Plain : Nat → PyData → Prop
  | _, .int _ => True
  | _, .str _ => True
  | _, .none => True
  | n + 1, .list ds => ds.length ≤ 900 ∧ ∀ d ∈ ds, Plain n d
  | n + 1, .tuple ds => ds.length ≤ 900 ∧ ∀ d ∈ ds, Plain n d
  | _, _ => False
def sp_alike (K : PySem.W.Frag) (n : Nat) : Sp := fun vs H Q _ => ∃ (v u : V) (d : PyData), vs = [v, u] ∧ Dp K H v d ∧ Dp K H u d ∧ Plain n d ∧ ∀ H', Same H H' → Q (.bl true) H'
theorem walk_zipT {K : PySem.W.Frag} {a b : Addr} {xs ys : List V} {n : Nat} (hn : n = min xs.length ys.length) : Walk (RZ.ItzT K a b) n (fun H => SqT K H a xs ∧ SqT K H b ys) (YPair (fun i => xs[i]?) (fun i => ys[i]?)) := by
  subst hn
  refine ⟨fun i _ hi k => ?_, fun _ k => ⟨xs, ys, k.1, k.2, by omega⟩, fun i H v H' _ k y => ?_⟩
  · exact ⟨xs, ys, _, _, k.1, k.2, List.getElem?_eq_getElem (by omega), List.getElem?_eq_getElem (by omega)⟩
  · obtain ⟨T, x, z, e1, e2, e3, e4, e5⟩ := y
    exact ⟨T, x, z, e1, e2, e3, e4 xs k.1, e5 ys k.2⟩
end DT

namespace DT
open PySem PySem.Spec PyProof.Rows L2
/-! ### a ditch: its moment now, its past, what was taken back -/
def df (n p u : Addr) : List (Str × V) := [("now", .ref n), ("past", .ref p), ("undone", .ref u)]
section
variable {n p u x : Addr}
theorem df_now : (df n p u).lookup ("now" : Str) = some (V.ref n) := rfl
theorem df_past : (df n p u).lookup ("past" : Str) = some (V.ref p) := rfl
theorem df_undone : (df n p u).lookup ("undone" : Str) = some (V.ref u) := rfl
theorem ds_now : putF ("now" : Str) (V.ref x) (df n p u) = df x p u := rfl
theorem ds_past : putF ("past" : Str) (V.ref x) (df n p u) = df n x u := rfl
theorem ds_undone : putF ("undone" : Str) (V.ref x) (df n p u) = df n p x := rfl
theorem few3 : (df n p u).length < 1000 := by show 3 < 1000; decide
end
/-- what of a ditch is changed in place: the ditch, its own dict, its two lists -/
abbrev mu (d dx p u : Addr) : List Addr := [d, dx, p, u]
structure DiAt (K : PySem.W.Frag) (CM C : Addr) (H : Hp) (d dx n p u : Addr) (m : Mo) (ps us : List V) : Prop where
  raw : H d = some (.ins C dx (df n p u))
  own : H dx = some (.own d)
  pas : H p = some (.lst ps)
  und : H u = some (.lst us)
  pu : p ≠ u
  now : MoAt K CM (del (mu d dx p u) H) n m
theorem del_same {M : List Addr} {H : Hp} : Same (del M H) H := fun b o e => (del_some e).2
theorem same_del {M : List Addr} {H0 H : Hp} (s : Same H0 H) (h : ∀ b ∈ M, H0 b = none) : Same H0 (del M H) := fun b o e => by
  have hb : b ∉ M := fun z => by rw [h b z] at e; cases e
  rw [del_out hb]
  exact s _ _ e
theorem del_mono {M : List Addr} {H H' : Hp} (s : Same H H') : Same (del M H) (del M H') := fun b o e => by
  obtain ⟨hb, e⟩ := del_some e
  rw [del_out hb]
  exact s _ _ e
theorem DiAt.same {K : PySem.W.Frag} {CM C : Addr} {H H' : Hp} {d dx n p u : Addr} {m : Mo} {ps us : List V} (k : DiAt K CM C H d dx n p u m ps us) (e : Same H H') : DiAt K CM C H' d dx n p u m ps us :=
  ⟨e _ _ k.raw, e _ _ k.own, e _ _ k.pas, e _ _ k.und, k.pu, k.now.same (del_mono e)⟩
theorem DiAt.aside {K : PySem.W.Frag} {CM C : Addr} {H : Hp} {d dx n p u : Addr} {m : Mo} {ps us : List V} (k : DiAt K CM C H d dx n p u m ps us) : Aside H (mu d dx p u) := fun b hb => by
  have hd : dx ∈ mu d dx p u := by simp
  have hdd : d ∈ mu d dx p u := by simp
  rcases List.mem_cons.1 hb with rfl | hb
  · exact .inr (.inr (.inl ⟨_, _, _, k.raw, hd⟩))
  rcases List.mem_cons.1 hb with rfl | hb
  · exact .inr (.inr (.inr ⟨_, k.own, hdd⟩))
  rcases List.mem_cons.1 hb with rfl | hb
  · exact .inl ⟨_, k.pas⟩
  · rw [List.mem_singleton.1 hb]
    exact .inl ⟨_, k.und⟩
theorem DiAt.moH {K : PySem.W.Frag} {CM C : Addr} {H : Hp} {d dx n p u : Addr} {m : Mo} {ps us : List V} (k : DiAt K CM C H d dx n p u m ps us) : MoAt K CM H n m := k.now.same del_same
def newMo (z : Str) : Mo := joinM mo0 z (1, 1)
def sp_DInit (K : PySem.W.Frag) (CM C CB : Addr) : Sp := fun vs H Q E => ∃ (H0 : Hp) (d dx : Addr) (z : Str), vs = [.ref d, .str z] ∧ z.length ≤ 1000 ∧ Same H0 H ∧ H0 d = none ∧ H0 dx = none ∧ d ≠ dx ∧ H d = some (.ins C dx []) ∧ H dx = some (.own d) ∧
  (nameB z = true → ∀ H' n p u, Same H0 H' → H0 p = none → H0 u = none → DiAt K CM C H' d dx n p u (newMo z) [] [] → Q .non H') ∧ (nameB z = false → ∀ H', Same H0 H' → E (.ref CB) none H')
/-- a getter of a ditch -/
def sp_get (K : PySem.W.Frag) (CM C : Addr) (g : Mo → Hp → Hp → V → Prop) : Sp := fun vs H Q _ => ∃ (d dx n p u : Addr) (m : Mo) (ps us : List V), vs = [.ref d] ∧ DiAt K CM C H d dx n p u m ps us ∧ ∀ H' v, Same H H' → g m H H' v → Q v H'
def idxS (l : List Str) (z : Str) : Nat := l.findIdx fun y => decide (y = z)
def sp_place (K : PySem.W.Frag) (CM CN : Addr) : Sp := fun vs H Q E => ∃ (p : Addr) (m : Mo) (z : Str), vs = [.ref p, .str z] ∧ MoAt K CM H p m ∧ z.length ≤ 1000 ∧
  (z ∈ m.order → idxS m.order z < m.order.length → Q (.int (idxS m.order z : Int)) H) ∧ (z ∉ m.order → ∀ H', Same H H' → E (.ref CN) none H')
theorem strs_flat (l : List Str) : (l.map V.str).all flatV = true := by
  rw [List.all_eq_true]
  intro x hx
  obtain ⟨i, _, rfl⟩ := List.mem_map.1 hx
  rfl
theorem strs_in (l : List Str) (z : Str) : inV (.str z) (l.map V.str) = decide (z ∈ l) := by
  unfold inV
  induction l with
  | nil => rfl
  | cons a l ih =>
    rw [List.map_cons, List.any_cons, ih]
    by_cases h : a = z
    · simp [eqV, h]
    · have h2 : ¬ z = a := fun e => h e.symm
      simp [eqV, h, h2]
theorem idx_lt {l : List Str} {z : Str} (h : z ∈ l) : idxS l z < l.length := List.findIdx_lt_length_of_exists ⟨z, h, by simp⟩
theorem idx_at {l : List Str} {z : Str} (h : z ∈ l) : l[idxS l z]? = some z := by
  have hl := idx_lt h
  rw [List.getElem?_eq_getElem hl]
  have := List.findIdx_getElem (xs := l) (p := fun y => decide (y = z)) (w := hl)
  simp at this
  unfold idxS
  rw [this]
theorem idx_no {l : List Str} {z : Str} {j : Nat} (h : j < idxS l z) {y : Str} (e : l[j]? = some y) : ¬ y = z := by
  have hl : idxS l z ≤ l.length := List.findIdx_le_length
  have hj : j < l.length := by omega
  have := List.not_of_lt_findIdx (xs := l) (p := fun y => decide (y = z)) (i := j) h
  rw [List.getElem?_eq_getElem hj] at e
  rw [← Option.some.inj e]
  simpa using this
end DT
namespace DT
open PySem PySem.Spec PyProof.Rows L2
/-- all lists of a moment are as long as its fields are many -/
structure Wf (m : Mo) : Prop where
  h : m.hold.length = m.order.length
  f : m.free.length = m.order.length
  q : m.port.length = m.order.length
  a : m.arr.length = m.order.length
  c : m.cnt.length = m.order.length
  few : m.order.length ≤ 24
  nd : m.order.Nodup
  nl : ∀ z ∈ m.order, z.length ≤ 1000
theorem wf_new {z : Str} (hz : z.length ≤ 1000) : Wf (newMo z) := ⟨rfl, rfl, rfl, rfl, rfl, by show 1 ≤ 24; decide, (by show [z].Nodup; simp), fun x hx => by rw [List.mem_singleton.1 (show x ∈ [z] from hx)]; exact hz⟩
theorem wf_water {m : Mo} (h : Wf m) (h0 : 0 < m.order.length) {N M : Nat} (oa : AllOk N m.arr) (op : AllOk M m.port) : Wf (waterM m) := ⟨h.h, h.f, h.q, by have := (hour_ok oa op (by rw [h.a, h.q]) (by rw [h.a]; exact h0)).2.1; show (hourM m.arr m.port).2.length = _; rw [this]; exact h.a, by show (List.set _ _ _).length = _; rw [List.length_set]; exact h.c, h.few, h.nd, h.nl⟩
def gStrs (f : Mo → List Str) : Mo → Hp → Hp → V → Prop := fun m H H' v => ∃ r, v = .ref r ∧ H r = none ∧ H' r = some (.lst ((f m).map V.str))
def gPs (K : PySem.W.Frag) (f : Mo → List Q2) : Mo → Hp → Hp → V → Prop := fun m H H' v => ∃ r, v = .ref r ∧ H r = none ∧ LP K H' r (f m)
def gDebts (K : PySem.W.Frag) : Mo → Hp → Hp → V → Prop := fun m H H' v => ∃ r vs, v = .ref r ∧ H r = none ∧ H' r = some (.lst vs) ∧ Dbts K H' vs m.debts
def gInt (f : Mo → Int) : Mo → Hp → Hp → V → Prop := fun m H H' v => H' = H ∧ v = .int (f m)
/-- what a ditch tells of one field -/
def sp_field (K : PySem.W.Frag) (CM C CN : Addr) (g : Mo → Nat → Hp → V → Prop) : Sp := fun vs H Q E => ∃ (d dx n p u : Addr) (m : Mo) (ps us : List V) (z : Str), vs = [.ref d, .str z] ∧ DiAt K CM C H d dx n p u m ps us ∧ Wf m ∧ z.length ≤ 1000 ∧
  (z ∈ m.order → ∀ H' v, Same H H' → g m (idxS m.order z) H' v → Q v H') ∧ (z ∉ m.order → ∀ H', Same H H' → E (.ref CN) none H')
def gPart (K : PySem.W.Frag) (f : Mo → List Q2) : Mo → Nat → Hp → V → Prop := fun m i H v => Pp K H v (itemP (f m) i)
def gTurns : Mo → Nat → Hp → V → Prop := fun m i _ v => v = .int (m.cnt.getD i 0)
end DT
namespace DT
open PySem PySem.Spec PyProof.Rows L2
def sp_gain (K : PySem.W.Frag) (CM C CN : Addr) : Sp := fun vs H Q E => ∃ (d dx n p u : Addr) (m : Mo) (ps us : List V) (z : Str) (N : Nat), vs = [.ref d, .str z] ∧ DiAt K CM C H d dx n p u m ps us ∧ Wf m ∧ z.length ≤ 1000 ∧ AllOk N m.arr ∧ (∀ x ∈ m.cnt, Bd N x) ∧ (1 ≤ N ∧ N ≤ 4000) ∧
  (z ∈ m.order → ∀ H' v, Same H H' → Pp K H' v (addP (itemP m.arr (idxS m.order z)) (m.cnt.getD (idxS m.order z) 0, 1)) → Q v H') ∧ (z ∉ m.order → ∀ H', Same H H' → E (.ref CN) none H')
end DT
namespace DT
open PySem PySem.Spec PyProof.Rows L2
/-- the entries of a past: tuples of a deed and a moment -/
inductive PastT (H : Hp) : List V → List V → Prop
  | nil : PastT H [] []
  | cons {t : Addr} {dv mv : V} {vs ds : List V} : H t = some (.tup [dv, mv]) → PastT H vs ds → PastT H (.ref t :: vs) (dv :: ds)
theorem PastT.same {H H' : Hp} {vs ds : List V} (k : PastT H vs ds) (e : Same H H') : PastT H' vs ds := by
  induction k with
  | nil => exact .nil
  | cons a _ ih => exact .cons (e _ _ a) ih
theorem PastT.len {H : Hp} {vs ds : List V} (k : PastT H vs ds) : vs.length = ds.length := by
  induction k with
  | nil => rfl
  | cons _ _ ih => rw [List.length_cons, List.length_cons, ih]
theorem PastT.get {H : Hp} {vs ds : List V} (k : PastT H vs ds) : ∀ {i : Nat} {v : V}, vs[i]? = some v → ∃ t dv mv, v = .ref t ∧ ds[i]? = some dv ∧ H t = some (.tup [dv, mv]) := by
  induction k with
  | nil => intro i v h; cases h
  | cons a _ ih =>
    intro i v h
    cases i with
    | zero => cases h; exact ⟨_, _, _, rfl, rfl, a⟩
    | succ i => exact ih h
theorem PastT.snoc {H : Hp} {vs ds : List V} (k : PastT H vs ds) {t : Addr} {dv mv : V} (h : H t = some (.tup [dv, mv])) : PastT H (vs ++ [.ref t]) (ds ++ [dv]) := by
  induction k with
  | nil => exact .cons h .nil
  | cons a _ ih => exact .cons a ih
def sp_enter (K : PySem.W.Frag) (CM C : Addr) : Sp := fun vs H Q _ => ∃ (d dx n p u r : Addr) (m m' : Mo) (ps us : List V) (v : V), vs = [.ref d, v, .ref r] ∧ DiAt K CM C H d dx n p u m ps us ∧ MoAt K CM (del (mu d dx p u) H) r m' ∧ ps.length ≤ 900 ∧
  ∀ H' t u', Same (del (mu d dx p u) H) (del (mu d dx p u') H') → del (mu d dx p u') H' t = some (.tup [v, .ref n]) → DiAt K CM C H' d dx r p u' m' (ps ++ [.ref t]) [] → H u' = none → Q .non H'
def sp_hour0 (K : PySem.W.Frag) (CM C : Addr) : Sp := fun vs H Q _ => ∃ (d dx n p u : Addr) (m : Mo) (ps us : List V) (N M : Nat), vs = [.ref d] ∧ DiAt K CM C H d dx n p u m ps us ∧ Wf m ∧ m.debts = [] ∧ 0 < m.order.length ∧ AllOk N m.arr ∧ AllOk M m.port ∧ N + M ≤ 3700 ∧ ps.length ≤ 900 ∧
  ∀ H' t td u' r z, m.order[(hourM m.arr m.port).1]? = some z → Same (del (mu d dx p u) H) (del (mu d dx p u') H') → del (mu d dx p u') H' t = some (.tup [.ref td, .ref n]) → del (mu d dx p u') H' td = some (.tup [.str ("hour" : Str), .str z]) → DiAt K CM C H' d dx r p u' (waterM m) (ps ++ [.ref t]) [] → H u' = none → Q (.str z) H'
def sp_log (K : PySem.W.Frag) (CM C : Addr) : Sp := fun vs H Q _ => ∃ (d dx n p u : Addr) (m : Mo) (ps us ds : List V), vs = [.ref d] ∧ DiAt K CM C H d dx n p u m ps us ∧ PastT H ps ds ∧ ps.length ≤ 900 ∧ ∀ H' r, Same H H' → H r = none → H' r = some (.lst ds) → Q (.ref r) H'
theorem glue_same {M : List Addr} {H G : Hp} (hn : ∀ b ∈ M, G b = none) : Same G (del M (glue M H G)) := fun b o e => by
  have hb : b ∉ M := fun z => by rw [hn b z] at e; cases e
  rw [del_out hb, glue_out hb]
  exact e
end DT
namespace DT
open PySem PySem.Spec PyProof.Rows L2
/-! ### all that a ditch tells, as data -/
def datD (x : Debt) : PyData := .tuple [.str x.1, .str x.2.1, datP x.2.2.1, .int x.2.2.2]
theorem Dbt.dp {K : PySem.W.Frag} {H : Hp} {v : V} {x : Debt} (h : Dbt K H v x) : Dp K H v (datD x) := by
  obtain ⟨t, vp, rfl, e, p⟩ := h
  exact .tup (SqT.of e) (.cons (.str _) (.cons (.str _) (.cons (Pr.dp p) (.cons (.int _) .nil))))
theorem Dbts.dp {K : PySem.W.Frag} {H : Hp} {vs : List V} {xs : List Debt} (h : Dbts K H vs xs) : DpAll K H vs (xs.map datD) := by
  induction h with
  | nil => exact .nil
  | cons a _ ih => exact .cons a.dp ih
theorem strs_dp {K : PySem.W.Frag} {H : Hp} : ∀ l : List Str, DpAll K H (l.map V.str) (l.map PyData.str)
  | [] => .nil
  | z :: l => .cons (.str z) (strs_dp l)
def rows0 (m : Mo) : List PyData := [.list (m.order.map PyData.str), .list (m.arr.map datP), .list (m.debts.map datD), .int m.wet, .int m.dry]
def fieldRows (m : Mo) (i : Nat) : List PyData := [.list [datP (itemP m.hold i), datP (itemP m.free i), datP (itemP m.port i)], .list [datP (itemP m.arr i), datP (addP (itemP m.arr i) (m.cnt.getD i 0, 1)), .int (m.cnt.getD i 0)]]
def rowsTo (m : Mo) (i : Nat) : List PyData := rows0 m ++ ((List.range i).map (fieldRows m)).flatten
theorem rowsTo_succ (m : Mo) (i : Nat) : rowsTo m (i + 1) = rowsTo m i ++ fieldRows m i := by
  unfold rowsTo
  rw [List.range_succ, List.map_append, List.flatten_append, List.append_assoc]
  congr 2
theorem rowsTo_len (m : Mo) (i : Nat) : (rowsTo m i).length = 5 + 2 * i := by
  induction i with
  | zero => rfl
  | succ i ih =>
    rw [rowsTo_succ, List.length_append, ih]
    show 5 + 2 * i + 2 = _
    omega
def toldD (m : Mo) : PyData := .list (rowsTo m m.order.length)
theorem idx_nodup {l : List Str} (hn : l.Nodup) {i : Nat} {z : Str} (h : l[i]? = some z) : idxS l z = i := by
  have hm := List.mem_of_getElem? h
  have h2 := idx_at hm
  have hi := (List.getElem?_eq_some_iff.1 h).1
  have hl := idx_lt hm
  rw [List.getElem?_eq_getElem hl] at h2
  rw [List.getElem?_eq_getElem hi] at h
  have pw := List.pairwise_iff_getElem.1 hn
  rcases Nat.lt_trichotomy (idxS l z) i with c | c | c
  · exact absurd ((Option.some.inj h2).trans (Option.some.inj h).symm) (pw _ _ hl hi c)
  · exact c
  · exact absurd ((Option.some.inj h).trans (Option.some.inj h2).symm) (pw _ _ hi hl c)
theorem Pp.del {K : PySem.W.Frag} {H : Hp} {v : V} {x : Q2} {r : Addr} {vs : List V} (h : Pp K H v x) (hr : H r = some (.lst vs)) : Pp K (del [r] H) v x := by
  obtain ⟨p, rfl, q⟩ := h
  refine ⟨p, rfl, ?_⟩
  have out : ∀ o, H p = some o → (∀ ys, o ≠ .lst ys) → DT.del [r] H p = some o := fun o e ho => by
    have : p ≠ r := fun z => by rw [z, hr] at e; exact ho _ (Option.some.inj e).symm
    rw [del_out (by simp [this])]
    exact e
  rcases q with (q | ⟨o, q⟩) | q
  · exact .inl (.inl (out _ q (fun _ z => nomatch z)))
  · exact .inl (.inr ⟨o, out _ q (fun _ z => nomatch z)⟩)
  · exact .inr q
def sp_told (K : PySem.W.Frag) (CM C : Addr) : Sp := fun vs H Q _ => ∃ (d dx n p u : Addr) (m : Mo) (ps us : List V) (N : Nat), vs = [.ref d] ∧ DiAt K CM C H d dx n p u m ps us ∧ Wf m ∧ AllOk N m.arr ∧ (∀ x ∈ m.cnt, Bd N x) ∧ (1 ≤ N ∧ N ≤ 4000) ∧
  ∀ H' r, Same H H' → Dp K H' (.ref r) (toldD m) → Q (.ref r) H'
theorem del_upd {H : Hp} {r : Addr} {o : HO} : del [r] (upd H r o) = del [r] H := by
  funext b
  by_cases hb : b = r
  · rw [hb, del_in (by simp), del_in (by simp)]
  · rw [del_out (by simp [hb]), del_out (by simp [hb]), upd_ne hb]
theorem del_new {H H' : Hp} {r x : Addr} {o : HO} (hr : H r ≠ none) (hx : H x = none) (e : H' x = some o) : del [r] H' x = some o := by
  have : x ≠ r := fun z => hr (by rw [← z]; exact hx)
  rw [del_out (by simp [this])]
  exact e
end DT

namespace DT
open PySem PySem.Spec PyProof.Rows L2
/-! ### the law's own state -/
structure LSt where
  names : List Str
  own : List Q2
  gain : List Q2
  cnt : List Int
  loans : List Debt
  wet : Int
  dry : Int
def zk (l : List Str) (vs : List V) : List (Key × V) := List.zipWith (fun z v => (Sum.inr z, v)) l vs
theorem zk_val : ∀ {l : List Str} {vs : List V} {z : Str}, l.length = vs.length → z ∈ l → valV (zk l vs) (Sum.inr z) = vs[idxS l z]?
  | [], _, _, _, h => nomatch h
  | a :: l, [], _, h, _ => by cases h
  | a :: l, v :: vs, z, h, hz => by
    show valV ((Sum.inr a, v) :: zk l vs) (Sum.inr z) = _
    by_cases e : a = z
    · rw [valV_pos (by rw [e])]
      have : idxS (a :: l) z = 0 := by unfold idxS; rw [List.findIdx_cons]; simp [e]
      rw [this]
      rfl
    · rw [valV_neg (fun q => e (Sum.inr.inj q))]
      have hz' : z ∈ l := by
        rcases List.mem_cons.1 hz with q | q
        · exact absurd q.symm e
        · exact q
      have : idxS (a :: l) z = idxS l z + 1 := by unfold idxS; rw [List.findIdx_cons]; simp [e]
      rw [this, List.getElem?_cons_succ]
      exact zk_val (by simpa using h) hz'
structure StIn (K : PySem.W.Frag) (H : Hp) (kvs : List (Key × V)) (st : LSt) (an al ao ag ac : Addr) (ovs gvs lvs : List V) : Prop where
  vn : valV kvs (Sum.inr ("names" : Str)) = some (.ref an)
  vl : valV kvs (Sum.inr ("loans" : Str)) = some (.ref al)
  vo : valV kvs (Sum.inr ("own" : Str)) = some (.ref ao)
  vg : valV kvs (Sum.inr ("gain" : Str)) = some (.ref ag)
  vc : valV kvs (Sum.inr ("count" : Str)) = some (.ref ac)
  vw : valV kvs (Sum.inr ("wet" : Str)) = some (.int st.wet)
  vd : valV kvs (Sum.inr ("dry" : Str)) = some (.int st.dry)
  en : H an = some (.lst (st.names.map V.str))
  el : H al = some (.lst lvs)
  dl : Dbts K H lvs st.loans
  eo : H ao = some (.dK (zk st.names ovs))
  po : Pps K H ovs st.own
  eg : H ag = some (.dK (zk st.names gvs))
  pg : Pps K H gvs st.gain
  ec : H ac = some (.dK (zk st.names (st.cnt.map V.int)))
def StAt (K : PySem.W.Frag) (H : Hp) (s : Addr) (st : LSt) : Prop := ∃ kvs an al ao ag ac ovs gvs lvs, H s = some (.dK kvs) ∧ StIn K H kvs st an al ao ag ac ovs gvs lvs
theorem StAt.same {K : PySem.W.Frag} {H H' : Hp} {s : Addr} {st : LSt} (h : StAt K H s st) (e : Same H H') : StAt K H' s st := by
  obtain ⟨kvs, an, al, ao, ag, ac, ovs, gvs, lvs, es, k⟩ := h
  exact ⟨kvs, an, al, ao, ag, ac, ovs, gvs, lvs, e _ _ es, k.vn, k.vl, k.vo, k.vg, k.vc, k.vw, k.vd, e _ _ k.en, e _ _ k.el, k.dl.same e, e _ _ k.eo, k.po.same e, e _ _ k.eg, k.pg.same e, e _ _ k.ec⟩
structure WfS (st : LSt) (N : Nat) : Prop where
  o : st.own.length = st.names.length
  g : st.gain.length = st.names.length
  c : st.cnt.length = st.names.length
  few : st.names.length ≤ 24
  nd : st.names.Nodup
  oo : AllOk N st.own
  og : AllOk N st.gain
  oc : ∀ x ∈ st.cnt, Bd N x
  n1 : 1 ≤ N
  n2 : N ≤ 4000
def freshS (z : Str) : LSt := ⟨[z], [(1, 1)], [(0, 1)], [0], [], 0, 0⟩
theorem wfs_fresh (z : Str) : WfS (freshS z) 1 := ⟨rfl, rfl, rfl, by show 1 ≤ 24; decide, by show [z].Nodup; simp, fun x hx => by rw [List.mem_singleton.1 hx]; exact ⟨⟨by decide, by unfold Bd; decide, by unfold Bd; decide⟩, by decide, rfl⟩, fun x hx => by rw [List.mem_singleton.1 hx]; exact ⟨⟨by decide, by unfold Bd; decide, by unfold Bd; decide⟩, by decide, rfl⟩, fun x hx => by rw [List.mem_singleton.1 hx]; unfold Bd; decide, by decide, by decide⟩
def sp_fresh (K : PySem.W.Frag) : Sp := fun vs H Q _ => ∃ z : Str, vs = [.str z] ∧ ∀ H' r, Same H H' → H r = none → StAt K H' r (freshS z) → Q (.ref r) H'
def llag (st : LSt) (i : Nat) : Q2 := subP (itemP st.gain i) (st.cnt.getD i 0, 1)
def lfree0 (st : LSt) (i : Nat) : Q2 := subP (itemP st.own i) (0, 1)
def lshare0 (st : LSt) (i : Nat) : Q2 := addP (lfree0 st i) (0, 1)
def sp_l0 (K : PySem.W.Frag) (f : LSt → Nat → Q2) : Sp := fun vs H Q _ => ∃ (s : Addr) (st : LSt) (z : Str) (N : Nat), vs = [.ref s, .str z] ∧ StAt K H s st ∧ WfS st N ∧ st.loans = [] ∧ z ∈ st.names ∧ ∀ H' v, Same H H' → Pp K H' v (f st (idxS st.names z)) → Q v H'
def mrows0 (st : LSt) : List PyData := [.list (st.names.map PyData.str), .list ((List.range st.names.length).map fun i => datP (llag st i)), .list (st.loans.map datD), .int st.wet, .int st.dry]
def mfield (st : LSt) (i : Nat) : List PyData := [.list [datP (itemP st.own i), datP (lfree0 st i), datP (lshare0 st i)], .list [datP (llag st i), datP (itemP st.gain i), .int (st.cnt.getD i 0)]]
def mrowsTo (st : LSt) (i : Nat) : List PyData := mrows0 st ++ ((List.range i).map (mfield st)).flatten
theorem mrowsTo_succ (st : LSt) (i : Nat) : mrowsTo st (i + 1) = mrowsTo st i ++ mfield st i := by
  unfold mrowsTo
  rw [List.range_succ, List.map_append, List.flatten_append, List.append_assoc]
  congr 2
theorem mrowsTo_len (st : LSt) (i : Nat) : (mrowsTo st i).length = 5 + 2 * i := by
  induction i with
  | zero => rfl
  | succ i ih =>
    rw [mrowsTo_succ, List.length_append, ih]
    show 5 + 2 * i + 2 = _
    omega
def meantD (st : LSt) : PyData := .list (mrowsTo st st.names.length)
def sp_meant0 (K : PySem.W.Frag) : Sp := fun vs H Q _ => ∃ (s : Addr) (st : LSt) (N : Nat), vs = [.ref s] ∧ StAt K H s st ∧ WfS st N ∧ st.loans = [] ∧ ∀ H' r, Same H H' → Dp K H' (.ref r) (meantD st) → Q (.ref r) H'
theorem a00 : addP (0, 1) (0, 1) = (0, 1) := by decide +kernel
theorem s00 : subP (0, 1) (0, 1) = (0, 1) := by decide +kernel
theorem s10' : subP (1, 1) (0, 1) = (1, 1) := by decide +kernel
theorem a10 : addP (1, 1) (0, 1) = (1, 1) := by decide +kernel
def freshD (z : Str) : PyData := .list [.list [.str z], .list [datP (0, 1)], .list [], .int 0, .int 0, .list [datP (1, 1), datP (1, 1), datP (1, 1)], .list [datP (0, 1), datP (0, 1), .int 0]]
theorem told_new (z : Str) : toldD (newMo z) = freshD z := by
  have e : toldD (newMo z) = .list [.list [.str z], .list [datP (0, 1)], .list [], .int 0, .int 0, .list [datP (1, 1), datP (1, 1), datP (1, 1)], .list [datP (0, 1), datP (addP (0, 1) (0, 1)), .int 0]] := rfl
  rw [e, a00]
  rfl
theorem meant_new (z : Str) : meantD (freshS z) = freshD z := by
  have e : meantD (freshS z) = .list [.list [.str z], .list [datP (subP (0, 1) (0, 1))], .list [], .int 0, .int 0, .list [datP (1, 1), datP (subP (1, 1) (0, 1)), datP (addP (subP (1, 1) (0, 1)) (0, 1))], .list [datP (subP (0, 1) (0, 1)), datP (0, 1), .int 0]] := rfl
  rw [e, s00, s10', a10]
  rfl
theorem plain_new (z : Str) : Plain 3 (freshD z) := by
  refine ⟨by show 7 ≤ 900; decide, ?_⟩
  intro d hd
  simp only [List.mem_cons, List.not_mem_nil, or_false] at hd
  rcases hd with rfl | rfl | rfl | rfl | rfl | rfl | rfl <;> simp [Plain, datP]
end DT
namespace DT
open PySem PySem.Spec PyProof.Rows L2
def sp_stands0 (K : PySem.W.Frag) (CM C : Addr) : Sp := fun vs H Q _ => ∃ (d dx n p u : Addr) (m : Mo) (ps us : List V) (N : Nat) (s : Addr) (st : LSt) (M : Nat), vs = [.ref d, .ref s] ∧ DiAt K CM C H d dx n p u m ps us ∧ Wf m ∧ AllOk N m.arr ∧ (∀ x ∈ m.cnt, Bd N x) ∧ (1 ≤ N ∧ N ≤ 4000) ∧ StAt K H s st ∧ WfS st M ∧ st.loans = [] ∧ toldD m = meantD st ∧ Plain 3 (toldD m) ∧ ∀ H', Same H H' → Q (.bl true) H'
end DT

namespace DT
open PySem PySem.Spec PyProof.Rows L2
theorem sumN0 (N : Nat) : Ok ((N + 1) * (0 + 1)) (sumP []) := (⟨by decide, by unfold Bd; decide, by unfold Bd; decide⟩ : Ok 1 (sumP [])).mono (by omega)
/-- the sum of a list of any pairs, their size with it -/
def sp_sumN (K : PySem.W.Frag) (C : Q2 → Prop) : Sp := fun vs H Q _ => ∃ (l : Addr) (us : List V) (xs : List Q2) (N : Nat), vs = [.ref l] ∧ SqL K H l us ∧ Pps K H us xs ∧ (∀ x ∈ xs, Ok N x) ∧ (N + 1) * (xs.length + 1) ≤ 8890 ∧ (∀ x ∈ xs, C x) ∧
  ∀ H' r, Same H H' → Pp K H' r (sumP xs) → Ok ((N + 1) * (xs.length + 1)) (sumP xs) → Low (sumP xs).1 (sumP xs).2 → Q r H'
end DT

namespace DT
open PySem PySem.Spec PyProof.Rows L2
/-- an object is made within a try: what its __init__ raises is told with the slots as they are -/
def tMakeS (C : Addr) (sp : Sp) (E : L2.St → XK) (t : TA) : TE := fun σ H Q => t σ H fun vs H1 => ∀ x dx, H1 x = none → H1 dx = none → dx ≠ x → sp (.ref x :: vs) (upd (upd H1 dx (.own x)) x (.ins C dx [])) (fun v H2 => v = .non ∧ Q (.ref x) H2) (E σ)
section
variable {X : Cx} {CX : CXT} {k : Nat} {f C : Addr} {fd : FuncData} {ps : List Str} {sp : Sp} {E : L2.St → XK} {x : Str} {p pos : Pos} {e : Expr} {es : List Expr} {t : TA}
theorem make_at {pins : List (Addr × Obj)} {σ : L2.St} {H : Hp} {s : Shared} {Q : VK} {us : List Value} {vs : List V} (M : Mk X.K C f) (F : FnOk X.prog X.w X.K X.mg X.base CX k f fd ps sp) (room : Room (k + 1) X.A) (bi : Binds X.K fd ps []) (pass : PassesAt CX X σ (E σ)) (I : Inv X pins σ H s) (rv : Vals vs us)
    (h : ∀ x dx, H x = none → H dx = none → dx ≠ x → sp (.ref x :: vs) (upd (upd H dx (.own x)) x (.ins C dx [])) (fun v H2 => v = .non ∧ Q (.ref x) H2) (E σ)) : wpAny (model X.prog X.w) X.A (call (.ref C) us) (EP X pins σ Q) X.xe s := by
  have J := Inv.made (C := C) I
  have told := h (s.heap.objs.size + 1) s.heap.objs.size (I.hok.fresh (Nat.le_succ _)) (I.hok.fresh (Nat.le_refl _)) (Nat.ne_of_lt (Nat.lt_succ_self _))
  have rw2 : Vals (V.ref (s.heap.objs.size + 1) :: vs) (Value.ref (s.heap.objs.size + 1) :: us) := .cons rfl rv
  have len : (Value.ref (s.heap.objs.size + 1) :: us).length = ps.length := rw2.length.symm.trans (F.len _ _ _ _ told)
  have b := bi _ (Value.ref (s.heap.objs.size + 1) :: us) J.kIn (by rw [List.append_nil]; exact len)
  rw [List.append_nil] at b
  have go := F.run _ X.stack _ _ ⟨Value.ref (s.heap.objs.size + 1) :: us, []⟩ _ _ _ (E σ) (room.make C us []) (J.env0.make C us []) b rw2 told
  refine wpAny_call (make_map (f := f) I.kIn M.makes M.init (beq_iff_eq.mp M.fn) (codeAny_mono go fun res s' out => ?_))
  match res, out with
  | .error e, out => exact pass pins _ _ e s' J out
  | .ok (.ret u), out =>
    obtain ⟨v, H', J', ru, rfl, q⟩ := J.after out
    exact ⟨ru, ⟨V.ref (s.heap.objs.size + 1), H', J', rfl, q⟩⟩
  | .ok .next, out => exact out.elim
  | .ok .brk, out => exact out.elim
  | .ok .cont, out => exact out.elim
theorem pe_makeS (M : Mk X.K C f) (F : FnOk X.prog X.w X.K X.mg X.base CX k f fd ps sp) (room : Room (k + 1) X.A) (hg : Gl X x) (hm : X.mg x = some (.ref C)) (bi : Binds X.K fd ps []) (pass : ∀ σ, PassesAt CX X σ (E σ))
    (ha : PA X (e :: es) t) (hdb : (x == ("__debug__" : Str)) = false := by decide) (he : starEach (e :: es) X.env = (false, eval e X.env) :: starEach es X.env := by rfl) (hpl : (backTo pos (starEach es X.env)).any (·.1) = false := by rfl) :
    PE X (.Call (.Name x p) (e :: es) [] pos) (tMakeS C sp E t) :=
  ⟨fun pins s σ H Q I h => wpAny_Call_Name_kw (ld_glob I hg hm (PySem.W.callWith_K (h₀ := X.base) I.ok.mod.kin M.kp (thn (ha.run pos pins s σ H _ I h) fun _ _ ⟨_, _, J, rv, q⟩ => ⟨J.kIn, make_at M F room bi (pass σ) J rv q⟩) he hpl) hdb)⟩
end
/-! ### a def called within an except suite -/
theorem roomS {k : Nat} {A : Around} {v : Option Value} (r : Room k A) : L2H.RoomH k (A.mark v) := ⟨r.dp, r.un⟩
theorem hotS {X : Cx} {a : Addr} {oe : Obj} {cls : Value} {d : Option Addr} {pn : List (Addr × Obj)} (hz : L2N.Zn cls d oe) (hf : ∃ vs, oe.data = .fields vs) : L2H.HotC (X.suite a ((a, oe) :: pn)) := by
  obtain ⟨vs, e⟩ := hf
  exact ⟨(a, oe), ⟨rfl, vs, e, hz.2.2 vs e⟩, List.mem_cons_self⟩
theorem takes0N {X : Cx} : L2N.Takes X (fun _ _ _ _ => False) := fun _ _ x => by
  obtain ⟨_, _, _, _, _, _, _, _, _, _, _, _, _, _, _, _, z⟩ := x
  exact z.elim
theorem passFN {P : Program} {w : World} {X : Cx} : Passes (L2N.CX P w) X E0 := fun _ _ _ _ _ _ _ h => by
  obtain ⟨_, _, _, _, _, _, _, _, _, _, _, _, z⟩ := h
  exact z.elim
theorem passS {X : Cx} {σ : L2.St} {E : XK} : PassesAt CX0 X σ E := fun _ _ _ _ _ _ z => z.elim
end DT

namespace DT
open PySem PySem.Spec PyProof.Rows L2 L2H HotX
/-! ### a text walked while an exception is handled -/
section
variable {prog : Program} {w : World} {A : Around} {E : Value → Shared → Prop} {s : Shared}
def TextIt (ty : String) : Prop := ty = "str_ascii_iterator" ∨ ty = "str_iterator"
theorem text_in {z : Str} {t : Tok} {Q : Value → Shared → Prop}
    (hQ : ∀ ty hp, TextIt ty → (∀ b o, s.heap.get? b = some o → hp.get? b = some o) → hp.IsStrIter s.heap.objs.size ty z t 0 → Q (.ref s.heap.objs.size) { s with heap := hp }) :
    wpAny (model prog w) A (pyIter (.str z t)) Q E s := by
  cases ha : z.cps.all (· < 128)
  · exact wpAny_pyIter_wide ha (hQ "str_iterator" _ (.inr rfl) (fun b o e => Heap.get?_push_of_some _ e) ⟨_, Heap.get?_push_size _ rfl, rfl, rfl⟩)
  · exact wpAny_pyIter_ascii ha (hQ "str_ascii_iterator" _ (.inl rfl) (fun b o e => Heap.get?_push_of_some _ e) ⟨_, Heap.get?_push_size _ rfl, rfl, rfl⟩)
theorem text_next {io : Addr} {z : Str} {t : Tok} {n c : Nat} {ty : String} {Q : Option Value → Shared → Prop} (hty : TextIt ty) (hit : s.heap.IsStrIter io ty z t n) (hz : z.cps[n]? = some c)
    (hQ : ∀ hp, hp.IsStrIter io ty z t (n + 1) → Heap.SameBut io s.heap hp → Q (some (.str ⟨#[c]⟩ s.toks)) { s with heap := hp, toks := s.toks + 1 }) :
    wpAny (model prog w) A (pyNext (.ref io)) Q E s := by
  rcases hty with rfl | rfl
  · exact wpAny_pyNext_ascii_item hit hz hQ
  · exact wpAny_pyNext_wide_item hit hz hQ
theorem text_out {io x1 : Addr} {z : Str} {t : Tok} {n : Nat} {ty : String} {Q : Option Value → Shared → Prop} (hty : TextIt ty) (hot : HotAt A x1 s.heap) (far : x1 ≠ io)
    (hit : s.heap.IsStrIter io ty z t n) (hz : z.cps[n]? = none) (hQ : ∀ hp, Heap.ExtBut io s.heap hp → Q none { s with heap := hp }) : wpAny (model prog w) A (pyNext (.ref io)) Q E s := by
  obtain ⟨ob, ho, hcl, hda⟩ := id hit
  obtain ⟨hh, o1, vs1, h1, d1, c1⟩ := hot
  unfold pyNext
  rcases hty with rfl | rfl
  · refine wpAny_bind (wpAny_attempt (wpAny_callSpecial?_slot (name := Str.ofString "__next__") hit.typeIs F.slot_str_ascii_iterator_next (wpAny_call_entry F.slot_str_ascii_iterator_next hit.typeIs F.entry_str_ascii_iterator_next ?_ (F.args_str_ascii_iterator_next_1 _))))
    show wpAny _ _ (field (.ref io) 0 >>= _) _ _ _
    refine wpAny_bind (wpAny_field ho hda (x := .str z t) rfl ?_)
    show wpAny _ _ (field (.ref io) 1 >>= _) _ _ _
    refine wpAny_bind (wpAny_field ho hda (x := .int n 0) rfl ?_)
    simp only [Int.toNat_natCast, hz]
    refine wpAny_bind (wpAny_rule (wpAny_bind (wpAny_setField ho hda (by simp) (wpAny_bind (wpAny_letGo ?_)))))
    show wpAny _ _ (Bind.bind (newExc (.type "StopIteration") []) _) _ _ _
    refine wpAny_bind ?_
    simp only [newExc, newTuple]
    refine wpAny_bind (wpAny_newObj_type ?_ (by size_fits))
    refine wpAny_bind (m := firstArgMember _ _) (wpAny_of_eq (a := Value.none) (by first | rfl | (simp only [firstArgMember]; rfl)) (wpAny_newObj_type ?_ (by size_fits)))
    have h1' : (s.heap.update io (Obj.mapFields fun x => x.setIfInBounds 0 Value.none)).get? x1 = some o1 := by rw [Heap.get?_update_other _ _ (Ne.symm far)]; exact h1
    refine raiseNew_hot ⟨hh, o1, vs1, Heap.get?_push_of_some _ (Heap.get?_push_of_some _ h1'), d1, c1⟩ (Nat.ne_of_lt (Heap.lt_size (Heap.get?_push_of_some _ h1'))) (Heap.get?_push_size _ rfl) rfl (by first | (simp; done) | (simp; omega)) ?_
    refine wpAny_bind (wpAny_isInstance (T := "StopIteration") (b := true) ⟨_, Heap.get?_update_self _ (Heap.get?_push_size _ rfl) rfl, rfl⟩ isSubtype_stop ?_)
    refine wpAny_pure (hQ _ fun b o nb e => ?_)
    have e' : (s.heap.update io (Obj.mapFields fun x => x.setIfInBounds 0 Value.none)).get? b = some o := by rw [Heap.get?_update_other _ _ (Ne.symm nb)]; exact e
    rw [Heap.get?_update_other _ _ (Nat.ne_of_gt (Heap.lt_size (Heap.get?_push_of_some _ e')))]
    exact Heap.get?_push_of_some _ (Heap.get?_push_of_some _ e')
  · refine wpAny_bind (wpAny_attempt (wpAny_callSpecial?_slot (name := Str.ofString "__next__") hit.typeIs F.slot_str_iterator_next (wpAny_call_entry F.slot_str_iterator_next hit.typeIs F.entry_str_iterator_next ?_ (F.args_str_iterator_next_1 _))))
    show wpAny _ _ (field (.ref io) 0 >>= _) _ _ _
    refine wpAny_bind (wpAny_field ho hda (x := .str z t) rfl ?_)
    show wpAny _ _ (field (.ref io) 1 >>= _) _ _ _
    refine wpAny_bind (wpAny_field ho hda (x := .int n 0) rfl ?_)
    simp only [Int.toNat_natCast, hz]
    refine wpAny_bind (wpAny_rule (wpAny_bind (wpAny_setField ho hda (by simp) (wpAny_bind (wpAny_letGo ?_)))))
    show wpAny _ _ (Bind.bind (newExc (.type "StopIteration") []) _) _ _ _
    refine wpAny_bind ?_
    simp only [newExc, newTuple]
    refine wpAny_bind (wpAny_newObj_type ?_ (by size_fits))
    refine wpAny_bind (m := firstArgMember _ _) (wpAny_of_eq (a := Value.none) (by first | rfl | (simp only [firstArgMember]; rfl)) (wpAny_newObj_type ?_ (by size_fits)))
    have h1' : (s.heap.update io (Obj.mapFields fun x => x.setIfInBounds 0 Value.none)).get? x1 = some o1 := by rw [Heap.get?_update_other _ _ (Ne.symm far)]; exact h1
    refine raiseNew_hot ⟨hh, o1, vs1, Heap.get?_push_of_some _ (Heap.get?_push_of_some _ h1'), d1, c1⟩ (Nat.ne_of_lt (Heap.lt_size (Heap.get?_push_of_some _ h1'))) (Heap.get?_push_size _ rfl) rfl (by first | (simp; done) | (simp; omega)) ?_
    refine wpAny_bind (wpAny_isInstance (T := "StopIteration") (b := true) ⟨_, Heap.get?_update_self _ (Heap.get?_push_size _ rfl) rfl, rfl⟩ isSubtype_stop ?_)
    refine wpAny_pure (hQ _ fun b o nb e => ?_)
    have e' : (s.heap.update io (Obj.mapFields fun x => x.setIfInBounds 0 Value.none)).get? b = some o := by rw [Heap.get?_update_other _ _ (Ne.symm nb)]; exact e
    rw [Heap.get?_update_other _ _ (Nat.ne_of_gt (Heap.lt_size (Heap.get?_push_of_some _ e')))]
    exact Heap.get?_push_of_some _ (Heap.get?_push_of_some _ e')
end
section
variable {X : Cx}
/-- [elt for tg in text] where an exception is handled -/
theorem pe_lcT {elt tg iter : Expr} {scope : Scope} {own : List (Str × Nat)} {pos : Pos} {ti te : TE} {g : TG} (hot : HotC X) (hN : X.N.Nodup) (hi : PE X iter ti) (ok : BlkOk X.N X.env.scope scope own)
    (hg : ∀ s H C cl fp, PG (X.blk s H scope (compEnvC scope cl C X.env) fp) tg g) (he : ∀ s H C cl fp, PE (X.blk s H scope (compEnvC scope cl C X.env) fp) elt te)
    (hs : ∀ x, foldedSetIterable iter X.env x = pure x := by intro _; rfl) : PE X (.ListComp elt [⟨tg, iter, [], 0⟩] scope pos) (tLc (iStr ti) g tYes te (own.map (·.2))) := by
  refine ⟨fun pins s σ H Q I h => ?_⟩
  rw [eval_ListComp]
  have cap : ∀ y ∈ scope.names, y.2 = .free → ∃ c, X.env.cells.lookup y.1 = some c := fun y hy e => (ok.free y hy e).elim (fun k => I.ok.has _ (.inl k)) (fun k => I.ok.has _ (.inr k))
  refine wpAny_comprehension_free (use := none) rfl hs (closure_ok cap) ok.kind (fun y hy e => by rw [ok.uniq y hy, e]) (thn (hi.run pins s σ H _ I h) fun xv s1 ⟨y, H1, I1, r1, z, ez, q⟩ => ?_)
  subst ez
  obtain ⟨t, rfl⟩ := r1
  refine text_in fun ty h2 hty k2 st2 => ?_
  have I2 : Inv X pins σ H1 { s1 with heap := h2 } := I1.kept (t' := s1.toks) k2
  have fo : FpOk X pins H1 s1.heap.objs.size := I1.fpOk (Nat.le_refl _) (I1.hok.fresh (Nat.le_refl _))
  have lio : s1.heap.objs.size < h2.objs.size := by
    obtain ⟨o, e, _⟩ := st2
    exact Heap.lt_size e
  generalize s1.heap.objs.size = io at st2 fo lio ⊢
  refine wpAny_newObj_type (newEnv_comp ?_) (by show 0 ≤ sizeLine; decide)
  have nD : H1 h2.objs.size = none := I2.hok.fresh (Nat.le_refl _)
  obtain ⟨W, ⟨m0, w0⟩, turn⟩ := q h2.objs.size nD
  -- the new list
  have I3 : Inv X pins σ (upd H1 h2.objs.size (.lst [])) { s1 with heap := h2.push { cls := .type "list", data := .seq ([] : List Value).toArray } } :=
    I2.laid (t' := s1.toks) (fun b o e => Heap.get?_push_of_some _ e) (Nat.le_refl _) ⟨Nat.zero_le _, [], 0, .nil, Heap.get?_push_size _ rfl⟩
  have fo3 : ∀ b ∈ [io], FpOk X pins (upd H1 h2.objs.size (.lst [])) b ∧ b < (h2.push { cls := .type "list", data := .seq ([] : List Value).toArray }).objs.size := fun b hb => by
    rw [List.mem_singleton.1 hb]
    exact ⟨⟨by rw [upd_ne (Nat.ne_of_lt lio)]; exact fo.1, fo.2⟩, by rw [Heap.size_push]; exact Nat.lt_succ_of_lt lio⟩
  have st3 : (h2.push { cls := .type "list", data := .seq ([] : List Value).toArray }).IsStrIter io ty z t 0 := by
    obtain ⟨o, e, r⟩ := st2
    exact ⟨o, Heap.get?_push_of_some _ e, r⟩
  show codeAny _ _ (.compStart (.ListComp elt [⟨tg, iter, [], 0⟩] scope pos) 0 (.ref io) (.ref h2.objs.size) _) (compPost _ _ _ none _ (.ref h2.objs.size) _) _
  generalize hD : h2.objs.size = D at I3 fo3 w0 turn ⊢
  generalize hh3 : h2.push { cls := .type "list", data := .seq ([] : List Value).toArray } = h3 at I3 fo3 st3 ⊢
  generalize hH3 : upd H1 D (.lst []) = H3 at I3 fo3 w0 ⊢
  have I4 := block_start I3 ok hN fo3
  have pg := hg { s1 with heap := h3 } H3 h3.objs.size (cellsFrom (h3.objs.size + 1) scope.names (cloFrom X.env.cells scope.names [])) [io]
  have pe := he { s1 with heap := h3 } H3 h3.objs.size (cellsFrom (h3.objs.size + 1) scope.names (cloFrom X.env.cells scope.names [])) [io]
  show codeAny _ _ (.compStart (.ListComp elt [⟨tg, iter, [], 0⟩] scope pos) 0 (.ref io) (.ref D) (compEnvC scope (cellsFrom (h3.objs.size + 1) scope.names (cloFrom X.env.cells scope.names [])) h3.objs.size X.env)) (compPost _ _ _ none _ (.ref D) h3.objs.size) _
  generalize hce : compEnvC scope (cellsFrom (h3.objs.size + 1) scope.names (cloFrom X.env.cells scope.names [])) h3.objs.size X.env = ce at I4 pg pe ⊢
  have cL : ce.locals = h3.objs.size := by subst hce; rfl
  generalize hs4 : ({ heap := pushCells (h3.push { cls := .type "dict", data := .dict #[] }) scope.names, gens := s1.gens, drawn := s1.drawn, toks := s1.toks, os := s1.os } : Shared) = s4 at I4 ⊢
  have st4 : s4.heap.IsStrIter io ty z t 0 := by
    obtain ⟨o, e, r⟩ := st3
    exact ⟨o, by rw [← hs4]; exact pushCells_keeps _ _ _ _ (Heap.get?_push_of_some _ e), r⟩
  have n3 : H3 io = none := (fo3 io (by simp)).1.1
  have fb : ∀ {σ' : L2.St} {G : Hp} {s' : Shared}, Inv (X.blk { s1 with heap := h3 } H3 scope ce [io]) [] σ' G s' → G io = none → ∀ b ∈ [io], FpOk (X.blk { s1 with heap := h3 } H3 scope ce [io]) [] G b := fun {σ' G s'} J hn b hb => by
    rw [List.mem_singleton.1 hb]
    have mb : io ∈ (X.blk { s1 with heap := h3 } H3 scope ce [io]).ex := List.mem_singleton.2 rfl
    exact ⟨hn, (J.ok.exf io mb).1, J.ok.exfs io mb, .inl mb, (J.ok.exf io mb).2, fun p hp => nomatch hp⟩
  -- the handled exception stands there all the while
  obtain ⟨p, ⟨hh, v1, e1, c1⟩, hp⟩ := hot
  have P3 := I3.pin p (List.mem_append_left _ hp)
  have pio : p.1 ≠ io := fo.2.2.2.2.2 p (List.mem_append_left _ hp)
  have hotS : ∀ {σ' : L2.St} {G : Hp} {s' : Shared}, Inv (X.blk { s1 with heap := h3 } H3 scope ce [io]) [] σ' G s' → HotAt X.A p.1 s'.heap := fun {σ' G s'} J =>
    ⟨hh, p.2, v1, J.base.keep p.1 p.2 P3.1 P3.2.1 (fun hm => (List.mem_cons.mp (I3.stkSub p.1 hm)).elim P3.2.2.1 P3.2.2.2.1) (fun z => pio (List.mem_singleton.1 z)), e1, c1⟩
  have walk : codeAny (model X.prog X.w) X.A (.compLoop (.ListComp elt [⟨tg, iter, [], 0⟩] scope pos) 0 (.ref io) (.ref D) ce) (compPost (model X.prog X.w) X.A X.xe none (EP X pins σ Q) (.ref D) h3.objs.size) s4 := by
    refine compLoop_any (fun n s' => ∃ i G, Inv (X.blk { s1 with heap := h3 } H3 scope ce [io]) [] (wipe σ (own.map (·.2))) G s' ∧ s'.heap.IsStrIter io ty z t i ∧ G io = none ∧ W i n G) ?_ m0 ⟨0, H3, I4, st4, n3, w0⟩
    rintro n s5 ⟨i, G5, I5, st5, n5, w5⟩
    obtain ⟨f0, f1, f2, f3, f4, f5⟩ := fb I5 n5 io (by simp)
    rcases turn i n G5 w5 with ⟨out, qq⟩ | ⟨go, Nx, hNx, step⟩
    · refine text_out hty (hotS I5) pio st5 (Array.getElem?_eq_none out) fun h6 eb => ?_
      have I6 := I5.turned (t' := s5.toks) (h' := h6) (fun b o nb e => eb b o nb e) f0 f1 f3 f4 f5
      have I7 : Inv X pins σ G5 { s5 with heap := h6 } := I3.call' (ch := [io]) I6.os I6.base I6.hok I6.bare fun b hb => by
        rw [List.mem_singleton.1 hb]
        exact ⟨fo.2.2.2.1, fo.2.1, fo.2.2.2.2.1, fo.2.2.2.2.2⟩
      have nC : G5 h3.objs.size = none := by rw [← cL]; exact I6.free
      obtain ⟨m, hn, _⟩ := I6.loc
      have hn : Heap.Ns h6 ce.locals m := hn
      rw [cL] at hn
      obtain ⟨a0, a1, a2, a3, a4, a5⟩ := I3.fpOk (H' := G5) (Nat.le_refl _) nC
      exact ⟨m, hn, fun h8 sb => ⟨.ref D, G5, I7.turned (t' := s5.toks) (fun b o nb e => (sb.2 b nb).trans e) a0 a1 a3 a4 a5, rfl, qq⟩⟩
    · have lt : i < z.cps.size := go
      refine text_next hty st5 (Array.getElem?_eq_getElem lt) fun h6 st6 sb => ?_
      have I6 := I5.turned (t' := s5.toks + 1) (h' := h6) (fun b o nb e => (sb.2 b nb).trans e) f0 f1 f3 f4 f5
      obtain ⟨oi, ei, ci, di⟩ := id st6
      have hno : ["enumerate", "zip", "dict_itemiterator", "dict_reverseitemiterator", "odict_iterator", "itertools.zip_longest", "itertools.pairwise"].contains ty = false := by
        rcases hty with e | e <;> (rw [e]; decide)
      refine go_of (s := { s5 with heap := h6, toks := s5.toks + 1 }) ei ci di hno ?_
      have I7 := I6.pinned (fb I6 n5) (fun b hb => by rw [List.mem_singleton.1 hb]; exact ⟨oi, ei, fun v ev => by rw [di] at ev; cases ev⟩)
      refine thnF (pg.run _ _ _ G5 (.str ⟨#[z.cps[i]]⟩) _ _ I7 ⟨_, rfl⟩ (step (.str ⟨#[z.cps[i]]⟩) G5 ⟨rfl, _, Array.getElem?_eq_getElem lt, rfl⟩)) fun _ s8 ⟨σ8, G8, I8, hw8, q8⟩ => ?_
      refine wpAny_tests_nil ?_
      have q8 : te σ8 G8 _ := q8
      simp only [if_true]
      refine thnF (pe.run _ s8 σ8 G8 _ I8 q8) fun u s9 ⟨yv, G9, I9, r9, acc, hD9, hz9, nx⟩ => ?_
      refine app_ok (X := X.blk { s1 with heap := h3 } H3 scope ce [io]) I9 hD9 hz9 r9 fun s10 J => ?_
      obtain ⟨m', hm, w'⟩ := hNx _ nx
      have pin' := J.pin (io, oi) (List.mem_append_right _ (List.mem_append_right _ (mem_pinsAt (by simp) ei)))
      have hl : (wipe σ (own.map (·.2))).length = σ8.length := by rw [← hw8, wipe_length]
      exact ⟨m', hm, i + 1, _, (J.unpinned (pins := [])).weak hl (fun j v e => by rw [← hw8] at e; exact (wipe_some e).1), ⟨oi, pin'.1, ci, di⟩, pin'.2.1, w'⟩
  exact codeAny_compStart_list walk (by
    rcases hty with rfl | rfl
    · exact wpAny_pyIter_striter_ascii st4 walk
    · exact wpAny_pyIter_striter_wide st4 walk)
end
/-! ### all(list) where an exception is handled -/
section
variable {prog : Program} {w : World} {A : Around} {E : Value → Shared → Prop} {s : Shared}
theorem list_out {io al x1 : Addr} {n : Nat} {xs : Array Value} {Q : Option Value → Shared → Prop} (hot : HotAt A x1 s.heap) (far : x1 ≠ io)
    (hit : s.heap.IsListIter io al n) (hl : s.heap.IsList al xs) (hz : xs[n]? = none) (hQ : ∀ hp, Heap.ExtBut io s.heap hp → Q none { s with heap := hp }) : wpAny (model prog w) A (pyNext (.ref io)) Q E s := by
  obtain ⟨ob, ho, hcl, hda⟩ := id hit
  obtain ⟨ol, hol, _, nl, hdl⟩ := hl
  obtain ⟨hh, o1, vs1, h1, d1, c1⟩ := hot
  unfold pyNext
  refine wpAny_bind (wpAny_attempt (wpAny_callSpecial?_slot (name := Str.ofString "__next__") hit.typeIs slot_listiter_next (wpAny_call_entry slot_listiter_next hit.typeIs entry_listiter_next ?_ (args_listiter_next _))))
  show wpAny _ _ (field (.ref io) 0 >>= _) _ _ _
  refine wpAny_bind (wpAny_field ho hda (x := .ref al) rfl ?_)
  show wpAny _ _ (if (Value.ref al == Value.none) = true then _ else _) _ _ _
  rw [if_neg (show ¬ ((Value.ref al == Value.none) = true) from Bool.false_ne_true)]
  show wpAny _ _ (field (.ref io) 1 >>= _) _ _ _
  refine wpAny_bind (wpAny_field ho hda (x := .int n 0) rfl ?_)
  show wpAny _ _ (seqItems? (.ref al) >>= _) _ _ _
  refine wpAny_bind (wpAny_seqItems hol hdl ?_)
  simp only [Int.toNat_natCast, hz]
  refine wpAny_bind (wpAny_rule (wpAny_bind (wpAny_setField ho hda (by simp) ?_)))
  show wpAny _ _ (Bind.bind (newExc (.type "StopIteration") []) _) _ _ _
  refine wpAny_bind ?_
  simp only [newExc, newTuple]
  refine wpAny_bind (wpAny_newObj_type ?_ (by size_fits))
  refine wpAny_bind (m := firstArgMember _ _) (wpAny_of_eq (a := Value.none) (by first | rfl | (simp only [firstArgMember]; rfl)) (wpAny_newObj_type ?_ (by size_fits)))
  have h1' : (s.heap.update io (Obj.mapFields fun x => x.setIfInBounds 0 Value.none)).get? x1 = some o1 := by rw [Heap.get?_update_other _ _ (Ne.symm far)]; exact h1
  refine raiseNew_hot ⟨hh, o1, vs1, Heap.get?_push_of_some _ (Heap.get?_push_of_some _ h1'), d1, c1⟩ (Nat.ne_of_lt (Heap.lt_size (Heap.get?_push_of_some _ h1'))) (Heap.get?_push_size _ rfl) rfl (by first | (simp; done) | (simp; omega)) ?_
  refine wpAny_bind (wpAny_isInstance (T := "StopIteration") (b := true) ⟨_, Heap.get?_update_self _ (Heap.get?_push_size _ rfl) rfl, rfl⟩ isSubtype_stop ?_)
  refine wpAny_pure (hQ _ fun b o nb e => ?_)
  have e' : (s.heap.update io (Obj.mapFields fun x => x.setIfInBounds 0 Value.none)).get? b = some o := by rw [Heap.get?_update_other _ _ (Ne.symm nb)]; exact e
  rw [Heap.get?_update_other _ _ (Nat.ne_of_gt (Heap.lt_size (Heap.get?_push_of_some _ e')))]
  exact Heap.get?_push_of_some _ (Heap.get?_push_of_some _ e')
/-- the walk through a list then; the handled exception among what stays -/
theorem walk_listH (x1 io al : Addr) (far : x1 ≠ io) (hne : al ≠ io) (xs : Array Value) :
    Walks prog w A io [io, al, x1] [io] xs.size (fun i v => xs[i]? = some v) (fun i h => (h.IsListIter io al i ∧ h.IsList al xs) ∧ HotAt A x1 h) where
  sub := fun b hb => by rw [List.mem_singleton.1 hb]; simp
  frame := fun i h h' st hk => by
    obtain ⟨⟨s1, s2⟩, hh, o, vs, e, r⟩ := st
    exact ⟨⟨s1.at fun o e => hk io (by simp) o e, s2.at fun o e => hk al (by simp) o e⟩, hh, o, vs, hk x1 (by simp) o e, r⟩
  item := fun i s Q E hi st hQ => by
    obtain ⟨⟨s1, s2⟩, hh, o, vs, e, r⟩ := st
    refine wpAny_pyNext_list_item s1 s2 (x := xs[i]) (by simp [hi]) fun hp it' sb => ?_
    exact hQ _ hp s.toks (by simp [hi]) ⟨⟨it', s2.extBut sb.extBut hne⟩, hh, o, vs, sb.extBut x1 o far e, r⟩ fun b o hb e => sb.extBut b o (fun z => hb (by simp [z])) e
  done := fun s Q E st hQ => list_out st.2 far st.1.1 st.1.2 (by simp) fun hp eb => hQ hp s.toks fun b o hb e => eb b o (fun z => hb (by simp [z])) e
  self := fun _ _ _ _ st hQ => wpAny_pyIter_listiter st.1.1 hQ
end
theorem cr_allH {X : Cx} (hot : HotC X) : CallR X (.builtin "all") (rAll X.K) := by
  intro pins s σ H vs us Q I r h
  obtain ⟨al, bs, rfl, hs, q⟩ := h
  obtain ⟨its, rv, hl, _⟩ := I.list hs
  rw [Vals.ref1 r]
  have hb := rv.bls
  obtain ⟨x1, hh, o, vs, e, rr⟩ := hot.at I
  refine call_all_walk (iter_any hl.isList fun s2 e2 st hne => ?_)
  subst e2
  refine ⟨_, _, _, _, _, _, _, rfl, walk_listH (A := X.A.in1) x1 _ al (Nat.ne_of_lt (Heap.lt_size e)) hne its.toArray, ⟨st, hh, o, vs, Heap.get?_push_of_some _ e, rr⟩, truth_bools hb, fun h' tk hk => ?_⟩
  refine ⟨.bl _, H, I.kept fun b o eo => hk b o (fun mem => absurd (List.mem_singleton.1 mem ▸ Heap.lt_size eo) (Nat.lt_irrefl _)) (Heap.get?_push_of_some _ eo), ?_, q⟩
  show Value.bool _ = Value.bool _
  rw [← L2.all_range, hb, List.size_toArray, List.length_map]
/-! ### a def's promise there; a def that raises with no context -/
section
variable {P : Program} {w : World} {K : PySem.W.Frag} {mg : Str → Option Value} {base : Heap} {x qual : Str} {st : Stmt} {f : Addr} {fd : FuncData} {N ps : List Str} {k : Nat} {sp : Sp}
theorem okH_of (F : Fun K x qual st f fd) (S : FnScope N ps (defScope st)) (len : ∀ vs H Q E, sp vs H Q E → vs.length = ps.length)
    (body : ∀ cdv A outer s H vs Q E p, Hot1 A p → RoomH k (A.deeper (envOfC qual (defScope st) s.heap.objs.size f cdv)) → sp vs H Q E →
      ∃ t, PSs (cxH CX0 P w K mg base N qual (defScope st) f cdv A outer s H E p) (defBody st) t ∧ t { nx := fun _ H' => Q .non H', rt := Q } (L2.start N vs) H) : FnH P w K mg base CX0 (k + 1) f fd ps sp := by
  obtain ⟨_, _, _, _, _, _, cdv, _, _, rfl, lk, hcd⟩ := F.ex
  exact fn_ofH lk hcd S len fun A outer s H vs Q E p => body cdv A outer s H vs Q E p
theorem okN_of (F : Fun K x qual st f fd) (S : FnScope N ps (defScope st)) (len : ∀ vs H Q E, sp vs H Q E → vs.length = ps.length)
    (body : ∀ cdv A outer s H vs Q E, Room k (A.deeper (envOfC qual (defScope st) s.heap.objs.size f cdv)) → sp vs H Q E →
      ∃ t, PSs (cxOf (L2N.CX P w) P w K mg base N qual (defScope st) f cdv A outer s H E) (defBody st) t ∧ t { nx := fun _ H' => Q .non H', rt := Q } (L2.start N vs) H) : FnOk P w K mg base (L2N.CX P w) (k + 1) f fd ps sp := by
  obtain ⟨_, _, _, _, _, _, cdv, _, _, rfl, lk, hcd⟩ := F.ex
  exact fn_of lk hcd S len fun A outer s H vs Q E => body cdv A outer s H vs Q E
end
theorem hotD {CX : CXT} {P : Program} {w : World} {K : PySem.W.Frag} {mg : Str → Option Value} {base : Heap} {N : List Str} {qual : Str} {scope : Scope} {f : Addr} {cd : Value} {A : Around} {outer : List Env} {s : Shared} {H : Hp} {E : XK} {p : Addr × Obj} (h : Hot1 A p) :
    HotC (cxH CX P w K mg base N qual scope f cd A outer s H E p) := ⟨p, h, List.mem_singleton.2 rfl⟩
/-- X(e), the exception without a context -/
theorem pmk_one {X : Cx} {C : Addr} {bmB : List Value} {B newId initId : String} {x : Str} {e : Expr} {ta : TE} {p pos : Pos} (F : ExcBaseFacts B newId initId bmB) (xi : PySem.W.excIn X.K C bmB newId = true) (gC : X.mg x = some (.ref C)) (kC : PySem.W.keepIn X.K (.ref C) = true) (ra : Raises X (.ref C)) (gl : Gl X x)
    (he : PE X e ta) (one : starEach [e] X.env = (false, eval e X.env) :: starEach [] X.env := by rfl) (nd : (x == ("__debug__" : Str)) = false := by decide) :
    L2N.PMk X (.Call (.Name x p) [e] [] pos) (fun σ H Q => ta σ H fun _ H1 => Q (.ref C) none H1) := fun pins s σ H Q I h => by
  refine wpAny_Call_Name_kw (ld_glob I gl gC (PySem.W.callWith_K (h₀ := X.base) I.ok.mod.kin kC ?_ one (by rfl)) nd)
  rw [one]
  refine Calls.spliced_cons (thn (he.run pins s σ H _ I h) fun u s1 ⟨v, H1, J, rv, q1⟩ => Calls.spliced_nil ⟨J.kIn, ?_⟩)
  obtain ⟨_, _, _, _, _, _, _, _, _, _, _, _, _, _, _, _, _, hC, hN, hni, T⟩ := exc_obj J.kIn xi
  exact wpAny_call_exc_subT F T hC hN hni (fun h' a made => L2N.mk_of J made ra q1 (J.hok.gone made.new)) (by show 1 ≤ sizeLine; rw [sizeLine_eq]; omega)
end DT

namespace DT
open PySem PySem.Spec PyProof.Rows L2
/-! ### word, *rest = a tuple -/
section
variable {prog : Program} {w : World} {A : Around} {E : Value → Shared → Prop} {s : Shared}
theorem star_items {t : Addr} {u : Value} {us : List Value} {Q : List Value → Shared → Prop} (hh : A.handled = none) (ht : IsTup s.heap t (u :: us).toArray) (hz : us.length ≤ 1000)
    (hQ : ∀ (hp : Heap) (tk : Nat), (∀ b o, s.heap.get? b = some o → hp.get? b = some o) → Q [u, .ref hp.objs.size] { s with heap := hp.push { cls := .type "list", data := .seq us.toArray }, toks := tk }) :
    wpAny (model prog w) A (unpackItems (.ref t) 2 (some 1)) Q E s := by
  have far : t ≠ s.heap.objs.size := by obtain ⟨o, e, _⟩ := ht; exact Nat.ne_of_lt (Heap.lt_size e)
  unfold unpackItems notIterableAtAll
  refine wpAny_bind (wpAny_bind (wpAny_specialOf ht.typeIs slot_tuple_iter.lookup (wpAny_pure ?_)))
  simp only [Bool.false_eq_true, if_false]
  refine wpAny_bind (wpAny_holding (iter_tuple ht ?_))
  refine wpAny_bind (wpAny_holding (draw_tuple far 1 0 _ _ ⟨_, Heap.get?_push_size _ rfl, rfl, rfl⟩ (ht.push _) (by simp) fun h1 it1 sb1 => ?_))
  have ht1 : IsTup h1 t (u :: us).toArray := (ht.push _).extBut sb1.extBut far
  obtain ⟨oi, hoi, _⟩ := id it1
  obtain ⟨ol, hol, _⟩ := id ht1
  show wpAny _ _ (if [u].length < 1 then _ else _) _ _ _
  rw [if_neg (show ¬ [u].length < 1 from Nat.lt_irrefl 1)]
  refine wpAny_bind (wpAny_holding (PySem.W.kun_collect (s := { s with heap := h1 }) (T := "tuple_iterator") (.inr (.inr (.inr rfl))) (Walks.tuple (A := A.in1) hh s.heap.objs.size t far (u :: us).toArray) (fun j v st => st.1.typeIs) (k := 1) (by simp) ⟨it1, ht1⟩ (Heap.lt_size hoi) (Heap.lt_size hol) (fun h2 tk hk => ?_) (by rw [List.size_toArray, List.length_cons, sizeLine_eq]; omega)))
  have eD : (List.drop 1 (u :: us).toArray.toList) = us := rfl
  rw [eD]
  show wpAny _ _ (if us.length < 2 - 1 - 1 then _ else _) _ _ _
  rw [if_neg (by omega)]
  show wpAny _ _ (newList (us.take (us.length - (2 - 1 - 1))) >>= fun d => pure ([u] ++ [d] ++ us.drop (us.length - (2 - 1 - 1)))) _ _ _
  rw [show us.length - (2 - 1 - 1) = us.length by omega, List.take_of_length_le (Nat.le_refl _), List.drop_of_length_le (Nat.le_refl _)]
  have up : ∀ b o, s.heap.get? b = some o → h2.get? b = some o := fun b o e =>
    have nb : b ≠ s.heap.objs.size := Nat.ne_of_lt (Heap.lt_size e)
    hk b o nb (sb1.extBut b o nb (Heap.get?_push_of_some _ e))
  exact wpAny_bind (wpAny_newObj_type (wpAny_pure (hQ h2 tk up)) (by show us.length ≤ sizeLine; rw [sizeLine_eq]; omega))
end
section
variable {X : Cx}
def gStar (K : PySem.W.Frag) (t : TGs) : TG := fun v σ H Q => ∃ a z zs, v = .ref a ∧ SqT K H a (z :: zs) ∧ zs.length ≤ 1000 ∧ ∀ D, H D = none → t [z, .ref D] σ (upd H D (.lst zs)) Q
theorem pg_star {x y : Expr} {p pos : Pos} {k : Nat} {t : TGs} (hc : X.calm = true) (h : PGs X [x, y] t) (hn : (assignEach [x, .Starred y p] X.env).length = 2 := by rfl) (hst : (assignEach [x, .Starred y p] X.env).findIdx? (·.1) = some 1 := by rfl)
    (he : (assignEach [x, .Starred y p] X.env).map (·.2) = (assignEach [x, y] X.env).map (·.2) := by rfl) : PG X (.Tuple [x, .Starred y p] k pos) (gStar X.K t) := by
  refine ⟨fun pins s σ H v u Q I r hw => ?_⟩
  obtain ⟨a, z, zs, rfl, hq, hl, hw⟩ := hw
  cases r
  obtain ⟨its, rv, ht, _⟩ := I.tuple hq
  obtain ⟨uz, us, rfl, rz, rzs⟩ : ∃ uz us, its = uz :: us ∧ RelV z uz ∧ Vals zs us := by
    cases rv with
    | cons a b => exact ⟨_, _, rfl, a, b⟩
  rw [assign_Tuple]
  refine wpAny_bind (wpAny_standAt ?_)
  unfold unpack
  rw [hn, hst, he]
  refine wpAny_bind (wpAny_holding (star_items (I.ok.hd hc) ht (by rw [← rzs.length]; exact hl) fun hp tk up => ?_))
  have I2 : Inv X pins σ H { s with heap := hp, toks := tk } := I.kept up
  have I1 : Inv X pins σ (upd H hp.objs.size (.lst zs)) { s with heap := hp.push { cls := .type "list", data := .seq us.toArray }, toks := tk } :=
    I2.laid (t' := tk) (fun b o e => Heap.get?_push_of_some _ e) (Nat.le_refl _) ⟨Nat.le_trans hl (by decide), us, 0, rzs, Heap.get?_push_size _ rfl⟩
  exact h.run pins _ σ _ [z, .ref hp.objs.size] [uz, .ref hp.objs.size] Q I1 (.cons rz (.cons rfl .nil)) (hw _ (I2.hok.fresh (Nat.le_refl _)))
/-! ### way(e, *rest), way a local name that holds a def -/
def tCallW (i : Nat) (f : Addr) (sp : Sp) (E : XK) (t : TA) : TE := fun σ H Q => σ[i]? = some (some (.ref f)) ∧ t σ H fun vs H1 => sp vs H1 Q E
theorem pe_callW {CX : CXT} {k i : Nat} {f : Addr} {fd : FuncData} {ps : List Str} {sp : Sp} {E : XK} {x : Str} {p pos : Pos} {e : Expr} {es : List Expr} {t : TA} (F : FnOk X.prog X.w X.K X.mg X.base CX k f fd ps sp) (hr : Room k X.A) (hN : X.N[i]? = some x) (hv : Vis X.env.scope x) (hk : PySem.W.keepIn X.K (.ref f) = true) (hb : Binds X.K fd ps []) (hx : Passes CX X E) (ha : PA X (e :: es) t)
    (hdb : (x == ("__debug__" : Str)) = false := by decide) (hcd : (x == ("__classdict__" : Str)) = false := by decide)
    (he : starEach (e :: es) X.env = (false, eval e X.env) :: starEach es X.env := by rfl) (hst : (backTo pos (starEach es X.env)).any (·.1) = true := by rfl) : PE X (.Call (.Name x p) (e :: es) [] pos) (tCallW i f sp E t) := by
  refine ⟨fun pins s σ H Q I h => ?_⟩
  obtain ⟨hs, ht⟩ := h
  refine wpAny_Call_Name_kw (thn ((pe_var (pos := p) hN hv hdb hcd).run pins s σ H (fun v H1 => v = .ref f ∧ H1 = H) I ⟨.ref f, hs, rfl, rfl⟩) fun u s1 ⟨v, H1, I1, r1, q1⟩ => ?_)
  obtain ⟨rfl, rfl⟩ := q1
  cases r1
  refine PySem.W.callWith_S2 (h₀ := X.base) I.ok.mod.kin hk (thn (ha.run pos pins s1 σ _ _ I1 ht) fun us s2 ⟨vs, H2, I2, r, q⟩ => ⟨I2.kIn, ?_⟩) he hst
  exact run_fn (dvs := []) (ds := []) F hr hb .nil hx I2 r (by rw [List.append_nil]; exact q)
/-- of several defs that the name may hold: the promise goes with the reading -/
def tCallV (X : Cx) (CX : CXT) (k i : Nat) (E : XK) (t : TA) : TE := fun σ H Q => ∃ (f : Addr) (fd : FuncData) (ps : List Str) (sp : Sp), σ[i]? = some (some (.ref f)) ∧ FnOk X.prog X.w X.K X.mg X.base CX k f fd ps sp ∧ PySem.W.keepIn X.K (.ref f) = true ∧ Binds X.K fd ps [] ∧ t σ H fun vs H1 => sp vs H1 Q E
theorem pe_callV {CX : CXT} {k i : Nat} {E : XK} {x : Str} {p pos : Pos} {e : Expr} {es : List Expr} {t : TA} (hr : Room k X.A) (hN : X.N[i]? = some x) (hv : Vis X.env.scope x) (hx : Passes CX X E) (ha : PA X (e :: es) t)
    (hdb : (x == ("__debug__" : Str)) = false := by decide) (hcd : (x == ("__classdict__" : Str)) = false := by decide)
    (he : starEach (e :: es) X.env = (false, eval e X.env) :: starEach es X.env := by rfl) (hst : (backTo pos (starEach es X.env)).any (·.1) = true := by rfl) : PE X (.Call (.Name x p) (e :: es) [] pos) (tCallV X CX k i E t) := by
  refine ⟨fun pins s σ H Q I h => ?_⟩
  obtain ⟨f, fd, ps, sp, hs, F, hk, hb, ht⟩ := h
  exact (pe_callW (i := i) F hr hN hv hk hb hx ha hdb hcd he hst).run pins s σ H Q I ⟨hs, ht⟩
/-- an item of a dict of the module -/
theorem ix_kd {d : Addr} {es : Array DictEntry} {n : Nat} (D : KDict X.K X.w d es n) : IxR X (fun x y H Q => ∃ (z : Str) (u0 : Value) (v0 : V), x = .ref d ∧ y = .str z ∧ PySem.W.nsIn X.K d z = some (some u0) ∧ RelV v0 u0 ∧ Q v0 H) := by
  intro value slice pins s σ H x y v u Q I rx ry h hs
  obtain ⟨z, u0, v0, rfl, rfl, e, r, q⟩ := h
  have hv : v = .ref d := rx
  subst hv
  exact tail_any (kd_type D I) slot_dict_getitem.lookup (op_item_kd D pins s σ H (.ref d) (.str z) (.ref d) u Q I rfl ry ⟨z, u0, v0, rfl, rfl, e, r, q⟩) hs
end
end DT

namespace DT
open PySem PySem.Spec PyProof.Rows L2
/-! ### the deeds' parts -/
def endowM (m : Mo) (i : Nat) (x : Q2) : Mo := { m with hold := addAt m.hold i x, free := addAt m.free i x, port := addAt m.port i x }
def sp_endowed (K : PySem.W.Frag) (C : Addr) : Sp := fun vs H Q _ => ∃ (p : Addr) (m : Mo) (i : Nat) (v : V) (x : Q2) (N M : Nat), vs = [.ref p, .int (i : Int), v] ∧ MoAt K C H p m ∧ Pp K H v x ∧ i < m.hold.length ∧ i < m.free.length ∧ i < m.port.length ∧ AllOk N m.hold ∧ AllOk N m.free ∧ AllOk N m.port ∧ Ok M x ∧ Low x.1 x.2 ∧ N + M ≤ 8890 ∧
  ∀ H' r, Same H H' → H r = none → MoAt K C H' r (endowM m i x) → Q (.ref r) H'
def sp_newname (CB CT : Addr) : Sp := fun vs H Q E => ∃ (z : Str) (u : Addr) (us : List Str), vs = [.str z, .ref u] ∧ H u = some (.lst (us.map V.str)) ∧ z.length ≤ 1000 ∧
  (nameB z = true → z ∉ us → ∀ H', Same H H' → Q .non H') ∧ (nameB z = false → ∀ H', Same H H' → E (.ref CB) none H') ∧ (nameB z = true → z ∈ us → ∀ H', Same H H' → E (.ref CT) none H')
def sp_room (K : PySem.W.Frag) (CM CF : Addr) : Sp := fun vs H Q E => ∃ (p : Addr) (m : Mo) (n : Nat), vs = [.ref p, .int (n : Int)] ∧ MoAt K CM H p m ∧ m.order.length ≤ 900 ∧
  (m.order.length + n ≤ 24 → Q .non H) ∧ (24 < m.order.length + n → ∀ H', Same H H' → E (.ref CF) none H')
def sp_trade (K : PySem.W.Frag) (CM CN CS CP : Addr) : Sp := fun vs H Q E => ∃ (p : Addr) (m : Mo) (a b : Str) (v : V) (x : Q2) (N : Nat), vs = [.ref p, .str a, .str b, v] ∧ MoAt K CM H p m ∧ a.length ≤ 1000 ∧ b.length ≤ 1000 ∧ Pp K H v x ∧ Ok N x ∧ (1 ≤ N ∧ N ≤ 4000) ∧
  (a ∈ m.order → b ∈ m.order → a ≠ b → 0 < x.1 → ∀ H' t, Same H H' → SqT K H' t [.int (idxS m.order a : Int), .int (idxS m.order b : Int)] → Q (.ref t) H') ∧
  (¬ (a ∈ m.order ∧ b ∈ m.order) → ∀ H', Same H H' → E (.ref CN) none H') ∧ (a ∈ m.order → b ∈ m.order → a = b → ∀ H', Same H H' → E (.ref CS) none H') ∧
  (a ∈ m.order → b ∈ m.order → a ≠ b → ¬ 0 < x.1 → ∀ H', Same H H' → E (.ref CP) none H')
def sp_free (K : PySem.W.Frag) (CM CT : Addr) : Sp := fun vs H Q E => ∃ (p : Addr) (m : Mo) (i : Nat) (v : V) (x : Q2) (N : Nat), vs = [.ref p, .int (i : Int), v] ∧ MoAt K CM H p m ∧ i < m.free.length ∧ AllOk N m.free ∧ Pp K H v x ∧ Ok N x ∧ N ≤ 4000 ∧
  (lessP (itemP m.free i) x = false → Q .non H) ∧ (lessP (itemP m.free i) x = true → ∀ H', Same H H' → E (.ref CT) none H')
end DT
namespace DT
open PySem PySem.Spec PyProof.Rows L2
def sp_settled (K : PySem.W.Frag) (CM CB CT CF : Addr) : Sp := fun vs H Q E => ∃ (p : Addr) (m : Mo) (z : Str), vs = [.ref p, .str z] ∧ MoAt K CM H p m ∧ Wf m ∧ z.length ≤ 1000 ∧
  (nameB z = true → z ∉ m.order → m.order.length + 1 ≤ 24 → ∀ H' r, Same H H' → H r = none → MoAt K CM H' r (joinM m z (0, 1)) → Q (.ref r) H') ∧
  (nameB z = false → ∀ H', Same H H' → E (.ref CB) none H') ∧ (nameB z = true → z ∈ m.order → ∀ H', Same H H' → E (.ref CT) none H') ∧
  (nameB z = true → z ∉ m.order → 24 < m.order.length + 1 → ∀ H', Same H H' → E (.ref CF) none H')
def soldM (m : Mo) (a b : Str) (x : Q2) : Mo := endowM (endowM m (idxS m.order a) (negP x)) (idxS m.order b) x
def sp_sold (K : PySem.W.Frag) (CM CN CS CP CT : Addr) : Sp := fun vs H Q E => ∃ (p : Addr) (m : Mo) (a b : Str) (v : V) (x : Q2) (N : Nat), vs = [.ref p, .str a, .str b, v] ∧ MoAt K CM H p m ∧ Wf m ∧ a.length ≤ 1000 ∧ b.length ≤ 1000 ∧ Pp K H v x ∧ Ok N x ∧ Low x.1 x.2 ∧ AllOk N m.hold ∧ AllOk N m.free ∧ AllOk N m.port ∧ (1 ≤ N ∧ N ≤ 2900) ∧
  (a ∈ m.order → b ∈ m.order → a ≠ b → 0 < x.1 → lessP (itemP m.free (idxS m.order a)) x = false → ∀ H' r, Same H H' → H r = none → MoAt K CM H' r (soldM m a b x) → Q (.ref r) H') ∧
  (¬ (a ∈ m.order ∧ b ∈ m.order) → ∀ H', Same H H' → E (.ref CN) none H') ∧ (a ∈ m.order → b ∈ m.order → a = b → ∀ H', Same H H' → E (.ref CS) none H') ∧
  (a ∈ m.order → b ∈ m.order → a ≠ b → ¬ 0 < x.1 → ∀ H', Same H H' → E (.ref CP) none H') ∧
  (a ∈ m.order → b ∈ m.order → a ≠ b → 0 < x.1 → lessP (itemP m.free (idxS m.order a)) x = true → ∀ H', Same H H' → E (.ref CT) none H')
/-- a deed behind a moment, by its tuple: the way of its word -/
def sp_behind (K : PySem.W.Frag) (ways : Str → Option Sp) : Sp := fun vs H Q E => ∃ (v : V) (t : Addr) (wd : Str) (zs : List V) (sp : Sp), vs = [v, .ref t] ∧ SqT K H t (.str wd :: zs) ∧ zs.length ≤ 1000 ∧ ways wd = some sp ∧ ∀ D, H D = none → sp (v :: zs) (upd H D (.lst zs)) Q E
end DT
namespace DT
open PySem PySem.Spec PyProof.Rows L2
/-- what a way does with a moment: another moment, or a refusal -/
def Turns (K : PySem.W.Frag) (CM : Addr) (sp : Sp) (n : Addr) (zs : List V) (H0 : Hp) (res : Mo ⊕ Addr) : Prop := ∀ (Q1 : VK) (E1 : XK),
  (match res with | .inl m' => ∀ G r, Same H0 G → H0 r = none → MoAt K CM G r m' → Q1 (.ref r) G | .inr c => ∀ G, Same H0 G → E1 (.ref c) none G) → sp (.ref n :: zs) H0 Q1 E1
/-- a ditch behind a deed that was done -/
def Done (K : PySem.W.Frag) (CM C : Addr) (H : Hp) (d dx n p u t : Addr) (ps : List V) (m' : Mo) (H' : Hp) : Prop := ∃ tt u' r, Same (del (mu d dx p u) H) (del (mu d dx p u') H') ∧ del (mu d dx p u') H' tt = some (.tup [.ref t, .ref n]) ∧ DiAt K CM C H' d dx r p u' m' (ps ++ [.ref tt]) [] ∧ H u' = none
def sp_do (K : PySem.W.Frag) (CM C : Addr) (ways : Str → Option Sp) : Sp := fun vs H Q E => ∃ (d dx n p u t : Addr) (m : Mo) (ps us zs : List V) (wd : Str) (sp : Sp) (res : Mo ⊕ Addr), vs = [.ref d, .ref t] ∧ DiAt K CM C H d dx n p u m ps us ∧ ps.length ≤ 900 ∧ SqT K (del (mu d dx p u) H) t (.str wd :: zs) ∧ zs.length ≤ 1000 ∧ ways wd = some sp ∧ wd ≠ "hour" ∧
  (∀ D, del (mu d dx p u) H D = none → Turns K CM sp n zs (upd (del (mu d dx p u) H) D (.lst zs)) res) ∧
  (match res with | .inl m' => ∀ H', Done K CM C H d dx n p u t ps m' H' → Q .non H' | .inr c => ∀ H', Same H H' → E (.ref c) none H')
end DT
namespace DT
open PySem PySem.Spec PyProof.Rows L2
/-- a tuple or a part stands also where lists and instances are set aside -/
theorem sqT_del {K : PySem.W.Frag} {H : Hp} {M : List Addr} {t : Addr} {xs : List V} (a : Aside H M) (h : SqT K H t xs) : SqT K (del M H) t xs := by
  rcases h with (h | ⟨o, h⟩) | h
  · exact .inl (.inl (by rw [del_out (a.tup h)]; exact h))
  · exact .inl (.inr ⟨o, by rw [del_out (a.frz h)]; exact h⟩)
  · exact .inr h
theorem pp_del {K : PySem.W.Frag} {H : Hp} {M : List Addr} {v : V} {x : Q2} (a : Aside H M) (h : Pp K H v x) : Pp K (del M H) v x := by
  obtain ⟨p, rfl, h⟩ := h
  exact ⟨p, rfl, sqT_del a h⟩
/-- settle, by a name that is one, new, and there is room -/
def sp_Dsettle (K : PySem.W.Frag) (CM C : Addr) : Sp := fun vs H Q _ => ∃ (d dx n p u : Addr) (m : Mo) (ps us : List V) (z : Str), vs = [.ref d, .str z] ∧ DiAt K CM C H d dx n p u m ps us ∧ ps.length ≤ 900 ∧ Wf m ∧ z.length ≤ 1000 ∧ nameB z = true ∧ z ∉ m.order ∧ m.order.length + 1 ≤ 24 ∧
  ∀ H1 H' t, Same H H1 → H t = none → H1 t = some (.tup [.str "settle", .str z]) → Done K CM C H1 d dx n p u t ps (joinM m z (0, 1)) H' → Q .non H'
/-- sell, where nothing is refused -/
def sp_Dsell (K : PySem.W.Frag) (CM C : Addr) : Sp := fun vs H Q _ => ∃ (d dx n p u : Addr) (m : Mo) (ps us : List V) (a b : Str) (v : V) (x : Q2) (N : Nat), vs = [.ref d, .str a, .str b, v] ∧ DiAt K CM C H d dx n p u m ps us ∧ ps.length ≤ 900 ∧ Wf m ∧ a.length ≤ 1000 ∧ b.length ≤ 1000 ∧ Pp K H v x ∧ Ok N x ∧ Low x.1 x.2 ∧ AllOk N m.hold ∧ AllOk N m.free ∧ AllOk N m.port ∧ (1 ≤ N ∧ N ≤ 2900) ∧
  a ∈ m.order ∧ b ∈ m.order ∧ a ≠ b ∧ 0 < x.1 ∧ lessP (itemP m.free (idxS m.order a)) x = false ∧
  ∀ H1 H' t, Same H H1 → H t = none → H1 t = some (.tup [.str "sell", .str a, .str b, v]) → Done K CM C H1 d dx n p u t ps (soldM m a b x) H' → Q .non H'
end DT
namespace DT
open PySem PySem.Spec PyProof.Rows L2
/-- back, where there is a deed -/
def sp_back (K : PySem.W.Frag) (CM C : Addr) : Sp := fun vs H Q _ => ∃ (d dx n p u tt n0 : Addr) (m m0 : Mo) (ps us : List V) (dv : V), vs = [.ref d] ∧ DiAt K CM C H d dx n p u m (ps ++ [.ref tt]) us ∧ del (mu d dx p u) H tt = some (.tup [dv, .ref n0]) ∧ MoAt K CM (del (mu d dx p u) H) n0 m0 ∧ us.length ≤ 900 ∧
  ∀ H' t2, Same (del (mu d dx p u) H) (del (mu d dx p u) H') → del (mu d dx p u) H' t2 = some (.tup [dv, .ref n]) → DiAt K CM C H' d dx n0 p u m0 ps (us ++ [.ref t2]) → Q dv H'
/-- again, where there is one -/
def sp_again (K : PySem.W.Frag) (CM C : Addr) : Sp := fun vs H Q _ => ∃ (d dx n p u tt n0 : Addr) (m m0 : Mo) (ps us : List V) (dv : V), vs = [.ref d] ∧ DiAt K CM C H d dx n p u m ps (us ++ [.ref tt]) ∧ del (mu d dx p u) H tt = some (.tup [dv, .ref n0]) ∧ MoAt K CM (del (mu d dx p u) H) n0 m0 ∧ ps.length ≤ 900 ∧
  ∀ H' t2, Same (del (mu d dx p u) H) (del (mu d dx p u) H') → del (mu d dx p u) H' t2 = some (.tup [dv, .ref n]) → DiAt K CM C H' d dx n0 p u m0 (ps ++ [.ref t2]) us → Q dv H'
theorem app_ne {α : Type} (l : List α) (x : α) : (l ++ [x]).isEmpty = false := by cases l <;> rfl
end DT

namespace DT
open PySem PySem.Spec PyProof.Rows L2 TL
/-! ### no name twice in the pool -/
theorem let_at2 (x : Int) : ∃ c, c ∈ lets ∧ atI (tl ("abcdefghijklmnopqrstuvwxyz" : Str)) (x % 26) = some c ∧ lets[(x % 26).toNat]? = some c := by
  have h1 := Int.emod_nonneg x (show (26 : Int) ≠ 0 by decide)
  have h2 := Int.emod_lt_of_pos x (show (0 : Int) < 26 by decide)
  obtain ⟨j, ej, hj⟩ : ∃ j : Nat, x % 26 = (j : Int) ∧ j < 26 := ⟨(x % 26).toNat, by omega, by omega⟩
  rw [tl_lets, ej]
  have hl : j < lets.length := hj
  exact ⟨lets[j], List.getElem_mem hl, atI_nat (List.getElem?_eq_getElem hl), by rw [Int.toNat_natCast]; exact List.getElem?_eq_getElem hl⟩
def PoolI (zs : List Str) (a : Nat) (r : Int) : Prop := ∀ (i : Nat) (z : Str), zs[i]? = some z → (tl z)[a]? = lets[(((0 + (i : Int)) * 7 + r) % 26).toNat]?
theorem PoolI.nil {a : Nat} {r : Int} : PoolI [] a r := fun _ _ h => nomatch h
theorem PoolI.snoc {zs : List Str} {a : Nat} {r : Int} {z : Str} (h : PoolI zs a r) (k : (tl z)[a]? = lets[(((0 + (zs.length : Int)) * 7 + r) % 26).toNat]?) : PoolI (zs ++ [z]) a r := fun i y e => by
  by_cases hi : i < zs.length
  · rw [List.getElem?_append_left hi] at e
    exact h i y e
  · rw [List.getElem?_append_right (by omega)] at e
    have h0 : i - zs.length = 0 := by
      have := (List.getElem?_eq_some_iff.1 e).1
      simp at this
      omega
    rw [h0] at e
    cases e
    rw [show i = zs.length by omega]
    exact k
theorem lets_nd : lets.Nodup := by decide
theorem PoolI.nodup {zs : List Str} {a : Nat} {r : Int} (h : PoolI zs a r) (hl : zs.length ≤ 26) : zs.Nodup := by
  refine List.pairwise_iff_getElem.2 fun i j hi hj hij e => ?_
  have e1 := h i _ (List.getElem?_eq_getElem hi)
  have e2 := h j _ (List.getElem?_eq_getElem hj)
  rw [e] at e1
  have e3 := e1.symm.trans e2
  have b1 : (((0 + (i : Int)) * 7 + r) % 26).toNat < lets.length := by show _ < 26; omega
  have b2 : (((0 + (j : Int)) * 7 + r) % 26).toNat < lets.length := by show _ < 26; omega
  rw [List.getElem?_eq_getElem b1, List.getElem?_eq_getElem b2] at e3
  have pw := List.pairwise_iff_getElem.1 lets_nd
  have e4 := Option.some.inj e3
  rcases Nat.lt_trichotomy (((0 + (i : Int)) * 7 + r) % 26).toNat (((0 + (j : Int)) * 7 + r) % 26).toNat with c | c | c
  · exact pw _ _ b1 b2 c e4
  · omega
  · exact pw _ _ b2 b1 c e4.symm
theorem tl_mid {x y z : Str} {a c : Nat} (h : (tl x).length = a) : (tl (x ++ (⟨#[c]⟩ : Str) ++ y ++ z))[a]? = some c := by
  rw [tl_append, tl_append, tl_append, List.append_assoc, List.append_assoc, List.getElem?_append_right (by omega), h, Nat.sub_self]
  rfl
def sp_poolD (K : PySem.W.Frag) : Sp := fun vs H Q _ => ∃ (p : Addr) (rs : List Int), vs = [.ref p] ∧ H p = some (.lst (rs.map V.int)) ∧ 7 ≤ rs.length ∧ (∀ r ∈ rs, 0 ≤ r ∧ r < 1000000) ∧ ∀ (H' : Hp) (r : Addr) (zs : List Str), Same H H' → H r = none → H' r = some (.lst (zs.map V.str)) → zs.length = 26 → (∀ z ∈ zs, nameB z = true) → zs.Nodup → Q (.ref r) H'
end DT

namespace DT
open PySem PySem.Spec PyProof.Rows L2
/-! ### the law's own state, copied and changed -/
section
variable {X : Cx}
def rDc : List V → Hp → VK → Prop := fun xs H Q => ∃ (a : Addr) (kvs : List (Key × V)), xs = [.ref a] ∧ H a = some (.dK kvs) ∧ ∀ p, H p = none → Q (.ref p) (upd H p (.dK kvs))
theorem call_dict_copy : CallR X (.type "dict") rDc := by
  intro pins s σ H xs us Q I r h
  obtain ⟨a, kvs, rfl, e, q⟩ := h
  rw [Vals.ref1 r]
  exact d_copyOf I (.inl e) fun p s' np I' => ⟨.ref p, _, I', rfl, q p np⟩
end
theorem putK_old {kvs : List (Key × V)} {k : Key} {v : V} (h : (valV kvs k).isSome = true) : (putK kvs k v).length = kvs.length := by
  unfold putK
  rw [valV_any, h]
  simp
/-- a state made since H0, its parts apart -/
structure StF (K : PySem.W.Frag) (H0 H : Hp) (s : Addr) (st : LSt) (kvs : List (Key × V)) (an al ao ag ac : Addr) (ovs gvs lvs : List V) : Prop where
  es : H s = some (.dK kvs)
  k : StIn K H kvs st an al ao ag ac ovs gvs lvs
  kl : kvs.length ≤ 20
  fs : H0 s = none
  fn : H0 an = none
  fl : H0 al = none
  fo : H0 ao = none
  fg : H0 ag = none
  fc : H0 ac = none
  nl : an ≠ al
  og : ao ≠ ag
  oc : ao ≠ ac
  gc : ag ≠ ac
  so : s ≠ ao
  sg : s ≠ ag
  sc : s ≠ ac
def StNew (K : PySem.W.Frag) (H0 H : Hp) (s : Addr) (st : LSt) : Prop := ∃ kvs an al ao ag ac ovs gvs lvs, StF K H0 H s st kvs an al ao ag ac ovs gvs lvs
def StK (K : PySem.W.Frag) (H : Hp) (s : Addr) (st : LSt) : Prop := ∃ kvs an al ao ag ac ovs gvs lvs, H s = some (.dK kvs) ∧ kvs.length ≤ 20 ∧ StIn K H kvs st an al ao ag ac ovs gvs lvs
theorem StIn.same {K : PySem.W.Frag} {H H' : Hp} {kvs : List (Key × V)} {st : LSt} {an al ao ag ac : Addr} {ovs gvs lvs : List V} (k : StIn K H kvs st an al ao ag ac ovs gvs lvs) (e : Same H H') : StIn K H' kvs st an al ao ag ac ovs gvs lvs :=
  ⟨k.vn, k.vl, k.vo, k.vg, k.vc, k.vw, k.vd, e _ _ k.en, e _ _ k.el, k.dl.same e, e _ _ k.eo, k.po.same e, e _ _ k.eg, k.pg.same e, e _ _ k.ec⟩
theorem StK.same {K : PySem.W.Frag} {H H' : Hp} {s : Addr} {st : LSt} (h : StK K H s st) (e : Same H H') : StK K H' s st := by
  obtain ⟨kvs, an, al, ao, ag, ac, ovs, gvs, lvs, es, kl, k⟩ := h
  exact ⟨kvs, an, al, ao, ag, ac, ovs, gvs, lvs, e _ _ es, kl, k.same e⟩
theorem StNew.toK {K : PySem.W.Frag} {H0 H : Hp} {s : Addr} {st : LSt} (h : StNew K H0 H s st) : StK K H s st := by
  obtain ⟨kvs, an, al, ao, ag, ac, ovs, gvs, lvs, h⟩ := h
  exact ⟨kvs, an, al, ao, ag, ac, ovs, gvs, lvs, h.es, h.kl, h.k⟩
theorem StK.at {K : PySem.W.Frag} {H : Hp} {s : Addr} {st : LSt} (h : StK K H s st) : StAt K H s st := by
  obtain ⟨kvs, an, al, ao, ag, ac, ovs, gvs, lvs, es, kl, k⟩ := h
  exact ⟨kvs, an, al, ao, ag, ac, ovs, gvs, lvs, es, k⟩
/-- all but what lies at D stays -/
def Sb (D : Addr) (H H' : Hp) : Prop := ∀ b o, H b = some o → b ≠ D → H' b = some o
theorem Sb.of {D : Addr} {H H' : Hp} (s : Same H H') : Sb D H H' := fun b o e _ => s b o e
theorem Sb.trans {D : Addr} {H H1 H2 : Hp} (a : Sb D H H1) (b : Sb D H1 H2) : Sb D H H2 := fun c o e n => b c o (a c o e n) n
theorem Sb.put {D : Addr} {H : Hp} {o : HO} : Sb D H (upd H D o) := fun b x e n => by rw [upd_ne n]; exact e
def kn : Key := Sum.inr ("names" : Str)
def kl' : Key := Sum.inr ("loans" : Str)
def ko : Key := Sum.inr ("own" : Str)
def kg : Key := Sum.inr ("gain" : Str)
def kc : Key := Sum.inr ("count" : Str)
def kw : Key := Sum.inr ("wet" : Str)
def kd' : Key := Sum.inr ("dry" : Str)
def sp_copy (K : PySem.W.Frag) : Sp := fun vs H Q _ => ∃ (s : Addr) (st : LSt), vs = [.ref s] ∧ StK K H s st ∧ st.names.length ≤ 900 ∧ ∀ H' r, Same H H' → StNew K H H' r st → Q (.ref r) H'
def Cp1 (H H' : Hp) (D : Addr) (kvs : List (Key × V)) (ns lvs : List V) : Nat → List (Key × V) → Prop
  | 0, fk => fk = kvs
  | 1, fk => ∃ a, fk = putK kvs kn (.ref a) ∧ H a = none ∧ a ≠ D ∧ H' a = some (.lst ns)
  | _, fk => ∃ a b, fk = putK (putK kvs kn (.ref a)) kl' (.ref b) ∧ (H a = none ∧ a ≠ D ∧ H' a = some (.lst ns)) ∧ (H b = none ∧ b ≠ D ∧ H' b = some (.lst lvs)) ∧ a ≠ b
def Cp2 (H H' : Hp) (D : Addr) (kvs : List (Key × V)) (os gs cs : List (Key × V)) : Nat → List (Key × V) → Prop
  | 0, fk => fk = kvs
  | 1, fk => ∃ a, fk = putK kvs ko (.ref a) ∧ H a = none ∧ a ≠ D ∧ H' a = some (.dK os)
  | 2, fk => ∃ a b, fk = putK (putK kvs ko (.ref a)) kg (.ref b) ∧ (H a = none ∧ a ≠ D ∧ H' a = some (.dK os)) ∧ (H b = none ∧ b ≠ D ∧ H' b = some (.dK gs)) ∧ a ≠ b
  | _, fk => ∃ a b c, fk = putK (putK (putK kvs ko (.ref a)) kg (.ref b)) kc (.ref c) ∧ (H a = none ∧ a ≠ D ∧ H' a = some (.dK os)) ∧ (H b = none ∧ b ≠ D ∧ H' b = some (.dK gs)) ∧ (H c = none ∧ c ≠ D ∧ H' c = some (.dK cs)) ∧ a ≠ b ∧ a ≠ c ∧ b ≠ c
def sp_freshN (K : PySem.W.Frag) : Sp := fun vs H Q _ => ∃ z : Str, vs = [.str z] ∧ ∀ H' r, Same H H' → StNew K H H' r (freshS z) → Q (.ref r) H'
def joinS (st : LSt) (z : Str) : LSt := { st with names := st.names ++ [z], own := st.own ++ [(0, 1)], gain := st.gain ++ [(0, 1)], cnt := st.cnt ++ [0] }
def moveS (st : LSt) (a b : Str) (x : Q2) : LSt := { st with own := (st.own.set (idxS st.names a) (subP (itemP st.own (idxS st.names a)) x)).set (idxS st.names b) (addP (itemP (st.own.set (idxS st.names a) (subP (itemP st.own (idxS st.names a)) x)) (idxS st.names b)) x) }
def sp_lsettled (K : PySem.W.Frag) : Sp := fun vs H Q _ => ∃ (H0 : Hp) (s : Addr) (st : LSt) (z : Str), vs = [.ref s, .str z] ∧ Same H0 H ∧ StNew K H0 H s st ∧ st.names.length ≤ 900 ∧ st.own.length = st.names.length ∧ st.gain.length = st.names.length ∧ st.cnt.length = st.names.length ∧ z ∉ st.names ∧
  ∀ H', Same H0 H' → StNew K H0 H' s (joinS st z) → Q .non H'
def sp_lmoved (K : PySem.W.Frag) : Sp := fun vs H Q _ => ∃ (H0 : Hp) (s : Addr) (st : LSt) (a b : Str) (v : V) (x : Q2) (N : Nat), vs = [.ref s, .str a, .str b, v] ∧ Same H0 H ∧ StNew K H0 H s st ∧ st.names.length ≤ 900 ∧ st.own.length = st.names.length ∧ a ∈ st.names ∧ b ∈ st.names ∧ st.names.Nodup ∧ Pp K H v x ∧ Ok N x ∧ AllOk N st.own ∧ N ≤ 2900 ∧
  ∀ H', Same H0 H' → StNew K H0 H' s (moveS st a b x) → Q .non H'
theorem zk_none : ∀ {l : List Str} {vs : List V} {z : Str}, z ∉ l → valV (zk l vs) (Sum.inr z) = none
  | [], _, _, _ => by cases ‹List V› <;> rfl
  | a :: l, [], _, _ => rfl
  | a :: l, v :: vs, z, h => by
    show valV ((Sum.inr a, v) :: zk l vs) (Sum.inr z) = none
    rw [valV_neg (fun q => h (by rw [← Sum.inr.inj q]; simp))]
    exact zk_none fun q => h (by simp [q])
theorem zk_snoc : ∀ {l : List Str} {vs : List V} {z : Str} {v : V}, l.length = vs.length → zk (l ++ [z]) (vs ++ [v]) = zk l vs ++ [(Sum.inr z, v)]
  | [], [], _, _, _ => rfl
  | a :: l, u :: vs, z, v, h => by
    show (Sum.inr a, u) :: zk (l ++ [z]) (vs ++ [v]) = (Sum.inr a, u) :: (zk l vs ++ [(Sum.inr z, v)])
    rw [zk_snoc (by simpa using h)]
  | [], _ :: _, _, _, h => by cases h
  | _ :: _, [], _, _, h => by cases h
theorem zk_new {l : List Str} {vs : List V} {z : Str} {v : V} (h : l.length = vs.length) (hz : z ∉ l) : putK (zk l vs) (Sum.inr z) v = zk (l ++ [z]) (vs ++ [v]) := by
  rw [putK_new v (zk_none hz), zk_snoc h]
theorem zk_len {l : List Str} {vs : List V} : (zk l vs).length ≤ l.length := by
  unfold zk
  rw [List.length_zipWith]
  exact Nat.min_le_left _ _
theorem zk_same : ∀ {l : List Str} {vs : List V} {z : Str} {v : V}, z ∉ l → (zk l vs).map (fun kv => if kv.1 = (Sum.inr z : Key) then (kv.1, v) else kv) = zk l vs
  | [], _, _, _, _ => by cases ‹List V› <;> rfl
  | a :: l, [], _, _, _ => rfl
  | a :: l, u :: vs, z, v, h => by
    show (if (Sum.inr a : Key) = Sum.inr z then _ else _) :: (zk l vs).map _ = _
    rw [if_neg (fun q => h (by rw [← Sum.inr.inj q]; simp)), zk_same fun q => h (by simp [q])]
    rfl
theorem zk_map : ∀ {l : List Str} {vs : List V} {z : Str} {v : V}, l.length = vs.length → l.Nodup → z ∈ l → (zk l vs).map (fun kv => if kv.1 = (Sum.inr z : Key) then (kv.1, v) else kv) = zk l (vs.set (idxS l z) v)
  | [], _, _, _, _, _, h => nomatch h
  | a :: l, [], _, _, h, _, _ => by cases h
  | a :: l, u :: vs, z, v, h, nd, hz => by
    show (if (Sum.inr a : Key) = Sum.inr z then _ else _) :: (zk l vs).map _ = _
    by_cases e : a = z
    · have i0 : idxS (a :: l) z = 0 := by unfold idxS; rw [List.findIdx_cons]; simp [e]
      rw [if_pos (by rw [e]), i0]
      have nz : z ∉ l := by rw [← e]; exact (List.nodup_cons.1 nd).1
      rw [zk_same nz]
      rfl
    · have i1 : idxS (a :: l) z = idxS l z + 1 := by unfold idxS; rw [List.findIdx_cons]; simp [e]
      have hz' : z ∈ l := by
        rcases List.mem_cons.1 hz with q | q
        · exact absurd q.symm e
        · exact q
      rw [if_neg (fun q => e (Sum.inr.inj q)), i1, zk_map (by simpa using h) (List.nodup_cons.1 nd).2 hz']
      rfl
theorem zk_put {l : List Str} {vs : List V} {z : Str} {v : V} (h : l.length = vs.length) (nd : l.Nodup) (hz : z ∈ l) : putK (zk l vs) (Sum.inr z) v = zk l (vs.set (idxS l z) v) := by
  unfold putK
  have e : (valV (zk l vs) (Sum.inr z)).isSome = true := by
    rw [zk_val h hz, List.getElem?_eq_getElem (by rw [← h]; exact idx_lt hz)]
    rfl
  rw [valV_any, e, if_pos rfl]
  exact zk_map h nd hz
/-- tuples stay -/
def TK (H H' : Hp) : Prop := ∀ b o, H b = some o → (∃ xs, o = .tup xs) ∨ (∃ q u, o = .frz q u) → H' b = some o
theorem TK.of {H H' : Hp} (s : Same H H') : TK H H' := fun b o e _ => s b o e
theorem TK.trans {H H1 H2 : Hp} (a : TK H H1) (b : TK H1 H2) : TK H H2 := fun c o e k => b c o (a c o e k) k
theorem TK.lst {H : Hp} {D : Addr} {xs : List V} {o : HO} (h : H D = some (.lst xs)) : TK H (upd H D o) := fun b x e k => by
  rw [upd_ne fun z => ?_]
  · exact e
  · rw [z, h] at e
    cases e
    rcases k with ⟨_, k⟩ | ⟨_, _, k⟩ <;> cases k
theorem TK.dic {H : Hp} {D : Addr} {xs : List (Key × V)} {o : HO} (h : H D = some (.dK xs)) : TK H (upd H D o) := fun b x e k => by
  rw [upd_ne fun z => ?_]
  · exact e
  · rw [z, h] at e
    cases e
    rcases k with ⟨_, k⟩ | ⟨_, _, k⟩ <;> cases k
theorem Pp.tk {K : PySem.W.Frag} {H H' : Hp} {v : V} {x : Q2} (h : Pp K H v x) (k : TK H H') : Pp K H' v x := by
  obtain ⟨p, rfl, q⟩ := h
  refine ⟨p, rfl, ?_⟩
  rcases q with (q | ⟨o, q⟩) | q
  · exact .inl (.inl (k _ _ q (.inl ⟨_, rfl⟩)))
  · exact .inl (.inr ⟨o, k _ _ q (.inr ⟨_, _, rfl⟩)⟩)
  · exact .inr q
theorem Pps.tk {K : PySem.W.Frag} {H H' : Hp} (k : TK H H') : ∀ {vs : List V} {xs : List Q2}, Pps K H vs xs → Pps K H' vs xs
  | _, _, .nil => .nil
  | _, _, .cons h t => .cons (h.tk k) (t.tk k)
theorem Dbt.tk {K : PySem.W.Frag} {H H' : Hp} {v : V} {x : Debt} (h : Dbt K H v x) (k : TK H H') : Dbt K H' v x := by
  obtain ⟨t, vp, a, b, c⟩ := h
  exact ⟨t, vp, a, k _ _ b (.inl ⟨_, rfl⟩), c.tk k⟩
theorem Dbts.tk {K : PySem.W.Frag} {H H' : Hp} {vs : List V} {xs : List Debt} (h : Dbts K H vs xs) (k : TK H H') : Dbts K H' vs xs := by
  induction h with
  | nil => exact .nil
  | cons a _ ih => exact .cons (a.tk k) ih
end DT

namespace DT
open PySem PySem.Spec PyProof.Rows L2
/-! ### deeds as they are told by tuples: settlings and sales -/
inductive Dd
  | settle (z : Str)
  | sell (a b : Str) (x : Q2)
def DdV (K : PySem.W.Frag) (H : Hp) (v : V) : Dd → Prop
  | .settle z => ∃ t, v = .ref t ∧ SqT K H t [.str ("settle" : Str), .str z]
  | .sell a b x => ∃ t vp, v = .ref t ∧ SqT K H t [.str ("sell" : Str), .str a, .str b, vp] ∧ Pp K H vp x
theorem DdV.same {K : PySem.W.Frag} {H H' : Hp} {v : V} {dd : Dd} (h : DdV K H v dd) (e : Same H H') : DdV K H' v dd := by
  cases dd with
  | settle z =>
    obtain ⟨t, rfl, h⟩ := h
    exact ⟨t, rfl, same_seqT e h⟩
  | sell a b x =>
    obtain ⟨t, vp, rfl, h, p⟩ := h
    exact ⟨t, vp, rfl, same_seqT e h, p.same e⟩
theorem DdV.del {K : PySem.W.Frag} {H : Hp} {M : List Addr} {v : V} {dd : Dd} (a : Aside H M) (h : DdV K H v dd) : DdV K (del M H) v dd := by
  cases dd with
  | settle z =>
    obtain ⟨t, rfl, h⟩ := h
    exact ⟨t, rfl, sqT_del a h⟩
  | sell a' b x =>
    obtain ⟨t, vp, rfl, h, p⟩ := h
    exact ⟨t, vp, rfl, sqT_del a h, pp_del a p⟩
def didS (st : LSt) : Dd → LSt
  | .settle z => joinS st z
  | .sell a b x => moveS st a b x
def doneM (m : Mo) : Dd → Mo
  | .settle z => joinM m z (0, 1)
  | .sell a b x => soldM m a b x
/-- what makes a deed one that is not refused -/
def GoodS (N : Nat) (st : LSt) : Dd → Prop
  | .settle z => nameB z = true ∧ z ∉ st.names ∧ st.names.length + 1 ≤ 24 ∧ z.length ≤ 1000
  | .sell a b x => a ∈ st.names ∧ b ∈ st.names ∧ a ≠ b ∧ 0 < x.1 ∧ Low x.1 x.2 ∧ Ok N x ∧ AllOk N st.own ∧ (1 ≤ N ∧ N ≤ 2900) ∧ lessP (itemP st.own (idxS st.names a)) x = false
structure Wl (st : LSt) : Prop where
  o : st.own.length = st.names.length
  g : st.gain.length = st.names.length
  c : st.cnt.length = st.names.length
  few : st.names.length ≤ 24
  nd : st.names.Nodup
def sp_did (K : PySem.W.Frag) (N : Nat) : Sp := fun vs H Q _ => ∃ (s : Addr) (st : LSt) (dv : V) (dd : Dd), vs = [.ref s, dv] ∧ StK K H s st ∧ DdV K H dv dd ∧ Wl st ∧ GoodS N st dd ∧ ∀ H' r, Same H H' → StNew K H H' r (didS st dd) → Q (.ref r) H'
end DT
namespace DT
open PySem PySem.Spec PyProof.Rows L2
def GoodM (N : Nat) (m : Mo) : Dd → Prop
  | .settle z => nameB z = true ∧ z ∉ m.order ∧ m.order.length + 1 ≤ 24 ∧ z.length ≤ 1000
  | .sell a b x => a ∈ m.order ∧ b ∈ m.order ∧ a ≠ b ∧ 0 < x.1 ∧ Low x.1 x.2 ∧ Ok N x ∧ AllOk N m.hold ∧ AllOk N m.free ∧ AllOk N m.port ∧ (1 ≤ N ∧ N ≤ 2900) ∧ lessP (itemP m.free (idxS m.order a)) x = false
def sp_call (K : PySem.W.Frag) (CM C : Addr) (N : Nat) : Sp := fun vs H Q _ => ∃ (d dx n p u : Addr) (m : Mo) (ps us : List V) (dv : V) (dd : Dd), vs = [.ref d, dv] ∧ DiAt K CM C H d dx n p u m ps us ∧ ps.length ≤ 900 ∧ Wf m ∧ DdV K H dv dd ∧ GoodM N m dd ∧
  ∀ H' u' r tt, Same (del (mu d dx p u) H) (del (mu d dx p u') H') → DiAt K CM C H' d dx r p u' (doneM m dd) (ps ++ [.ref tt]) [] → H u' = none → Q .non H'
end DT

namespace DT
open PySem PySem.Spec PyProof.Rows L2
/-! ### parts by a common bottom -/
theorem low_same {t b t' C : Int} (hb : 0 < b) (hC : 0 < C) (e : t * C = t' * b) : lowP t b = lowP t' C := by
  have hg := gc_pos (a := t) hb
  have c := low_cross t b
  have h : (lowP t b).1 * C = t' * (lowP t b).2 := by
    show (t / gc t b) * C = t' * (b / gc t b)
    apply Int.eq_of_mul_eq_mul_right (Int.ne_of_gt hb)
    generalize t / gc t b = p at c ⊢
    generalize b / gc t b = r at c ⊢
    grind
  obtain ⟨e1, e2⟩ := low_is hC (lowP_low hb) h
  show ((lowP t b).1, (lowP t b).2) = (t' / gc t' C, C / gc t' C)
  rw [e1, e2]
theorem low_dvd {t C : Int} : (lowP t C).2 ∣ C := Int.ediv_dvd_of_dvd (gc_dr t C)
theorem add_dvd {x y : Q2} {C : Int} (hx : 0 < x.2) (hy : 0 < y.2) (hC : 0 < C) (dx : x.2 ∣ C) (dy : y.2 ∣ C) : (addP x y).2 ∣ C := by
  obtain ⟨a, ea⟩ := dx
  obtain ⟨b, eb⟩ := dy
  have : addP x y = lowP (x.1 * a + y.1 * b) C := low_same (Int.mul_pos hx hy) hC (by grind)
  rw [this]
  exact low_dvd
theorem sub_dvd {x y : Q2} {C : Int} (hx : 0 < x.2) (hy : 0 < y.2) (hC : 0 < C) (dx : x.2 ∣ C) (dy : y.2 ∣ C) : (subP x y).2 ∣ C := by
  rw [← subP_eq]
  exact add_dvd hx (y := (-y.1, y.2)) hy hC dx dy
theorem mul_dvd {x y : Q2} : (mulP x y).2 ∣ x.2 * y.2 := low_dvd
structure Fine (B : Int) (y : Q2) : Prop where
  low : Low y.1 y.2
  nn : 0 ≤ y.1
  le : y.1 ≤ y.2
  dv : y.2 ∣ B
theorem v_nn {y : Q2} (h : 0 < y.2) : 0 ≤ y.1 ↔ 0 ≤ val y := by
  have e := val_lt (x := y) (y := (0, 1)) h (by decide)
  rw [val_zero'] at e
  have e2 : y.1 * 1 < 0 * y.2 ↔ y.1 < 0 := by rw [Int.mul_one, Int.zero_mul]
  rw [show ((0, 1) : Q2).1 = 0 from rfl, show ((0, 1) : Q2).2 = 1 from rfl, e2] at e
  rw [← Int.not_lt, e, Rat.not_lt]
theorem v_le {y : Q2} (h : 0 < y.2) : y.1 ≤ y.2 ↔ val y ≤ 1 := by
  have e := val_lt (x := (1, 1)) (y := y) (by decide) h
  rw [val_one] at e
  have e2 : (1 : Int) * y.2 < y.1 * 1 ↔ y.2 < y.1 := by rw [Int.mul_one, Int.one_mul]
  rw [show ((1, 1) : Q2).1 = 1 from rfl, show ((1, 1) : Q2).2 = 1 from rfl, e2] at e
  rw [← Int.not_lt, e, Rat.not_lt]
theorem v_pos {y : Q2} (h : 0 < y.2) : 0 < y.1 ↔ 0 < val y := by
  have e := val_lt (x := (0, 1)) (y := y) (by decide) h
  rw [val_zero'] at e
  have e2 : (0 : Int) * y.2 < y.1 * 1 ↔ 0 < y.1 := by rw [Int.mul_one, Int.zero_mul]
  rw [show ((0, 1) : Q2).1 = 0 from rfl, show ((0, 1) : Q2).2 = 1 from rfl, e2] at e
  exact e
theorem Fine.ok {B : Int} {y : Q2} (h : Fine B y) (hB : 0 < B) (b : B < 2 ^ 60) : Ok 60 y := by
  have l := Int.le_of_dvd hB h.dv
  have p := h.low.pos
  have nn := h.nn
  have le := h.le
  exact ⟨p, Bd.of (m := 2 ^ 60) (by omega) (by omega) (by decide), Bd.of (m := 2 ^ 60) (by omega) (by omega) (by decide)⟩
theorem Fine.mono {B C : Int} {y : Q2} (h : Fine B y) (d : B ∣ C) : Fine C y := ⟨h.low, h.nn, h.le, Int.dvd_trans h.dv d⟩
theorem fine0 (B : Int) : Fine B (0, 1) := ⟨⟨by decide, rfl⟩, by decide, by decide, Int.one_dvd B⟩
theorem sub0 {x : Q2} (h : Low x.1 x.2) : subP x (0, 1) = x := val_inj (sub_low h.pos (by decide)) h (by rw [val_sub h.pos (by decide), val_zero']; grind)
theorem add0 {x : Q2} (h : Low x.1 x.2) : addP x (0, 1) = x := val_inj (addP_low h.pos (by decide)) h (by rw [val_add h.pos (by decide), val_zero']; grind)
theorem add0' {x : Q2} (h : Low x.1 x.2) : addP (0, 1) x = x := val_inj (addP_low (by decide) h.pos) h (by rw [val_add (by decide) h.pos, val_zero']; grind)
/-- a sale of a share of what is free -/
theorem sale {B b c : Int} {x : Q2} (hB : 0 < B) (h : Fine B x) (hx : 0 < x.1) (h1 : 1 ≤ c) (h2 : c < b) :
    Fine (B * b) (mulP x (lowP c b)) ∧ 0 < (mulP x (lowP c b)).1 ∧ lessP x (mulP x (lowP c b)) = false ∧ Fine (B * b) (subP x (mulP x (lowP c b))) := by
  have hb : 0 < b := by omega
  have px := h.low.pos
  have lr := lowP_low (t := c) hb
  have pr := lr.pos
  have vr : val (lowP c b) = val (c, b) := val_low hb
  have r0 : 0 < val (lowP c b) := by rw [vr]; exact (v_pos (y := (c, b)) hb).1 (by show 0 < c; omega)
  have r1 : val (lowP c b) ≤ 1 := by rw [vr]; exact (v_le (y := (c, b)) hb).1 (by show c ≤ b; omega)
  have x0 := (v_pos px).1 hx
  have x1 := (v_le px).1 h.le
  have lm : Low (mulP x (lowP c b)).1 (mulP x (lowP c b)).2 := lowP_low (Int.mul_pos px pr)
  have vm := val_mul px pr
  have m0 : 0 < val (mulP x (lowP c b)) := by rw [vm]; exact Rat.mul_pos x0 r0
  have m1 : val (mulP x (lowP c b)) ≤ val x := by
    rw [vm]
    have := Rat.mul_nonneg (Rat.le_of_lt x0) (show 0 ≤ 1 - val (lowP c b) by grind)
    grind
  have dB : x.2 ∣ B * b := Int.dvd_trans h.dv (Int.dvd_mul_right B b)
  have dm : (mulP x (lowP c b)).2 ∣ B * b := Int.dvd_trans mul_dvd (Int.mul_dvd_mul h.dv low_dvd)
  have fm : Fine (B * b) (mulP x (lowP c b)) := ⟨lm, (v_nn lm.pos).2 (Rat.le_of_lt m0), (v_le lm.pos).2 (by grind), dm⟩
  refine ⟨fm, (v_pos lm.pos).2 m0, ?_, ?_⟩
  · rw [Bool.eq_false_iff]
    intro z
    rw [lessP_iff px lm.pos] at z
    grind
  · have ls := sub_low px lm.pos
    have vs := val_sub px lm.pos
    exact ⟨ls, (v_nn ls.pos).2 (by rw [vs]; grind), (v_le ls.pos).2 (by rw [vs]; grind), sub_dvd px lm.pos (Int.mul_pos hB hb) dB dm⟩
end DT

namespace DT
open PySem PySem.Spec PyProof.Rows L2
/-! ### lists of things told one by one -/
def Al {α : Type} (R : V → α → Prop) (us : List V) (xs : List α) : Prop := us.length = xs.length ∧ ∀ (i : Nat) (v : V) (x : α), us[i]? = some v → xs[i]? = some x → R v x
section
variable {α : Type} {R R' : V → α → Prop} {us vs : List V} {xs ys : List α}
theorem Al.nil : Al R [] [] := ⟨rfl, fun _ _ _ h => nomatch h⟩
theorem Al.imp (h : Al R us xs) (f : ∀ v x, v ∈ us → R v x → R' v x) : Al R' us xs := ⟨h.1, fun i v x e1 e2 => f v x (List.mem_of_getElem? e1) (h.2 i v x e1 e2)⟩
theorem Al.app (h : Al R us xs) (k : Al R vs ys) : Al R (us ++ vs) (xs ++ ys) := by
  refine ⟨by rw [List.length_append, List.length_append, h.1, k.1], fun i v x e1 e2 => ?_⟩
  by_cases hi : i < us.length
  · rw [List.getElem?_append_left hi] at e1
    rw [List.getElem?_append_left (by rw [← h.1]; exact hi)] at e2
    exact h.2 i v x e1 e2
  · rw [List.getElem?_append_right (by omega)] at e1
    rw [List.getElem?_append_right (by rw [← h.1]; omega), ← h.1] at e2
    exact k.2 _ v x e1 e2
theorem Al.one {v : V} {x : α} (h : R v x) : Al R [v] [x] := ⟨rfl, fun i u y e1 e2 => by
  cases i with
  | zero => cases e1; cases e2; exact h
  | succ i => cases e1⟩
theorem Al.snoc {v : V} {x : α} (h : Al R us xs) (k : R v x) : Al R (us ++ [v]) (xs ++ [x]) := h.app (.one k)
theorem Al.at {i : Nat} {x : α} (h : Al R us xs) (e : xs[i]? = some x) : ∃ v, us[i]? = some v ∧ R v x := by
  have hi : i < us.length := by rw [h.1]; exact (List.getElem?_eq_some_iff.1 e).1
  exact ⟨us[i], List.getElem?_eq_getElem hi, h.2 i _ x (List.getElem?_eq_getElem hi) e⟩
theorem Al.of {i : Nat} {v : V} (h : Al R us xs) (e : us[i]? = some v) : ∃ x, xs[i]? = some x ∧ R v x := by
  have hi : i < xs.length := by rw [← h.1]; exact (List.getElem?_eq_some_iff.1 e).1
  exact ⟨xs[i], List.getElem?_eq_getElem hi, h.2 i v _ e (List.getElem?_eq_getElem hi)⟩
end
end DT

namespace DT
open PySem PySem.Spec PyProof.Rows L2
/-! ### a row of deeds, each of them good behind the ones ahead -/
def Chain (N : Nat) (s0 : LSt) (ds : List Dd) : Prop := ∀ (i : Nat) (dd : Dd), ds[i]? = some dd → GoodS N ((ds.take i).foldl didS s0) dd ∧ Wl ((ds.take i).foldl didS s0)
theorem Chain.nil {N : Nat} {s0 : LSt} : Chain N s0 [] := fun _ _ h => nomatch h
theorem Chain.snoc {N : Nat} {s0 : LSt} {ds : List Dd} {dd : Dd} (h : Chain N s0 ds) (g : GoodS N (ds.foldl didS s0) dd) (w : Wl (ds.foldl didS s0)) : Chain N s0 (ds ++ [dd]) := fun i x e => by
  by_cases hi : i < ds.length
  · rw [List.getElem?_append_left hi] at e
    rw [List.take_append_of_le_length (by omega)]
    exact h i x e
  · rw [List.getElem?_append_right (by omega)] at e
    have h0 : i - ds.length = 0 := by
      have := (List.getElem?_eq_some_iff.1 e).1
      simp at this
      omega
    rw [h0] at e
    cases e
    rw [show i = ds.length by omega, List.take_append_of_le_length (Nat.le_refl _), List.take_of_length_le (Nat.le_refl _)]
    exact ⟨g, w⟩
theorem fold_snoc (s0 : LSt) (ds : List Dd) (dd : Dd) : (ds ++ [dd]).foldl didS s0 = didS (ds.foldl didS s0) dd := by rw [List.foldl_append]; rfl
/-- the state behind so many settlings, some of them with a sale -/
structure Beg (pool : List Str) (i : Nat) (st : LSt) (B : Int) : Prop where
  nm : st.names = pool.take (i + 1)
  ol : st.own.length = i + 1
  gn : st.gain = List.replicate (i + 1) (0, 1)
  ct : st.cnt = List.replicate (i + 1) 0
  ln : st.loans = []
  we : st.wet = 0
  dr : st.dry = 0
  b0 : 0 < B
  b6 : B ≤ 6 ^ i
  fi : ∀ y ∈ st.own, Fine B y
theorem pow6 : ∀ {i : Nat}, i ≤ 22 → (6 : Int) ^ i < 2 ^ 60 := fun {i} h => by
  have : (6 : Int) ^ i ≤ 6 ^ 22 := by
    exact_mod_cast Nat.pow_le_pow_right (by decide) h
  exact Int.lt_of_le_of_lt this (by decide)
theorem Beg.all {pool : List Str} {i : Nat} {st : LSt} {B : Int} (h : Beg pool i st B) (hi : i ≤ 22) : AllOk 60 st.own := fun y hy => ⟨(h.fi y hy).ok h.b0 (Int.lt_of_le_of_lt h.b6 (pow6 hi)), (h.fi y hy).low⟩
theorem Beg.wl {pool : List Str} {i : Nat} {st : LSt} {B : Int} (h : Beg pool i st B) (nd : pool.Nodup) (hl : pool.length = 26) (hi : i ≤ 23) : Wl st := by
  have nl : st.names.length = i + 1 := by rw [h.nm, List.length_take]; omega
  exact ⟨by rw [h.ol, nl], by rw [h.gn, List.length_replicate, nl], by rw [h.ct, List.length_replicate, nl], by omega, by rw [h.nm]; exact nd.sublist (List.take_sublist _ _)⟩
theorem take_snoc {pool : List Str} {i : Nat} {z : Str} (e : pool[i]? = some z) : pool.take (i + 1) = pool.take i ++ [z] := by rw [List.take_add_one, e]; rfl
theorem Beg.join {pool : List Str} {i : Nat} {st : LSt} {B : Int} {z : Str} (h : Beg pool i st B) (e : pool[i + 1]? = some z) : Beg pool (i + 1) (joinS st z) B :=
  ⟨by show st.names ++ [z] = _; rw [h.nm, take_snoc e], by show (st.own ++ [(0, 1)]).length = _; rw [List.length_append, h.ol]; rfl, by show st.gain ++ [(0, 1)] = _; rw [h.gn, ← List.replicate_succ'], by show st.cnt ++ [0] = _; rw [h.ct, ← List.replicate_succ'], h.ln, h.we, h.dr, h.b0, Int.le_trans h.b6 (by exact_mod_cast Nat.pow_le_pow_right (by decide) (Nat.le_succ i)), fun y hy => by
    rcases List.mem_append.1 (show y ∈ st.own ++ [(0, 1)] from hy) with hy | hy
    · exact h.fi y hy
    · rw [List.mem_singleton.1 hy]; exact fine0 B⟩
/-- one of the fields settled has the last place -/
theorem idx_take {pool : List Str} (nd : pool.Nodup) {i j : Nat} {z : Str} (e : pool[j]? = some z) (hj : j < i) : idxS (pool.take i) z = j ∧ z ∈ pool.take i := by
  have e1 : (pool.take i)[j]? = some z := by rw [List.getElem?_take_of_lt hj]; exact e
  exact ⟨idx_nodup (nd.sublist (List.take_sublist _ _)) e1, List.mem_of_getElem? e1⟩
theorem Beg.sell {pool : List Str} {i : Nat} {st : LSt} {B b c : Int} {z0 z : Str} (h : Beg pool (i + 1) st B) (h6 : B ≤ 6 ^ i) (nd : pool.Nodup) (e0 : pool[0]? = some z0) (e1 : pool[i + 1]? = some z) (l1 : itemP st.own (i + 1) = (0, 1)) (hx : 0 < (itemP st.own 0).1) (h1 : 1 ≤ c) (h2 : c < b) (hb : b ≤ 6) (hi : i + 1 ≤ 22) :
    GoodS 63 st (.sell z0 z (mulP (itemP st.own 0) (lowP c b))) ∧ Beg pool (i + 1) (moveS st z0 z (mulP (itemP st.own 0) (lowP c b))) (B * b) := by
  have ol := h.ol
  have i0 := idx_take nd e0 (show 0 < i + 1 + 1 by omega)
  have i1 := idx_take nd e1 (show i + 1 < i + 1 + 1 by omega)
  rw [← h.nm] at i0 i1
  have f0 := h.fi _ (List.mem_of_getElem? (item_some (show 0 < st.own.length by omega)))
  obtain ⟨fm, pm, le, fs⟩ := sale h.b0 f0 hx h1 h2
  have hB : 0 < B * b := Int.mul_pos h.b0 (by omega)
  have b6 : B * b ≤ 6 ^ (i + 1) := by
    rw [Int.pow_succ]
    exact Int.mul_le_mul h6 hb (by omega) (Int.pow_nonneg (by decide))
  have ab : z0 ≠ z := fun q => by
    have := i0.1
    rw [q, i1.1] at this
    omega
  refine ⟨⟨i0.2, i1.2, ab, pm, fm.low, (fm.ok hB (Int.lt_of_le_of_lt b6 (pow6 hi))).mono (by decide), (h.all (by omega)).mono (by decide), ⟨by decide, by decide⟩, by rw [i0.1]; exact le⟩, ?_⟩
  have it : itemP (st.own.set 0 (subP (itemP st.own 0) (mulP (itemP st.own 0) (lowP c b)))) (i + 1) = (0, 1) := by
    rw [← l1]
    unfold itemP
    rw [List.getD, List.getElem?_set_ne (by omega)]
    rfl
  have eo : (moveS st z0 z (mulP (itemP st.own 0) (lowP c b))).own = (st.own.set 0 (subP (itemP st.own 0) (mulP (itemP st.own 0) (lowP c b)))).set (i + 1) (mulP (itemP st.own 0) (lowP c b)) := by
    show (st.own.set _ _).set _ _ = _
    rw [i0.1, i1.1, it, add0' fm.low]
  refine ⟨h.nm, by rw [eo, List.length_set, List.length_set, ol], h.gn, h.ct, h.ln, h.we, h.dr, hB, b6, fun y hy => ?_⟩
  rw [eo] at hy
  rcases List.mem_or_eq_of_mem_set hy with hy | hy
  · rcases List.mem_or_eq_of_mem_set hy with hy | hy
    · exact (h.fi y hy).mono (Int.dvd_mul_right B b)
    · rw [hy]; exact fs
  · rw [hy]; exact fm
/-- the ditch's moment as the law's own state has it, where no hour was and nothing is lent -/
structure Rel (m : Mo) (st : LSt) : Prop where
  o : m.order = st.names
  h : m.hold = st.own
  f : m.free = st.own
  q : m.port = st.own
  a : m.arr = st.gain
  c : m.cnt = st.cnt
  d : m.debts = []
  l : st.loans = []
  w : m.wet = st.wet
  y : m.dry = st.dry
theorem Rel.new (z : Str) : Rel (newMo z) (freshS z) := ⟨rfl, rfl, rfl, rfl, rfl, rfl, rfl, rfl, rfl, rfl⟩
theorem addAt_neg (xs : List Q2) (i : Nat) (x : Q2) : addAt xs i (negP x) = xs.set i (subP (itemP xs i) x) := by
  unfold addAt negP
  rw [subP_eq]
theorem Rel.did {m : Mo} {st : LSt} (r : Rel m st) (dd : Dd) : Rel (doneM m dd) (didS st dd) := by
  cases dd with
  | settle z => exact ⟨by show m.order ++ [z] = _; rw [r.o]; rfl, by show m.hold ++ [(0, 1)] = _; rw [r.h]; rfl, by show m.free ++ [(0, 1)] = _; rw [r.f]; rfl, by show m.port ++ [(0, 1)] = _; rw [r.q]; rfl, by show m.arr ++ [(0, 1)] = _; rw [r.a]; rfl, by show m.cnt ++ [0] = _; rw [r.c]; rfl, r.d, r.l, r.w, r.y⟩
  | sell a b x =>
    have e : ∀ xs, xs = st.own → addAt (addAt xs (idxS m.order a) (negP x)) (idxS m.order b) x = (moveS st a b x).own := fun xs ex => by
      rw [ex, addAt_neg, r.o]
      rfl
    exact ⟨r.o, e _ r.h, e _ r.f, e _ r.q, r.a, r.c, r.d, r.l, r.w, r.y⟩
theorem Rel.good {m : Mo} {st : LSt} {N : Nat} (r : Rel m st) {dd : Dd} (g : GoodS N st dd) : GoodM N m dd := by
  cases dd with
  | settle z =>
    obtain ⟨g1, g2, g3, g4⟩ := g
    exact ⟨g1, by rw [r.o]; exact g2, by rw [r.o]; exact g3, g4⟩
  | sell a b x =>
    obtain ⟨h1, h2, h3, h4, h5, h6, h7, h8, h9⟩ := g
    exact ⟨by rw [r.o]; exact h1, by rw [r.o]; exact h2, h3, h4, h5, h6, by rw [r.h]; exact h7, by rw [r.f]; exact h7, by rw [r.q]; exact h7, h8, by rw [r.f, r.o]; exact h9⟩
theorem Rel.wf {m : Mo} {st : LSt} (r : Rel m st) (w : Wl st) (nl : ∀ z ∈ st.names, z.length ≤ 1000) : Wf m :=
  ⟨by rw [r.h, r.o, w.o], by rw [r.f, r.o, w.o], by rw [r.q, r.o, w.o], by rw [r.a, r.o, w.g], by rw [r.c, r.o, w.c], by rw [r.o]; exact w.few, by rw [r.o]; exact w.nd, by rw [r.o]; exact nl⟩
end DT
namespace DT
open PySem PySem.Spec PyProof.Rows L2
def sp_begun25 (K : PySem.W.Frag) : Sp := fun vs H Q _ => ∃ (pr pp : Addr) (rs : List Int) (zs : List Str) (z0 : Str), vs = [.ref pr, .ref pp] ∧ H pr = some (.lst (rs.map V.int)) ∧ 3 ≤ rs.length ∧ (∀ r ∈ rs, 0 ≤ r ∧ r < 1000000) ∧ H pp = some (.lst (zs.map V.str)) ∧ zs.length = 26 ∧ (∀ z ∈ zs, nameB z = true) ∧ zs.Nodup ∧ zs[0]? = some z0 ∧
  ∀ H' t s dl st dvs ds i B, Same H H' → SqT K H' t [.ref s, .ref dl] → StNew K H H' s st → H dl = none → H' dl = some (.lst dvs) → Al (DdV K H') dvs ds → ds.length ≤ 44 → Chain 63 (freshS z0) ds → st = ds.foldl didS (freshS z0) → Beg zs i st B → i ≤ 22 → Q (.ref t) H'
theorem Beg.wfs {pool : List Str} {i : Nat} {st : LSt} {B : Int} (h : Beg pool i st B) (nd : pool.Nodup) (hl : pool.length = 26) (hi : i ≤ 22) : WfS st 60 := by
  have w := h.wl nd hl (by omega)
  refine ⟨w.o, w.g, w.c, w.few, w.nd, h.all hi, fun y hy => ?_, fun y hy => ?_, by decide, by decide⟩
  · rw [h.gn] at hy
    rw [(List.mem_replicate.1 hy).2]
    exact ⟨⟨by decide, by unfold Bd; decide, by unfold Bd; decide⟩, by decide, rfl⟩
  · rw [h.ct] at hy
    rw [(List.mem_replicate.1 hy).2]
    unfold Bd
    decide
theorem begF (z0 : Str) {pool : List Str} (e : pool[0]? = some z0) : Beg pool 0 (freshS z0) 1 :=
  ⟨by show [z0] = _; rw [take_snoc e]; rfl, rfl, rfl, rfl, rfl, rfl, rfl, by decide, by decide, fun y hy => by rw [List.mem_singleton.1 (show y ∈ [(1, 1)] from hy)]; exact ⟨⟨by decide, rfl⟩, by decide, by decide, by decide⟩⟩
theorem name_short {z : Str} (h : nameB z = true) : z.length ≤ 1000 := by
  have := (name_len h).2
  rw [TL.len_tl]
  omega
end DT
namespace DT
open PySem PySem.Spec PyProof.Rows L2
def sp_newn (K : PySem.W.Frag) : Sp := fun vs H Q _ => ∃ (x : Int) (s pp : Addr) (st : LSt) (zs : List Str), vs = [.int x, .ref s, .ref pp] ∧ 0 ≤ x ∧ StK K H s st ∧ Wl st ∧ H pp = some (.lst (zs.map V.str)) ∧ zs.length = 26 ∧ zs.Nodup ∧
  ∀ H' z, Same H H' → z ∈ zs → z ∉ st.names → Q (.str z) H'
theorem sub_len : ∀ {zs ns : List Str}, zs.Nodup → zs ⊆ ns → zs.length ≤ ns.length
  | [], _, _, _ => Nat.zero_le _
  | z :: zs, ns, nd, h => by
    have hz : z ∈ ns := h (by simp)
    have nd' := List.nodup_cons.1 nd
    have := sub_len (ns := ns.erase z) nd'.2 fun y hy => (List.mem_erase_of_ne fun e => nd'.1 (by rw [← e]; exact hy)).2 (h (by simp [hy]))
    rw [List.length_erase_of_mem hz] at this
    have p := List.length_pos_of_mem hz
    rw [List.length_cons]
    omega
/-- of more names than there are fields, some are not there -/
theorem some_left {zs ns : List Str} (nd : zs.Nodup) (h : ns.length < zs.length) : 0 < (zs.filter fun z => decide (z ∉ ns)).length := by
  apply List.length_pos_iff.2
  intro e
  rw [List.filter_eq_nil_iff] at e
  have sub : zs ⊆ ns := fun z hz => by
    have := e z hz
    simpa using this
  have := sub_len nd sub
  omega
theorem flt_snoc {zs : List Str} {ns : List Str} {i : Nat} {z : Str} (e : zs[i]? = some z) : (zs.take (i + 1)).filter (fun z => decide (z ∉ ns)) = if z ∈ ns then (zs.take i).filter (fun z => decide (z ∉ ns)) else (zs.take i).filter (fun z => decide (z ∉ ns)) ++ [z] := by
  rw [List.take_add_one, e, List.filter_append]
  by_cases h : z ∈ ns
  · rw [if_pos h]; simp [h]
  · rw [if_neg h]; simp [h]
end DT
namespace DT
open PySem PySem.Spec PyProof.Rows L2
theorem DdV.tk {K : PySem.W.Frag} {H H' : Hp} {v : V} {dd : Dd} (h : DdV K H v dd) (k : TK H H') : DdV K H' v dd := by
  have sq : ∀ {t : Addr} {xs : List V}, SqT K H t xs → SqT K H' t xs := fun {t xs} q => by
    rcases q with (q | ⟨o, q⟩) | q
    · exact .inl (.inl (k _ _ q (.inl ⟨_, rfl⟩)))
    · exact .inl (.inr ⟨o, k _ _ q (.inr ⟨_, _, rfl⟩)⟩)
    · exact .inr q
  cases dd with
  | settle z =>
    obtain ⟨t, rfl, h⟩ := h
    exact ⟨t, rfl, sq h⟩
  | sell a b x =>
    obtain ⟨t, vp, rfl, h, p⟩ := h
    exact ⟨t, vp, rfl, sq h, p.tk k⟩
/-- a state apart from the list at D -/
def StD (K : PySem.W.Frag) (D : Addr) (H0 H : Hp) (s : Addr) (st : LSt) : Prop := ∃ kvs an al ao ag ac ovs gvs lvs, StF K H0 H s st kvs an al ao ag ac ovs gvs lvs ∧ an ≠ D ∧ al ≠ D
theorem StF.same {K : PySem.W.Frag} {H0 H H' : Hp} {s : Addr} {st : LSt} {kvs : List (Key × V)} {an al ao ag ac : Addr} {ovs gvs lvs : List V} (F : StF K H0 H s st kvs an al ao ag ac ovs gvs lvs) (e : Same H H') : StF K H0 H' s st kvs an al ao ag ac ovs gvs lvs :=
  ⟨e _ _ F.es, F.k.same e, F.kl, F.fs, F.fn, F.fl, F.fo, F.fg, F.fc, F.nl, F.og, F.oc, F.gc, F.so, F.sg, F.sc⟩
theorem StD.same {K : PySem.W.Frag} {D : Addr} {H0 H H' : Hp} {s : Addr} {st : LSt} (h : StD K D H0 H s st) (e : Same H H') : StD K D H0 H' s st := by
  obtain ⟨kvs, an, al, ao, ag, ac, ovs, gvs, lvs, F, n1, n2⟩ := h
  exact ⟨kvs, an, al, ao, ag, ac, ovs, gvs, lvs, F.same e, n1, n2⟩
theorem StD.new {K : PySem.W.Frag} {D : Addr} {H0 H : Hp} {s : Addr} {st : LSt} (h : StD K D H0 H s st) : StNew K H0 H s st := by
  obtain ⟨kvs, an, al, ao, ag, ac, ovs, gvs, lvs, F, n1, n2⟩ := h
  exact ⟨kvs, an, al, ao, ag, ac, ovs, gvs, lvs, F⟩
theorem StD.put {K : PySem.W.Frag} {D : Addr} {H0 H : Hp} {s : Addr} {st : LSt} {xs ys : List V} (h : StD K D H0 H s st) (hD : H D = some (.lst xs)) : StD K D H0 (upd H D (.lst ys)) s st := by
  obtain ⟨kvs, an, al, ao, ag, ac, ovs, gvs, lvs, F, n1, n2⟩ := h
  have kk := F.k
  have tk : TK H (upd H D (.lst ys)) := TK.lst hD
  have nd : ∀ b zs, H b = some (.dK zs) → upd H D (.lst ys) b = some (.dK zs) := fun b zs e => by rw [upd_ne (ne_of e hD (by intro z; cases z))]; exact e
  exact ⟨kvs, an, al, ao, ag, ac, ovs, gvs, lvs, ⟨nd _ _ F.es, ⟨kk.vn, kk.vl, kk.vo, kk.vg, kk.vc, kk.vw, kk.vd, by rw [upd_ne n1]; exact kk.en, by rw [upd_ne n2]; exact kk.el, kk.dl.tk tk, nd _ _ kk.eo, kk.po.tk tk, nd _ _ kk.eg, kk.pg.tk tk, nd _ _ kk.ec⟩, F.kl, F.fs, F.fn, F.fl, F.fo, F.fg, F.fc, F.nl, F.og, F.oc, F.gc, F.so, F.sg, F.sc⟩, n1, n2⟩
theorem StNew.toD {K : PySem.W.Frag} {D : Addr} {H0 H1 H : Hp} {s : Addr} {st : LSt} {o : HO} (h : StNew K H1 H s st) (e : Same H0 H1) (hD : H1 D = some o) : StD K D H0 H s st := by
  obtain ⟨kvs, an, al, ao, ag, ac, ovs, gvs, lvs, F⟩ := h
  have n : ∀ b, H1 b = none → b ≠ D := fun b hb z => by rw [z, hD] at hb; cases hb
  exact ⟨kvs, an, al, ao, ag, ac, ovs, gvs, lvs, ⟨F.es, F.k, F.kl, e.free F.fs, e.free F.fn, e.free F.fl, e.free F.fo, e.free F.fg, e.free F.fc, F.nl, F.og, F.oc, F.gc, F.so, F.sg, F.sc⟩, n _ F.fn, n _ F.fl⟩
theorem StNew.toD0 {K : PySem.W.Frag} {D : Addr} {H0 H : Hp} {s : Addr} {st : LSt} (h : StNew K H0 H s st) (hD : H D = none) : StD K D H0 H s st := by
  obtain ⟨kvs, an, al, ao, ag, ac, ovs, gvs, lvs, F⟩ := h
  exact ⟨kvs, an, al, ao, ag, ac, ovs, gvs, lvs, F, ne_of_none F.k.en hD, ne_of_none F.k.el hD⟩
theorem app_last {α : Type} (l : List α) (x : α) : atI (l ++ [x]) (-1) = some x := by
  unfold atI ixN
  rw [if_neg (by decide), if_pos (by rw [List.length_append]; show -((l.length + 1 : Nat) : Int) ≤ -1; omega)]
  show (l ++ [x])[(-1 + ((l ++ [x]).length : Int)).toNat]? = _
  rw [show (-1 + ((l ++ [x]).length : Int)).toNat = l.length by rw [List.length_append]; show (-1 + ((l.length + 1 : Nat) : Int)).toNat = _; omega]
  simp
end DT
namespace DT
open PySem PySem.Spec PyProof.Rows L2
theorem tk_del {H : Hp} {M : List Addr} (a : Aside H M) : TK H (del M H) := fun b o e k => by
  rcases k with ⟨xs, rfl⟩ | ⟨q, u, rfl⟩
  · rw [del_out (a.tup e)]; exact e
  · rw [del_out (a.frz e)]; exact e
theorem StNew.del {K : PySem.W.Frag} {H0 H : Hp} {M : List Addr} {s : Addr} {st : LSt} (h : StNew K H0 H s st) (a : Aside H M) (hM : ∀ b ∈ M, ∃ o, H0 b = some o) : StK K (del M H) s st := by
  obtain ⟨kvs, an, al, ao, ag, ac, ovs, gvs, lvs, F⟩ := h
  have kk := F.k
  have tk := tk_del a
  have out : ∀ b x, H0 b = none → H b = some x → DT.del M H b = some x := fun b x hn e => by
    rw [del_out fun hb => ?_]
    · exact e
    · obtain ⟨o, eo⟩ := hM b hb
      rw [hn] at eo
      cases eo
  exact ⟨kvs, an, al, ao, ag, ac, ovs, gvs, lvs, out _ _ F.fs F.es, F.kl, ⟨kk.vn, kk.vl, kk.vo, kk.vg, kk.vc, kk.vw, kk.vd, out _ _ F.fn kk.en, out _ _ F.fl kk.el, kk.dl.tk tk, out _ _ F.fo kk.eo, kk.po.tk tk, out _ _ F.fg kk.eg, kk.pg.tk tk, out _ _ F.fc kk.ec⟩⟩
theorem Chain.short {N : Nat} {z0 : Str} {ds : List Dd} (h : Chain N (freshS z0) ds) (h0 : z0.length ≤ 1000) : ∀ j, j ≤ ds.length → ∀ z ∈ ((ds.take j).foldl didS (freshS z0)).names, z.length ≤ 1000
  | 0, _ => fun z hz => by rw [List.mem_singleton.1 (show z ∈ [z0] from hz)]; exact h0
  | j + 1, hj => fun z hz => by
    have e : ds[j]? = some ds[j] := List.getElem?_eq_getElem (by omega)
    rw [List.take_add_one, e] at hz
    have hz : z ∈ (((ds.take j) ++ [ds[j]]).foldl didS (freshS z0)).names := hz
    rw [fold_snoc] at hz
    have ih := Chain.short h h0 j (by omega)
    have g := (h j _ e).1
    cases ed : ds[j] with
    | settle y =>
      rw [ed] at hz g
      rcases List.mem_append.1 (show z ∈ _ ++ [y] from hz) with hz | hz
      · exact ih z hz
      · rw [List.mem_singleton.1 hz]; exact g.2.2.2
    | sell a b x =>
      rw [ed] at hz
      exact ih z hz
theorem fold_take {ds : List Dd} {s0 : LSt} {j : Nat} {dd : Dd} (e : ds[j]? = some dd) : (ds.take (j + 1)).foldl didS s0 = didS ((ds.take j).foldl didS s0) dd := by
  rw [List.take_add_one, e]
  show ((ds.take j) ++ [dd]).foldl didS s0 = _
  rw [fold_snoc]
def sp_setup25 (K : PySem.W.Frag) (CM C : Addr) : Sp := fun vs H Q _ => ∃ (pr d dx n p u pp : Addr) (rs : List Int) (zs : List Str) (z0 : Str), vs = [.ref pr, .ref d, .ref pp] ∧ H pr = some (.lst (rs.map V.int)) ∧ 11 ≤ rs.length ∧ rs.length ≤ 900 ∧ (∀ r ∈ rs, 0 ≤ r ∧ r < 1000000) ∧ H pp = some (.lst (zs.map V.str)) ∧ zs.length = 26 ∧ (∀ z ∈ zs, nameB z = true) ∧ zs.Nodup ∧ zs[0]? = some z0 ∧ DiAt K CM C H d dx n p u (newMo z0) [] [] ∧
  ∀ H' s st m ps us u' r i B, Same (del (mu d dx p u) H) (del (mu d dx p u') H') → DiAt K CM C H' d dx r p u' m ps us → ps.length ≤ 44 → us.length ≤ 10 → Rel m st → Wf m → StK K (del (mu d dx p u') H') s st → Beg zs i st B → i ≤ 22 → Q (.ref s) H'
end DT
namespace DT
open PySem PySem.Spec PyProof.Rows L2
/-- what is asked of a field, by its number -/
def askV (K : PySem.W.Frag) (m : Mo) (i : Nat) : Nat → Hp → V → Prop
  | 0, H, v => Pp K H v (itemP m.hold i)
  | 1, H, v => Pp K H v (itemP m.free i)
  | 2, H, v => Pp K H v (itemP m.port i)
  | 3, H, v => Pp K H v (itemP m.arr i)
  | 4, H, v => Pp K H v (addP (itemP m.arr i) (m.cnt.getD i 0, 1))
  | _, _, v => v = .int (m.cnt.getD i 0)
def sp_asked (K : PySem.W.Frag) (CM C CN : Addr) : Sp := fun vs H Q E => ∃ (d dx n p u : Addr) (m : Mo) (ps us : List V) (z : Str) (wy N : Nat), vs = [.ref d, .str z, .int (wy : Int)] ∧ wy ≤ 5 ∧ DiAt K CM C H d dx n p u m ps us ∧ Wf m ∧ z.length ≤ 1000 ∧ AllOk N m.arr ∧ (∀ x ∈ m.cnt, Bd N x) ∧ (1 ≤ N ∧ N ≤ 4000) ∧
  (z ∈ m.order → ∀ H' v, Same H H' → askV K m (idxS m.order z) wy H' v → Q v H') ∧ (z ∉ m.order → ∀ H', Same H H' → E (.ref CN) none H')
def sp_refused (K : PySem.W.Frag) (CM C : Addr) : Sp := fun vs H Q _ => ∃ (d dx n p u : Addr) (m : Mo) (ps us : List V) (z : Str) (wy N : Nat), vs = [.ref d, .str z, .int (wy : Int)] ∧ wy ≤ 5 ∧ DiAt K CM C H d dx n p u m ps us ∧ Wf m ∧ z.length ≤ 1000 ∧ AllOk N m.arr ∧ (∀ x ∈ m.cnt, Bd N x) ∧ (1 ≤ N ∧ N ≤ 4000) ∧ z ∉ m.order ∧
  ∀ H', Same H H' → Q (.bl true) H'
end DT

namespace DT
open PySem PySem.Spec PyProof.Rows L2
theorem ok01' : Ok 1 ((0, 1) : Q2) := ⟨by decide, by unfold Bd; decide, by unfold Bd; decide⟩
theorem item_rep (k j : Nat) : itemP (List.replicate k ((0, 1) : Q2)) j = (0, 1) := by
  unfold itemP
  rw [List.getD, List.getElem?_replicate]
  split <;> rfl
theorem cnt_rep (k j : Nat) : (List.replicate k (0 : Int)).getD j 0 = 0 := by
  rw [List.getD, List.getElem?_replicate]
  split <;> rfl
theorem told_rel {m : Mo} {st : LSt} {zs : List Str} {i : Nat} {B : Int} (r : Rel m st) (b : Beg zs i st B) (w : Wl st) : toldD m = meantD st := by
  have nl : st.names.length = i + 1 := by rw [← w.o, b.ol]
  have lg : ∀ j, llag st j = (0, 1) := fun j => by
    unfold llag
    rw [b.gn, b.ct, item_rep, cnt_rep]
    exact s00
  have e0 : rows0 m = mrows0 st := by
    unfold rows0 mrows0
    rw [r.o, r.a, r.d, r.l, r.w, r.y, b.gn, nl]
    congr 2
    congr 1
    apply List.ext_getElem?
    intro j
    rw [List.getElem?_map, List.getElem?_map, List.getElem?_replicate]
    by_cases hj : j < i + 1
    · rw [if_pos hj, List.getElem?_range hj]
      show some (datP (0, 1)) = some (datP (llag st j))
      rw [lg]
    · rw [if_neg hj, List.getElem?_eq_none (by rw [List.length_range]; omega)]
      rfl
  unfold toldD meantD rowsTo mrowsTo
  rw [e0, r.o]
  congr 2
  congr 1
  refine List.map_congr_left fun j hj => ?_
  have hj := List.mem_range.1 hj
  have lo := (b.fi _ (List.mem_of_getElem? (item_some (show j < st.own.length by rw [w.o]; exact hj)))).low
  have f0 : lfree0 st j = itemP st.own j := by unfold lfree0; exact sub0 lo
  have s0 : lshare0 st j = itemP st.own j := by unfold lshare0; rw [f0]; exact add0 lo
  unfold fieldRows mfield
  rw [r.h, r.f, r.q, r.a, r.c, f0, s0, lg, b.gn, b.ct, item_rep, cnt_rep, a00]
theorem plain_p (n : Nat) (x : Q2) : Plain (n + 1) (datP x) := ⟨by show 2 ≤ 900; decide, fun d hd => by
  rcases List.mem_cons.1 hd with rfl | hd
  · cases n <;> trivial
  · rw [List.mem_singleton.1 hd]; cases n <;> trivial⟩
theorem plain_told {m : Mo} (w : Wf m) (hd : m.debts = []) : Plain 3 (toldD m) := by
  have few := w.few
  refine ⟨by rw [rowsTo_len]; omega, fun d h => ?_⟩
  unfold rowsTo at h
  rcases List.mem_append.1 h with h | h
  · unfold rows0 at h
    rw [hd] at h
    simp only [List.mem_cons, List.not_mem_nil, or_false] at h
    rcases h with rfl | rfl | rfl | rfl | rfl
    · exact ⟨by rw [List.length_map]; omega, fun d hd => by
        obtain ⟨z, _, rfl⟩ := List.mem_map.1 hd
        trivial⟩
    · exact ⟨by rw [List.length_map, w.a]; omega, fun d hd => by
        obtain ⟨z, _, rfl⟩ := List.mem_map.1 hd
        exact plain_p 0 z⟩
    · exact ⟨by show 0 ≤ 900; decide, fun d hd => nomatch hd⟩
    · trivial
    · trivial
  · rw [List.mem_flatten] at h
    obtain ⟨l, hl, hd⟩ := h
    obtain ⟨j, _, rfl⟩ := List.mem_map.1 hl
    unfold fieldRows at hd
    simp only [List.mem_cons, List.not_mem_nil, or_false] at hd
    rcases hd with rfl | rfl
    · refine ⟨by show 3 ≤ 900; decide, fun d hd => ?_⟩
      simp only [List.mem_cons, List.not_mem_nil, or_false] at hd
      rcases hd with rfl | rfl | rfl <;> exact plain_p 0 _
    · refine ⟨by show 3 ≤ 900; decide, fun d hd => ?_⟩
      simp only [List.mem_cons, List.not_mem_nil, or_false] at hd
      rcases hd with rfl | rfl | rfl
      · exact plain_p 0 _
      · exact plain_p 0 _
      · trivial
/-- what is asked of a field just settled -/
def NewV (K : PySem.W.Frag) (H : Hp) (v : V) (j : Nat) : Prop := if j < 5 then Pp K H v (0, 1) else v = .int 0
def newDat (j : Nat) : PyData := if j < 5 then datP (0, 1) else .int 0
theorem NewV.tk {K : PySem.W.Frag} {H H' : Hp} {v : V} {j : Nat} (h : NewV K H v j) (k : TK H H') : NewV K H' v j := by
  unfold NewV at h ⊢
  split at h
  · rename_i hj; rw [if_pos hj]; exact h.tk k
  · rename_i hj; rw [if_neg hj]; exact h
theorem NewV.dp {K : PySem.W.Frag} {H : Hp} {v : V} {j : Nat} (h : NewV K H v j) : Dp K H v (newDat j) := by
  unfold NewV at h
  unfold newDat
  split at h
  · rename_i hj; rw [if_pos hj]; exact Pr.dp h
  · rename_i hj; rw [if_neg hj, h]; exact .int 0
theorem al_dp2 {α : Type} {K : PySem.W.Frag} {H : Hp} {R : V → α → Prop} {f : α → PyData} (hf : ∀ v x, R v x → Dp K H v (f x)) : ∀ {us : List V} {xs : List α}, Al R us xs → DpAll K H us (xs.map f)
  | [], [], _ => .nil
  | u :: us, x :: xs, h => .cons (hf u x (h.2 0 u x rfl rfl)) (al_dp2 hf (us := us) (xs := xs) ⟨by have := h.1; simpa using this, fun i v y e1 e2 => h.2 (i + 1) v y e1 e2⟩)
  | [], _ :: _, h => by cases h.1
  | _ :: _, [], h => by cases h.1
theorem idx_new {l : List Str} {z : Str} (h : z ∉ l) : idxS (l ++ [z]) z = l.length := by
  unfold idxS
  rw [List.findIdx_append]
  have : l.findIdx (fun y => decide (y = z)) = l.length := List.findIdx_eq_length.2 fun y hy => decide_eq_false fun e => h (by rw [← e]; exact hy)
  rw [this, if_neg (Nat.lt_irrefl _)]
  simp [List.findIdx_cons]
theorem item_new {xs : List Q2} {x : Q2} {n : Nat} (h : xs.length = n) : itemP (xs ++ [x]) n = x := by
  unfold itemP
  rw [List.getD, List.getElem?_append_right (by omega), h, Nat.sub_self]
  rfl
theorem cnt_new {xs : List Int} {x : Int} {n : Nat} (h : xs.length = n) : (xs ++ [x]).getD n 0 = x := by
  rw [List.getD, List.getElem?_append_right (by omega), h, Nat.sub_self]
  rfl
theorem ask_new {K : PySem.W.Frag} {m : Mo} {z : Str} (w : Wf m) (h : z ∉ m.order) {wy : Nat} (hw : wy ≤ 5) {H : Hp} {v : V} (a : askV K (joinM m z (0, 1)) (idxS (joinM m z (0, 1)).order z) wy H v) : NewV K H v wy := by
  have ei : idxS (joinM m z (0, 1)).order z = m.order.length := idx_new h
  rw [ei] at a
  unfold NewV
  match wy, hw, a with
  | 0, _, a => rw [if_pos (by decide)]; rw [show (0, 1) = itemP (m.hold ++ [(0, 1)]) m.order.length from (item_new w.h).symm]; exact a
  | 1, _, a => rw [if_pos (by decide)]; rw [show (0, 1) = itemP (m.free ++ [(0, 1)]) m.order.length from (item_new w.f).symm]; exact a
  | 2, _, a => rw [if_pos (by decide)]; rw [show (0, 1) = itemP (m.port ++ [(0, 1)]) m.order.length from (item_new w.q).symm]; exact a
  | 3, _, a => rw [if_pos (by decide)]; rw [show (0, 1) = itemP (m.arr ++ [(0, 1)]) m.order.length from (item_new w.a).symm]; exact a
  | 4, _, a =>
    rw [if_pos (by decide)]
    have a : Pp K H v (addP (itemP (m.arr ++ [(0, 1)]) m.order.length) ((m.cnt ++ [0]).getD m.order.length 0, 1)) := a
    rw [item_new w.a, cnt_new w.c, a00] at a
    exact a
  | 5, _, a =>
    rw [if_neg (by decide)]
    have a : v = .int ((m.cnt ++ [0]).getD m.order.length 0) := a
    rw [cnt_new w.c] at a
    exact a
theorem wf_join {m : Mo} {z : Str} (w : Wf m) (h : z ∉ m.order) (hl : m.order.length + 1 ≤ 24) (hz : z.length ≤ 1000) : Wf (joinM m z (0, 1)) := by
  have e : ∀ {α : Type} (xs : List α) (x : α), (xs ++ [x]).length = xs.length + 1 := fun xs x => by rw [List.length_append]; rfl
  refine ⟨?_, ?_, ?_, ?_, ?_, ?_, ?_, ?_⟩
  · show (m.hold ++ [_]).length = (m.order ++ [_]).length; rw [e, e, w.h]
  · show (m.free ++ [_]).length = (m.order ++ [_]).length; rw [e, e, w.f]
  · show (m.port ++ [_]).length = (m.order ++ [_]).length; rw [e, e, w.q]
  · show (m.arr ++ [_]).length = (m.order ++ [_]).length; rw [e, e, w.a]
  · show (m.cnt ++ [_]).length = (m.order ++ [_]).length; rw [e, e, w.c]
  · show (m.order ++ [_]).length ≤ 24; rw [e]; exact hl
  · show (m.order ++ [z]).Nodup
    rw [List.nodup_append]
    exact ⟨w.nd, by simp, fun a ha b hb => by rw [List.mem_singleton.1 hb]; exact fun q => h (by rw [← q]; exact ha)⟩
  · intro y hy
    rcases List.mem_append.1 (show y ∈ m.order ++ [z] from hy) with hy | hy
    · exact w.nl y hy
    · rw [List.mem_singleton.1 hy]; exact hz
end DT
namespace DT
open PySem PySem.Spec PyProof.Rows L2 TL
theorem odd5 {z0 : Str} (h0 : nameB z0 = true) (x : Int) : ∃ z', atI [V.str ("" : Str), .str ("A" : Str), .str ("abcdefghi" : Str), .str ("a b" : Str), .str (z0 ++ ("zzzzzzzz" : Str))] (x % 5) = some (.str z') ∧ nameB z' = false ∧ z'.length ≤ 1000 := by
  have h1 := Int.emod_nonneg x (show (5 : Int) ≠ 0 by decide)
  have h2 := Int.emod_lt_of_pos x (show (0 : Int) < 5 by decide)
  have h : x % 5 = 0 ∨ x % 5 = 1 ∨ x % 5 = 2 ∨ x % 5 = 3 ∨ x % 5 = 4 := by omega
  rcases h with h | h | h | h | h <;> rw [h]
  · exact ⟨_, rfl, by decide +kernel, by decide +kernel⟩
  · exact ⟨_, rfl, by decide +kernel, by decide +kernel⟩
  · exact ⟨_, rfl, by decide +kernel, by decide +kernel⟩
  · exact ⟨_, rfl, by decide +kernel, by decide +kernel⟩
  · have l8 : (tl ("zzzzzzzz" : Str)).length = 8 := by decide +kernel
    obtain ⟨g1, g2⟩ := name_len h0
    refine ⟨_, rfl, ?_, ?_⟩
    · unfold nameB
      rw [tl_append, List.length_append, l8, decide_eq_false (show ¬ (tl z0).length + 8 ≤ 8 by omega)]
      simp
    · rw [len_tl, tl_append, List.length_append, l8]
      omega
end DT
namespace DT
open PySem PySem.Spec PyProof.Rows L2
def D6 : PyData := .list [datP (0, 1), datP (0, 1), datP (0, 1), datP (0, 1), datP (0, 1), .int 0]
theorem range6 : (List.range 6).map newDat = [datP (0, 1), datP (0, 1), datP (0, 1), datP (0, 1), datP (0, 1), .int 0] := rfl
theorem shp6 : SeqAt.shaped D6 = true := by decide
theorem eqv6 : PyData.eqv D6 D6 = true := by decide
end DT

namespace DT
open PySem PySem.Spec PyProof.Rows L2
/-! ### loans -/
def lentM (m : Mo) (a b : Str) (x : Q2) (h : Int) : Mo := { trustM m (idxS m.order a) (idxS m.order b) x with debts := m.debts ++ [(a, b, x, h)] }
def sp_lent (K : PySem.W.Frag) (CM CN CS CP CH CT : Addr) : Sp := fun vs H Q E => ∃ (p : Addr) (m : Mo) (a b : Str) (v : V) (x : Q2) (h : Int) (N : Nat), vs = [.ref p, .str a, .str b, v, .int h] ∧ MoAt K CM H p m ∧ Wf m ∧ a.length ≤ 1000 ∧ b.length ≤ 1000 ∧ Pp K H v x ∧ Ok N x ∧ Low x.1 x.2 ∧ AllOk N m.free ∧ AllOk N m.port ∧ m.debts.length ≤ 900 ∧ (1 ≤ N ∧ N ≤ 2900) ∧
  (a ∈ m.order → b ∈ m.order → a ≠ b → 0 < x.1 → 1 ≤ h → h ≤ 999 → lessP (itemP m.free (idxS m.order a)) x = false → ∀ H' r, Same H H' → H r = none → MoAt K CM H' r (lentM m a b x h) → Q (.ref r) H') ∧
  (¬ (a ∈ m.order ∧ b ∈ m.order) → ∀ H', Same H H' → E (.ref CN) none H') ∧ (a ∈ m.order → b ∈ m.order → a = b → ∀ H', Same H H' → E (.ref CS) none H') ∧
  (a ∈ m.order → b ∈ m.order → a ≠ b → ¬ 0 < x.1 → ∀ H', Same H H' → E (.ref CP) none H') ∧
  (a ∈ m.order → b ∈ m.order → a ≠ b → 0 < x.1 → ¬ (1 ≤ h ∧ h ≤ 999) → ∀ H', Same H H' → E (.ref CH) none H') ∧
  (a ∈ m.order → b ∈ m.order → a ≠ b → 0 < x.1 → 1 ≤ h → h ≤ 999 → lessP (itemP m.free (idxS m.order a)) x = true → ∀ H', Same H H' → E (.ref CT) none H')
end DT
namespace DT
open PySem PySem.Spec PyProof.Rows L2
/-! ### heirs -/
def HeirV (K : PySem.W.Frag) (H : Hp) (v : V) (h : Str × Int) : Prop := ∃ t, v = .ref t ∧ SqT K H t [.str h.1, .int h.2]
theorem HeirV.same {K : PySem.W.Frag} {H H' : Hp} {v : V} {h : Str × Int} (k : HeirV K H v h) (e : Same H H') : HeirV K H' v h := by
  obtain ⟨t, rfl, k⟩ := k
  exact ⟨t, rfl, same_seqT e k⟩
/-- the first refusal among the heirs: 0 no name, 1 taken, 2 no weight -/
def heirBad (used : List Str) : List (Str × Int) → Option Nat
  | [] => none
  | (z, w) :: r => if nameB z = false then some 0 else if z ∈ used then some 1 else if ¬ (1 ≤ w ∧ w ≤ 999999) then some 2 else heirBad (used ++ [z]) r
theorem heirBad_cons (used : List Str) (z : Str) (w : Int) (r : List (Str × Int)) : heirBad used ((z, w) :: r) = if nameB z = false then some 0 else if z ∈ used then some 1 else if ¬ (1 ≤ w ∧ w ≤ 999999) then some 2 else heirBad (used ++ [z]) r := rfl
def sp_heirs (K : PySem.W.Frag) (CM CE CB CT CW CF : Addr) : Sp := fun vs H Q E => ∃ (p th : Addr) (m : Mo) (hv : List V) (hs : List (Str × Int)), vs = [.ref p, .ref th] ∧ MoAt K CM H p m ∧ m.order.length ≤ 24 ∧ SqT K H th hv ∧ Al (HeirV K H) hv hs ∧ hs.length ≤ 500 ∧ (∀ h ∈ hs, h.1.length ≤ 1000) ∧
  (hs = [] → ∀ H', Same H H' → E (.ref CE) none H') ∧
  (∀ c, hs ≠ [] → heirBad m.order hs = some c → ∀ H', Same H H' → E (.ref (if c = 0 then CB else if c = 1 then CT else CW)) none H') ∧
  (hs ≠ [] → heirBad m.order hs = none → 24 < m.order.length + hs.length → ∀ H', Same H H' → E (.ref CF) none H') ∧
  (hs ≠ [] → heirBad m.order hs = none → m.order.length + hs.length ≤ 24 → ∀ H', Same H H' → Q .non H')
end DT
namespace DT
open PySem PySem.Spec PyProof.Rows L2
def wsum (hs : List (Str × Int)) : Int := (hs.map (·.2)).sum
def leftG (e : Q2) (W : Int) (m0 : Mo) (hs : List (Str × Int)) : Mo := hs.foldl (fun o h => joinM o h.1 (mulP e (lowP h.2 W))) m0
def leftM (m : Mo) (z : Str) (hs : List (Str × Int)) : Mo := leftG (itemP m.free (idxS m.order z)) (wsum hs) (endowM m (idxS m.order z) (negP (itemP m.free (idxS m.order z)))) hs
theorem leftG_snoc (e : Q2) (W : Int) (m0 : Mo) (hs : List (Str × Int)) (h : Str × Int) : leftG e W m0 (hs ++ [h]) = joinM (leftG e W m0 hs) h.1 (mulP e (lowP h.2 W)) := by
  unfold leftG
  rw [List.foldl_append]
  rfl
theorem leftG_len {e : Q2} {W : Int} : ∀ {hs : List (Str × Int)} {m0 : Mo}, (leftG e W m0 hs).order.length = m0.order.length + hs.length ∧ (leftG e W m0 hs).hold.length = m0.hold.length + hs.length ∧ (leftG e W m0 hs).free.length = m0.free.length + hs.length ∧ (leftG e W m0 hs).port.length = m0.port.length + hs.length ∧ (leftG e W m0 hs).arr.length = m0.arr.length + hs.length ∧ (leftG e W m0 hs).cnt.length = m0.cnt.length + hs.length
  | [], m0 => ⟨rfl, rfl, rfl, rfl, rfl, rfl⟩
  | h :: hs, m0 => by
    have k := leftG_len (e := e) (W := W) (hs := hs) (m0 := joinM m0 h.1 (mulP e (lowP h.2 W)))
    have l : ∀ {α : Type} (xs : List α) (x : α), (xs ++ [x]).length = xs.length + 1 := fun xs x => by rw [List.length_append]; rfl
    have e1 : (joinM m0 h.1 (mulP e (lowP h.2 W))).order.length = m0.order.length + 1 := l _ _
    have e2 : (joinM m0 h.1 (mulP e (lowP h.2 W))).hold.length = m0.hold.length + 1 := l _ _
    have e3 : (joinM m0 h.1 (mulP e (lowP h.2 W))).free.length = m0.free.length + 1 := l _ _
    have e4 : (joinM m0 h.1 (mulP e (lowP h.2 W))).port.length = m0.port.length + 1 := l _ _
    have e5 : (joinM m0 h.1 (mulP e (lowP h.2 W))).arr.length = m0.arr.length + 1 := l _ _
    have e6 : (joinM m0 h.1 (mulP e (lowP h.2 W))).cnt.length = m0.cnt.length + 1 := l _ _
    show (leftG e W (joinM m0 h.1 _) hs).order.length = _ ∧ (leftG e W (joinM m0 h.1 _) hs).hold.length = _ ∧ (leftG e W (joinM m0 h.1 _) hs).free.length = _ ∧ (leftG e W (joinM m0 h.1 _) hs).port.length = _ ∧ (leftG e W (joinM m0 h.1 _) hs).arr.length = _ ∧ (leftG e W (joinM m0 h.1 _) hs).cnt.length = _
    rw [List.length_cons]
    omega
theorem heir_ok : ∀ {hs : List (Str × Int)} {used : List Str}, heirBad used hs = none → ∀ h ∈ hs, nameB h.1 = true ∧ 1 ≤ h.2 ∧ h.2 ≤ 999999
  | [], _, _ => fun h hh => nomatch hh
  | (z, w) :: r, used, e => by
    rw [heirBad_cons] at e
    by_cases h1 : nameB z = false
    · rw [if_pos h1] at e; cases e
    rw [if_neg h1] at e
    by_cases h2 : z ∈ used
    · rw [if_pos h2] at e; cases e
    rw [if_neg h2] at e
    by_cases h3 : 1 ≤ w ∧ w ≤ 999999
    · rw [if_neg (fun z => z h3)] at e
      intro h hh
      rcases List.mem_cons.1 hh with rfl | hh
      · exact ⟨by cases q : nameB z with | true => rfl | false => exact absurd q h1, h3.1, h3.2⟩
      · exact heir_ok e h hh
    · rw [if_pos h3] at e; cases e
theorem wsum_bd : ∀ {hs : List (Str × Int)}, (∀ h ∈ hs, 1 ≤ h.2 ∧ h.2 ≤ 999999) → (hs.length : Int) ≤ wsum hs ∧ wsum hs ≤ 999999 * hs.length
  | [], _ => ⟨Int.le_refl _, Int.le_refl _⟩
  | h :: hs, k => by
    have a := k h (by simp)
    have b := wsum_bd (hs := hs) fun x hx => k x (by simp [hx])
    have e : wsum (h :: hs) = h.2 + wsum hs := rfl
    rw [e, List.length_cons]
    omega
def sp_left (K : PySem.W.Frag) (CM CN CE CB CT CW CF : Addr) : Sp := fun vs H Q E => ∃ (p th : Addr) (m : Mo) (z : Str) (hv : List V) (hs : List (Str × Int)) (N : Nat), vs = [.ref p, .str z, .ref th] ∧ MoAt K CM H p m ∧ Wf m ∧ z.length ≤ 1000 ∧ SqT K H th hv ∧ Al (HeirV K H) hv hs ∧ hs.length ≤ 500 ∧ (∀ h ∈ hs, h.1.length ≤ 1000) ∧ AllOk N m.hold ∧ AllOk N m.free ∧ AllOk N m.port ∧ (1 ≤ N ∧ N ≤ 2900) ∧
  (z ∉ m.order → ∀ H', Same H H' → E (.ref CN) none H') ∧
  (z ∈ m.order → hs = [] → ∀ H', Same H H' → E (.ref CE) none H') ∧
  (∀ c, z ∈ m.order → hs ≠ [] → heirBad m.order hs = some c → ∀ H', Same H H' → E (.ref (if c = 0 then CB else if c = 1 then CT else CW)) none H') ∧
  (z ∈ m.order → hs ≠ [] → heirBad m.order hs = none → 24 < m.order.length + hs.length → ∀ H', Same H H' → E (.ref CF) none H') ∧
  (z ∈ m.order → hs ≠ [] → heirBad m.order hs = none → m.order.length + hs.length ≤ 24 → ∀ H' r, Same H H' → H r = none → MoAt K CM H' r (leftM m z hs) → Q (.ref r) H')
end DT
namespace DT
open PySem PySem.Spec PyProof.Rows L2
/-! ### an hour goes by: loans have one hour less, those at their end come back -/
def decD (ds : List Debt) : List Debt := (ds.filter fun d => decide (1 < d.2.2.2)).map fun d => (d.1, d.2.1, d.2.2.1, d.2.2.2 - 1)
def retM (o : List Str) (m0 : Mo) (ds : List Debt) : Mo := ds.foldl (fun x d => if d.2.2.2 = 1 then trustM x (idxS o d.1) (idxS o d.2.1) (negP d.2.2.1) else x) m0
def passM (m : Mo) : Mo := retM m.order { m with debts := decD m.debts } m.debts
theorem retM_snoc (o : List Str) (m0 : Mo) (ds : List Debt) (d : Debt) : retM o m0 (ds ++ [d]) = if d.2.2.2 = 1 then trustM (retM o m0 ds) (idxS o d.1) (idxS o d.2.1) (negP d.2.2.1) else retM o m0 ds := by
  unfold retM
  rw [List.foldl_append]
  rfl
theorem retM_keeps (o : List Str) : ∀ (ds : List Debt) (m0 : Mo), (retM o m0 ds).order = m0.order ∧ (retM o m0 ds).hold = m0.hold ∧ (retM o m0 ds).arr = m0.arr ∧ (retM o m0 ds).cnt = m0.cnt ∧ (retM o m0 ds).debts = m0.debts ∧ (retM o m0 ds).wet = m0.wet ∧ (retM o m0 ds).dry = m0.dry ∧ (retM o m0 ds).free.length = m0.free.length ∧ (retM o m0 ds).port.length = m0.port.length
  | [], m0 => ⟨rfl, rfl, rfl, rfl, rfl, rfl, rfl, rfl, rfl⟩
  | d :: ds, m0 => by
    by_cases h : d.2.2.2 = 1
    · have k := retM_keeps o ds (trustM m0 (idxS o d.1) (idxS o d.2.1) (negP d.2.2.1))
      have e : retM o m0 (d :: ds) = retM o (trustM m0 (idxS o d.1) (idxS o d.2.1) (negP d.2.2.1)) ds := by show retM o (if _ then _ else _) ds = _; rw [if_pos h]
      rw [e]
      obtain ⟨k1, k2, k3, k4, k5, k6, k7, k8, k9⟩ := k
      exact ⟨k1, k2, k3, k4, k5, k6, k7, by rw [k8]; exact addAt_len _ _ _, by rw [k9]; show (addAt (addAt _ _ _) _ _).length = _; rw [addAt_len, addAt_len]⟩
    · have e : retM o m0 (d :: ds) = retM o m0 ds := by show retM o (if _ then _ else _) ds = _; rw [if_neg h]
      rw [e]
      exact retM_keeps o ds m0
theorem decD_snoc (ds : List Debt) (d : Debt) : decD (ds ++ [d]) = if 1 < d.2.2.2 then decD ds ++ [(d.1, d.2.1, d.2.2.1, d.2.2.2 - 1)] else decD ds := by
  unfold decD
  rw [List.filter_append, List.map_append]
  by_cases h : 1 < d.2.2.2
  · rw [if_pos h]; simp [h]
  · rw [if_neg h]; simp [h]
theorem decD_len (ds : List Debt) : (decD ds).length ≤ ds.length := by
  unfold decD
  rw [List.length_map]
  exact List.length_filter_le _ _
/-- that the parts stay small while loans come back -/
def PassOk (N : Nat) (m : Mo) : Prop := m.debts.length ≤ 900 ∧ N ≤ 2900 ∧ (∀ d ∈ m.debts, d.1 ∈ m.order ∧ d.2.1 ∈ m.order ∧ Ok N d.2.2.1 ∧ Low d.2.2.1.1 d.2.2.1.2) ∧
  ∀ i, i ≤ m.debts.length → AllOk N (retM m.order { m with debts := decD m.debts } (m.debts.take i)).free ∧ AllOk N (retM m.order { m with debts := decD m.debts } (m.debts.take i)).port
def sp_pass (K : PySem.W.Frag) (C : Addr) : Sp := fun vs H Q _ => ∃ (p : Addr) (m : Mo) (N : Nat), vs = [.ref p] ∧ MoAt K C H p m ∧ Wf m ∧ PassOk N m ∧
  ∀ H' r dr o h f q a c d, Same H H' → H r = none → H' r = some (.ins C dr (mf o h f q a c d m.wet m.dry)) → Lsts K H' (passM m) o h f q a c d → Q (.ref r) H'
end DT
namespace DT
open PySem PySem.Spec PyProof.Rows L2
def wateredM (m : Mo) : Mo := { passM m with arr := (hourM m.arr m.port).2, cnt := m.cnt.set (hourM m.arr m.port).1 (m.cnt.getD (hourM m.arr m.port).1 0 + 1), wet := m.wet + 1 }
def driedM (m : Mo) : Mo := { passM m with dry := m.dry + 1 }
def sp_water (K : PySem.W.Frag) (C : Addr) : Sp := fun vs H Q _ => ∃ (p : Addr) (m : Mo) (N : Nat), vs = [.ref p] ∧ MoAt K C H p m ∧ Wf m ∧ PassOk N m ∧ 0 < m.order.length ∧ AllOk N m.arr ∧ AllOk N m.port ∧ N + N ≤ 3700 ∧
  ∀ H' t r z, Same H H' → H r = none → m.order[(hourM m.arr m.port).1]? = some z → H' t = some (.tup [.str z, .ref r]) → MoAt K C H' r (wateredM m) → Q (.ref t) H'
def sp_dried (K : PySem.W.Frag) (C : Addr) : Sp := fun vs H Q _ => ∃ (p : Addr) (m : Mo) (N : Nat), vs = [.ref p] ∧ MoAt K C H p m ∧ Wf m ∧ PassOk N m ∧
  ∀ H' r, Same H H' → H r = none → MoAt K C H' r (driedM m) → Q (.ref r) H'
end DT

namespace DT
open PySem PySem.Spec PyProof.Rows L2
/-! ### all six deeds, and when one is refused -/
inductive Rf
  | badName | taken | full | noField | same | noPart | noHours | tooMuch | noHeirs | noWeight
  deriving DecidableEq
inductive De
  | settle (z : Str)
  | sell (a b : Str) (x : Q2)
  | lend (a b : Str) (x : Q2) (h : Int)
  | leave (z : Str) (hs : List (Str × Int))
  | hour (z : Str)
  | lose
def DeV (K : PySem.W.Frag) (H : Hp) (v : V) : De → Prop
  | .settle z => ∃ t, v = .ref t ∧ SqT K H t [.str ("settle" : Str), .str z]
  | .sell a b x => ∃ t vp, v = .ref t ∧ SqT K H t [.str ("sell" : Str), .str a, .str b, vp] ∧ Pp K H vp x
  | .lend a b x h => ∃ t vp, v = .ref t ∧ SqT K H t [.str ("lend" : Str), .str a, .str b, vp, .int h] ∧ Pp K H vp x
  | .leave z hs => ∃ t th hv, v = .ref t ∧ SqT K H t [.str ("leave" : Str), .str z, .ref th] ∧ SqT K H th hv ∧ Al (HeirV K H) hv hs
  | .hour z => ∃ t, v = .ref t ∧ SqT K H t [.str ("hour" : Str), .str z]
  | .lose => ∃ t, v = .ref t ∧ SqT K H t [.str ("lose" : Str)]
theorem DeV.by {K : PySem.W.Frag} {H H' : Hp} {v : V} {dd : De} (h : DeV K H v dd) (sq : ∀ {t : Addr} {xs : List V}, SqT K H t xs → SqT K H' t xs) : DeV K H' v dd := by
  have pp : ∀ {v : V} {x : Q2}, Pp K H v x → Pp K H' v x := fun {v x} p => by
    obtain ⟨a, rfl, p⟩ := p
    exact ⟨a, rfl, sq p⟩
  cases dd with
  | settle z =>
    obtain ⟨t, rfl, h⟩ := h
    exact ⟨t, rfl, sq h⟩
  | sell a b x =>
    obtain ⟨t, vp, rfl, h, p⟩ := h
    exact ⟨t, vp, rfl, sq h, pp p⟩
  | lend a b x l =>
    obtain ⟨t, vp, rfl, h, p⟩ := h
    exact ⟨t, vp, rfl, sq h, pp p⟩
  | leave z hs =>
    obtain ⟨t, th, hv, rfl, h, p, a⟩ := h
    exact ⟨t, th, hv, rfl, sq h, sq p, a.imp fun v h _ k => by
      obtain ⟨t, rfl, k⟩ := k
      exact ⟨t, rfl, sq k⟩⟩
  | hour z =>
    obtain ⟨t, rfl, h⟩ := h
    exact ⟨t, rfl, sq h⟩
  | lose =>
    obtain ⟨t, rfl, h⟩ := h
    exact ⟨t, rfl, sq h⟩
theorem DeV.same {K : PySem.W.Frag} {H H' : Hp} {v : V} {dd : De} (h : DeV K H v dd) (e : Same H H') : DeV K H' v dd := h.by fun k => same_seqT e k
theorem DeV.del {K : PySem.W.Frag} {H : Hp} {M : List Addr} {v : V} {dd : De} (h : DeV K H v dd) (a : Aside H M) : DeV K (del M H) v dd := h.by fun k => sqT_del a k
theorem DeV.tk {K : PySem.W.Frag} {H H' : Hp} {v : V} {dd : De} (h : DeV K H v dd) (k : TK H H') : DeV K H' v dd := h.by fun q => by
  rcases q with (q | ⟨o, q⟩) | q
  · exact .inl (.inl (k _ _ q (.inl ⟨_, rfl⟩)))
  · exact .inl (.inr ⟨o, k _ _ q (.inr ⟨_, _, rfl⟩)⟩)
  · exact .inr q
def judgeG (ns : List Str) (fr : Str → Q2) : De → Option Rf
  | .settle z => if nameB z = false then some .badName else if z ∈ ns then some .taken else if 24 < ns.length + 1 then some .full else none
  | .sell a b x => if ¬ (a ∈ ns ∧ b ∈ ns) then some .noField else if a = b then some .same else if ¬ 0 < x.1 then some .noPart else if lessP (fr a) x = true then some .tooMuch else none
  | .lend a b x h => if ¬ (a ∈ ns ∧ b ∈ ns) then some .noField else if a = b then some .same else if ¬ 0 < x.1 then some .noPart else if ¬ (1 ≤ h ∧ h ≤ 999) then some .noHours else if lessP (fr a) x = true then some .tooMuch else none
  | .leave z hs => if z ∉ ns then some .noField else if hs = [] then some .noHeirs else match heirBad ns hs with
    | some c => some (if c = 0 then .badName else if c = 1 then .taken else .noWeight)
    | none => if 24 < ns.length + hs.length then some .full else none
  | .hour _ => none
  | .lose => none
def judge (m : Mo) (dd : De) : Option Rf := judgeG m.order (fun a => itemP m.free (idxS m.order a)) dd
def doneE (m : Mo) : De → Mo
  | .settle z => joinM m z (0, 1)
  | .sell a b x => soldM m a b x
  | .lend a b x h => lentM m a b x h
  | .leave z hs => leftM m z hs
  | .hour _ => wateredM m
  | .lose => driedM m
def dueM (m : Mo) : Str := m.order.getD (hourM m.arr m.port).1 ""
def ranE (m : Mo) : De → De
  | .hour _ => .hour (dueM m)
  | dd => dd
def retE (m : Mo) : De → V
  | .hour _ => .str (dueM m)
  | _ => .non
/-- that the parts are small enough for a deed -/
def MOk (N : Nat) (m : Mo) : De → Prop
  | .settle z => z.length ≤ 1000
  | .sell a b x => a.length ≤ 1000 ∧ b.length ≤ 1000 ∧ Ok N x ∧ Low x.1 x.2 ∧ AllOk N m.hold ∧ AllOk N m.free ∧ AllOk N m.port ∧ (1 ≤ N ∧ N ≤ 2900)
  | .lend a b x _ => a.length ≤ 1000 ∧ b.length ≤ 1000 ∧ Ok N x ∧ Low x.1 x.2 ∧ AllOk N m.free ∧ AllOk N m.port ∧ m.debts.length ≤ 900 ∧ (1 ≤ N ∧ N ≤ 2900)
  | .leave z hs => z.length ≤ 1000 ∧ hs.length ≤ 500 ∧ (∀ h ∈ hs, h.1.length ≤ 1000) ∧ AllOk N m.hold ∧ AllOk N m.free ∧ AllOk N m.port ∧ (1 ≤ N ∧ N ≤ 2900)
  | .hour _ => PassOk N m ∧ 0 < m.order.length ∧ AllOk N m.arr ∧ AllOk N m.port ∧ N + N ≤ 3700
  | .lose => PassOk N m
/-- what a deed makes of a ditch, or the refusal -/
def Res (K : PySem.W.Frag) (CM C : Addr) (ca : Rf → Addr) (H : Hp) (d dx n p u : Addr) (m : Mo) (ps : List V) (dd : De) (Q : VK) (E : XK) : Prop := match judge m dd with
  | none => ∀ H' u' r tt t, Same (del (mu d dx p u) H) (del (mu d dx p u') H') → DiAt K CM C H' d dx r p u' (doneE m dd) (ps ++ [.ref tt]) [] → del (mu d dx p u') H' tt = some (.tup [.ref t, .ref n]) → DeV K (del (mu d dx p u') H') (.ref t) (ranE m dd) → H u' = none → Q (retE m dd) H'
  | some c => ∀ H', Same H H' → E (.ref (ca c)) none H'
def rsE (ca : Rf → Addr) (m : Mo) (dd : De) : Mo ⊕ Addr := match judge m dd with
  | none => .inl (doneE m dd)
  | some c => .inr (ca c)
theorem rs_none {ca : Rf → Addr} {m : Mo} {dd : De} (e : judge m dd = none) : rsE ca m dd = .inl (doneE m dd) := by unfold rsE; rw [e]
theorem rs_some {ca : Rf → Addr} {m : Mo} {dd : De} {c : Rf} (e : judge m dd = some c) : rsE ca m dd = .inr (ca c) := by unfold rsE; rw [e]
/-- what Turns is given -/
def TurnK (K : PySem.W.Frag) (CM : Addr) (H0 : Hp) (Q1 : VK) (E1 : XK) (res : Mo ⊕ Addr) : Prop := match res with | .inl m' => ∀ G r, Same H0 G → H0 r = none → MoAt K CM G r m' → Q1 (.ref r) G | .inr c => ∀ G, Same H0 G → E1 (.ref c) none G
theorem TurnK.no {K : PySem.W.Frag} {CM : Addr} {H0 : Hp} {Q1 : VK} {E1 : XK} {ca : Rf → Addr} {m : Mo} {dd : De} (h : TurnK K CM H0 Q1 E1 (rsE ca m dd)) (e : judge m dd = none) : ∀ G r, Same H0 G → H0 r = none → MoAt K CM G r (doneE m dd) → Q1 (.ref r) G := by
  rw [rs_none e] at h
  exact h
theorem TurnK.yes {K : PySem.W.Frag} {CM : Addr} {H0 : Hp} {Q1 : VK} {E1 : XK} {ca : Rf → Addr} {m : Mo} {dd : De} {c : Rf} (h : TurnK K CM H0 Q1 E1 (rsE ca m dd)) (e : judge m dd = some c) : ∀ G, Same H0 G → E1 (.ref (ca c)) none G := by
  rw [rs_some e] at h
  exact h
theorem res_do {K : PySem.W.Frag} {CM C : Addr} {ca : Rf → Addr} {H H1 : Hp} {d dx n p u t : Addr} {m : Mo} {ps : List V} {dd : De} {Q : VK} {E : XK} (q : Res K CM C ca H d dx n p u m ps dd Q E) (h1 : ranE m dd = dd) (h2 : retE m dd = .non) (st : Same H H1) (dv : DeV K (del (mu d dx p u) H1) (.ref t) dd) :
    match rsE ca m dd with | .inl m' => ∀ H', Done K CM C H1 d dx n p u t ps m' H' → Q .non H' | .inr c => ∀ H', Same H1 H' → E (.ref c) none H' := by
  unfold Res at q
  cases e : judge m dd with
  | none =>
    rw [rs_none e]
    rw [e] at q
    intro H' dn
    obtain ⟨tt, u', r, s, et, di, nu⟩ := dn
    rw [← h2]
    exact q H' u' r tt t ((del_mono st).trans s) di et (by rw [h1]; exact dv.same s) (st.free nu)
  | some c =>
    rw [rs_some e]
    rw [e] at q
    intro H' s
    exact q H' (st.trans s)
/-- the arguments of a deed's own method -/
def DeA (K : PySem.W.Frag) (H : Hp) (vs : List V) : De → Prop
  | .settle z => vs = [.str z]
  | .sell a b x => ∃ vp, vs = [.str a, .str b, vp] ∧ Pp K H vp x
  | .lend a b x h => ∃ vp, vs = [.str a, .str b, vp, .int h] ∧ Pp K H vp x
  | .leave z hs => ∃ pl hv, vs = [.str z, .ref pl] ∧ H pl = some (.lst hv) ∧ Al (HeirV K H) hv hs
  | .hour _ => vs = []
  | .lose => vs = []
def sp_meth (K : PySem.W.Frag) (CM C : Addr) (ca : Rf → Addr) (k : De → Prop) : Sp := fun vs H Q E => ∃ (d dx n p u : Addr) (m : Mo) (ps us : List V) (dd : De) (N : Nat) (as : List V), vs = .ref d :: as ∧ k dd ∧ DiAt K CM C H d dx n p u m ps us ∧ ps.length ≤ 900 ∧ Wf m ∧ DeA K H as dd ∧ MOk N m dd ∧ Res K CM C ca H d dx n p u m ps dd Q E
def isSettle : De → Prop | .settle _ => True | _ => False
def isSell : De → Prop | .sell _ _ _ => True | _ => False
def isLend : De → Prop | .lend _ _ _ _ => True | _ => False
def isLeave : De → Prop | .leave _ _ => True | _ => False
def isHour : De → Prop | .hour _ => True | _ => False
def isLose : De → Prop | .lose => True | _ => False
def ways20 (K : PySem.W.Frag) (CM : Addr) (ca : Rf → Addr) : Str → Option Sp := fun z => if z = "settle" then some (sp_settled K CM (ca .badName) (ca .taken) (ca .full)) else if z = "sell" then some (sp_sold K CM (ca .noField) (ca .same) (ca .noPart) (ca .tooMuch)) else if z = "lend" then some (sp_lent K CM (ca .noField) (ca .same) (ca .noPart) (ca .noHours) (ca .tooMuch)) else if z = "leave" then some (sp_left K CM (ca .noField) (ca .noHeirs) (ca .badName) (ca .taken) (ca .noWeight) (ca .full)) else if z = "lose" then some (sp_dried K CM) else none
end DT
namespace DT
open PySem PySem.Spec PyProof.Rows L2
theorem toX {P : Program} {w : World} {K : PySem.W.Frag} {mg : Str → Option Value} {base : Heap} {k : Nat} {f : Addr} {fd : FuncData} {ps : List Str} {sp : Sp} (F : FnOk P w K mg base CX0 k f fd ps sp) : FnOk P w K mg base (L2.CX P w) k f fd ps sp := by
  refine ⟨F.len, fun A outer s H args us vs Q E hr e b r h => codeAny_mono (F.run A outer s H args us vs Q E hr e b r h) fun res s' hres => ?_⟩
  cases res with
  | error ex => exact hres.elim
  | ok fl =>
    cases fl with
    | ret u => exact hres
    | _ => exact hres
end DT

namespace DT
open PySem PySem.Spec PyProof.Rows L2
/-! ### the same over exceptions without a context -/
section
variable {P : Program} {w : World} {K : PySem.W.Frag} {mg : Str → Option Value} {base : Heap} {k : Nat} {f : Addr} {fd : FuncData} {ps : List Str} {sp : Sp}
theorem fn_frameXN (F : FnOk P w K mg base (L2N.CX P w) k f fd ps sp) : FnOk P w K mg base (L2N.CX P w) k f fd ps (frm sp) := by
  refine ⟨fun vs H Q E h => ?_, fun A outer s H args us vs Q E hr e b r h => ?_⟩
  · obtain ⟨M, _, h⟩ := h
    exact F.len _ _ _ _ h
  obtain ⟨M, a, h⟩ := h
  have run := F.run A outer s (del M H) args us vs _ _ hr (env_del e a) b r h
  have gt : ∀ b ∈ M, ∃ o, s.heap.get? b = some o := fun b hb => by
    obtain ⟨o, eo⟩ := a.some hb
    exact objOk_get (e.hok b o eo)
  have nf : ∀ b ∈ M, b ∉ frs outer := fun b hb hf => aside_out a (e.frf b hf) hb
  refine codeAny_mono run fun res s' hres => ?_
  cases res with
  | error ex =>
    obtain ⟨x, B, G, cls, d, h1, fl, hok, ub, na, h2, h3, q⟩ := hres
    have hn : ∀ b ∈ M, G b = none := fun b hb => by
      obtain ⟨o, eo⟩ := gt b hb
      exact ub.free b o eo (del_in hb)
    refine ⟨x, B, glue M H G, cls, d, h1, fl, hok_glue e.hok hok a hn fun b hb o eo => ub.keep b o eo (del_in hb) (nf b hb), ⟨fun b o q1 q2 => ub.keep b o q1 (del_none q2), ub.slot, fun b o q1 q2 => ?_, ub.there, fun b xs q1 => ?_, fun b o u q1 => ?_, fun b ps q1 => ?_⟩, ?_, h2, h3, q hn⟩
    · rw [glue_out (aside_out a q2)]
      exact ub.free b o q1 (del_none q2)
    · rw [glue_out (a.tup q1)]
      exact ub.tups b xs (by rw [del_out (a.tup q1)]; exact q1)
    · rw [glue_out (a.frz q1)]
      exact ub.frzs b o u (by rw [del_out (a.frz q1)]; exact q1)
    · rw [glue_out (a.tbl q1)]
      exact ub.tbls b ps (by rw [del_out (a.tbl q1)]; exact q1)
    · by_cases hx : x ∈ M
      · exfalso
        obtain ⟨o, eo⟩ := gt x hx
        have hB := ub.keep x o eo (del_in hx) (nf x hx)
        rw [fl.2.1] at hB
        cases hB
      · rw [glue_out hx]
        exact na
  | ok fl =>
    cases fl with
    | ret u =>
      obtain ⟨v, G, h1, h2, un, hok, rel, q⟩ := hres
      have hn : ∀ b ∈ M, G b = none := fun b hb => by
        obtain ⟨o, eo⟩ := gt b hb
        exact un.free b o eo (del_in hb) (by simp)
      refine ⟨v, glue M H G, h1, h2, ⟨fun b o q1 q2 => un.keep b o q1 (del_none q2), fun b o q1 q2 => un.slot b o q1 (del_none q2), fun b o q1 q2 q3 => ?_, un.there, fun b xs q1 => ?_, fun b o u q1 => ?_, fun b ps q1 => ?_⟩,
        hok_glue e.hok hok a hn fun b hb o eo => un.keep b o eo (del_in hb) (nf b hb) (by simp), rel, q hn⟩
      · rw [glue_out (aside_out a q2)]
        exact un.free b o q1 (del_none q2) q3
      · rw [glue_out (a.tup q1)]
        exact un.tups b xs (by rw [del_out (a.tup q1)]; exact q1)
      · rw [glue_out (a.frz q1)]
        exact un.frzs b o u (by rw [del_out (a.frz q1)]; exact q1)
      · rw [glue_out (a.tbl q1)]
        exact un.tbls b ps (by rw [del_out (a.tbl q1)]; exact q1)
    | _ => exact hres
end
theorem toXN {P : Program} {w : World} {K : PySem.W.Frag} {mg : Str → Option Value} {base : Heap} {k : Nat} {f : Addr} {fd : FuncData} {ps : List Str} {sp : Sp} (F : FnOk P w K mg base CX0 k f fd ps sp) : FnOk P w K mg base (L2N.CX P w) k f fd ps sp := by
  refine ⟨F.len, fun A outer s H args us vs Q E hr e b r h => codeAny_mono (F.run A outer s H args us vs Q E hr e b r h) fun res s' hres => ?_⟩
  cases res with
  | error ex => exact hres.elim
  | ok fl =>
    cases fl with
    | ret u => exact hres
    | _ => exact hres
end DT

namespace DT
open PySem PySem.Spec PyProof.Rows L2 TL
/-- all that the text's top has written, by names -/
structure Env (K : PySem.W.Frag) (w : World) (mg : Str → Option Value) where
  C_Moment : Addr
  g_Moment : mg "Moment" = some (.ref C_Moment)
  cl_Moment : Cls K C_Moment
  n_Moment_order : NoAttr K C_Moment "order"
  n_Moment_holdings : NoAttr K C_Moment "holdings"
  n_Moment_frees : NoAttr K C_Moment "frees"
  n_Moment_portions : NoAttr K C_Moment "portions"
  n_Moment_arrears : NoAttr K C_Moment "arrears"
  n_Moment_counts : NoAttr K C_Moment "counts"
  n_Moment_debts : NoAttr K C_Moment "debts"
  n_Moment_wet : NoAttr K C_Moment "wet"
  n_Moment_dry : NoAttr K C_Moment "dry"
  C_Ditch : Addr
  g_Ditch : mg "Ditch" = some (.ref C_Ditch)
  cl_Ditch : Cls K C_Ditch
  n_Ditch_now : NoAttr K C_Ditch "now"
  n_Ditch_past : NoAttr K C_Ditch "past"
  n_Ditch_undone : NoAttr K C_Ditch "undone"
  D_common : Df K mg "common" s_common ["a", "b"]
  D_lowest : Df K mg "lowest" s_lowest ["top", "bottom"]
  D_plus : Df K mg "plus" s_plus ["a", "b"]
  D_minus : Df K mg "minus" s_minus ["a", "b"]
  D_times : Df K mg "times" s_times ["a", "b"]
  D_below : Df K mg "below" s_below ["a", "b"]
  D_raised : Df K mg "raised" s_raised ["lags", "shares"]
  D_turn_of : Df K mg "turn_of" s_turn_of ["row"]
  D_dealt : Df K mg "dealt" s_dealt ["lags", "shares"]
  D_Moment___init__ : Dm K C_Moment "__init__" "Moment.__init__" s_Moment___init__ ["self"]
  D_like : Df K mg "like" s_like ["moment"]
  D_begun : Df K mg "begun" s_begun ["first"]
  D_place_of : Df K mg "place_of" s_place_of ["moment", "name"]
  D_opposite : Df K mg "opposite" s_opposite ["part"]
  D_added : Df K mg "added" s_added ["row", "place", "part"]
  D_joined : Df K mg "joined" s_joined ["moment", "name", "part"]
  D_endowed : Df K mg "endowed" s_endowed ["moment", "place", "part"]
  D_entrusted : Df K mg "entrusted" s_entrusted ["moment", "giver", "taker", "part"]
  D_passed : Df K mg "passed" s_passed ["moment"]
  D_watered : Df K mg "watered" s_watered ["moment"]
  D_is_name : Df K mg "is_name" s_is_name ["text"]
  D_check_new_name : Df K mg "check_new_name" s_check_new_name ["name", "used"]
  D_check_room : Df K mg "check_room" s_check_room ["moment", "many"]
  D_check_trade : Df K mg "check_trade" s_check_trade ["moment", "giver", "taker", "part"]
  D_check_free : Df K mg "check_free" s_check_free ["moment", "place", "part"]
  D_settled : Df K mg "settled" s_settled ["moment", "name"]
  D_sold : Df K mg "sold" s_sold ["moment", "giver", "taker", "part"]
  D_lent : Df K mg "lent" s_lent ["moment", "giver", "taker", "part", "hours"]
  D_check_heirs : Df K mg "check_heirs" s_check_heirs ["moment", "heirs"]
  D_left : Df K mg "left" s_left ["moment", "name", "heirs"]
  D_given_to : Df K mg "given_to" s_given_to ["moment", "name"]
  D_dried : Df K mg "dried" s_dried ["moment"]
  D_behind_deed : Df K mg "behind_deed" s_behind_deed ["moment", "deed"]
  D_Ditch___init__ : Dm K C_Ditch "__init__" "Ditch.__init__" s_Ditch___init__ ["self", "first"]
  D_Ditch_enter : Dm K C_Ditch "enter" "Ditch.enter" s_Ditch_enter ["self", "deed", "moment"]
  D_Ditch_do : Dm K C_Ditch "do" "Ditch.do" s_Ditch_do ["self", "deed"]
  D_Ditch_settle : Dm K C_Ditch "settle" "Ditch.settle" s_Ditch_settle ["self", "name"]
  D_Ditch_sell : Dm K C_Ditch "sell" "Ditch.sell" s_Ditch_sell ["self", "giver", "taker", "part"]
  D_Ditch_lend : Dm K C_Ditch "lend" "Ditch.lend" s_Ditch_lend ["self", "giver", "taker", "part", "hours"]
  D_Ditch_leave : Dm K C_Ditch "leave" "Ditch.leave" s_Ditch_leave ["self", "name", "heirs"]
  D_Ditch_hour : Dm K C_Ditch "hour" "Ditch.hour" s_Ditch_hour ["self"]
  D_Ditch_lose : Dm K C_Ditch "lose" "Ditch.lose" s_Ditch_lose ["self"]
  D_Ditch_back : Dm K C_Ditch "back" "Ditch.back" s_Ditch_back ["self"]
  D_Ditch_again : Dm K C_Ditch "again" "Ditch.again" s_Ditch_again ["self"]
  D_Ditch_fields : Dm K C_Ditch "fields" "Ditch.fields" s_Ditch_fields ["self"]
  D_Ditch_owned : Dm K C_Ditch "owned" "Ditch.owned" s_Ditch_owned ["self", "name"]
  D_Ditch_free : Dm K C_Ditch "free" "Ditch.free" s_Ditch_free ["self", "name"]
  D_Ditch_share : Dm K C_Ditch "share" "Ditch.share" s_Ditch_share ["self", "name"]
  D_Ditch_lag : Dm K C_Ditch "lag" "Ditch.lag" s_Ditch_lag ["self", "name"]
  D_Ditch_lags : Dm K C_Ditch "lags" "Ditch.lags" s_Ditch_lags ["self"]
  D_Ditch_loans : Dm K C_Ditch "loans" "Ditch.loans" s_Ditch_loans ["self"]
  D_Ditch_given : Dm K C_Ditch "given" "Ditch.given" s_Ditch_given ["self"]
  D_Ditch_due : Dm K C_Ditch "due" "Ditch.due" s_Ditch_due ["self"]
  D__law_flow : Df K mg "_law_flow" s__law_flow ["_law_script", "_law_many"]
  D__law_low : Df K mg "_law_low" s__law_low ["_law_top", "_law_bottom"]
  D__law_add : Df K mg "_law_add" s__law_add ["_law_a", "_law_b"]
  D__law_mul : Df K mg "_law_mul" s__law_mul ["_law_a", "_law_b"]
  D__law_less : Df K mg "_law_less" s__law_less ["_law_a", "_law_b"]
  D__law_sum : Df K mg "_law_sum" s__law_sum ["_law_row"]
  D__law_most : Df K mg "_law_most" s__law_most ["_law_n", "_law_k"]
  D__law_falling : Df K mg "_law_falling" s__law_falling ["_law_row"]
  D__law_keeps : Df K mg "_law_keeps" s__law_keeps ["_law_lags"]
  D__law_pool : Df K mg "_law_pool" s__law_pool ["_law_row"]
  D_law : Df K mg "law" s_law ["_law_script"]
  mk_Moment : Mk K C_Moment D_Moment___init__.f
  mk_Ditch : Mk K C_Ditch D_Ditch___init__.f
  A_DitchError : Addr
  X_DitchError : ExcT K mg "DitchError" A_DitchError
  A_BadName : Addr
  X_BadName : ExcT K mg "BadName" A_BadName
  A_Taken : Addr
  X_Taken : ExcT K mg "Taken" A_Taken
  A_Full : Addr
  X_Full : ExcT K mg "Full" A_Full
  A_NoField : Addr
  X_NoField : ExcT K mg "NoField" A_NoField
  A_Same : Addr
  X_Same : ExcT K mg "Same" A_Same
  A_NoPart : Addr
  X_NoPart : ExcT K mg "NoPart" A_NoPart
  A_TooMuch : Addr
  X_TooMuch : ExcT K mg "TooMuch" A_TooMuch
  A_NoHours : Addr
  X_NoHours : ExcT K mg "NoHours" A_NoHours
  A_NoHeirs : Addr
  X_NoHeirs : ExcT K mg "NoHeirs" A_NoHeirs
  A_NoWeight : Addr
  X_NoWeight : ExcT K mg "NoWeight" A_NoWeight
  A_WrongTurn : Addr
  X_WrongTurn : ExcT K mg "WrongTurn" A_WrongTurn
  A_NothingLeft : Addr
  X_NothingLeft : ExcT K mg "NothingLeft" A_NothingLeft
  c_DitchError : ExcC K A_DitchError
  k_DitchError : PySem.W.kitOne K (.ref A_DitchError) (.type "ValueError") = some true
  c_BadName : ExcC K A_BadName
  k_BadName : PySem.W.kitOne K (.ref A_BadName) (.type "ValueError") = some true
  e_BadName : PySem.W.exmOne K (.ref A_BadName) (.ref A_DitchError) = some true
  c_Taken : ExcC K A_Taken
  k_Taken : PySem.W.kitOne K (.ref A_Taken) (.type "ValueError") = some true
  e_Taken : PySem.W.exmOne K (.ref A_Taken) (.ref A_DitchError) = some true
  c_Full : ExcC K A_Full
  k_Full : PySem.W.kitOne K (.ref A_Full) (.type "ValueError") = some true
  e_Full : PySem.W.exmOne K (.ref A_Full) (.ref A_DitchError) = some true
  c_NoField : ExcC K A_NoField
  k_NoField : PySem.W.kitOne K (.ref A_NoField) (.type "ValueError") = some true
  e_NoField : PySem.W.exmOne K (.ref A_NoField) (.ref A_DitchError) = some true
  c_Same : ExcC K A_Same
  k_Same : PySem.W.kitOne K (.ref A_Same) (.type "ValueError") = some true
  e_Same : PySem.W.exmOne K (.ref A_Same) (.ref A_DitchError) = some true
  c_NoPart : ExcC K A_NoPart
  k_NoPart : PySem.W.kitOne K (.ref A_NoPart) (.type "ValueError") = some true
  e_NoPart : PySem.W.exmOne K (.ref A_NoPart) (.ref A_DitchError) = some true
  c_TooMuch : ExcC K A_TooMuch
  k_TooMuch : PySem.W.kitOne K (.ref A_TooMuch) (.type "ValueError") = some true
  e_TooMuch : PySem.W.exmOne K (.ref A_TooMuch) (.ref A_DitchError) = some true
  c_NoHours : ExcC K A_NoHours
  k_NoHours : PySem.W.kitOne K (.ref A_NoHours) (.type "ValueError") = some true
  e_NoHours : PySem.W.exmOne K (.ref A_NoHours) (.ref A_DitchError) = some true
  c_NoHeirs : ExcC K A_NoHeirs
  k_NoHeirs : PySem.W.kitOne K (.ref A_NoHeirs) (.type "ValueError") = some true
  e_NoHeirs : PySem.W.exmOne K (.ref A_NoHeirs) (.ref A_DitchError) = some true
  c_NoWeight : ExcC K A_NoWeight
  k_NoWeight : PySem.W.kitOne K (.ref A_NoWeight) (.type "ValueError") = some true
  e_NoWeight : PySem.W.exmOne K (.ref A_NoWeight) (.ref A_DitchError) = some true
  c_WrongTurn : ExcC K A_WrongTurn
  k_WrongTurn : PySem.W.kitOne K (.ref A_WrongTurn) (.type "ValueError") = some true
  e_WrongTurn : PySem.W.exmOne K (.ref A_WrongTurn) (.ref A_DitchError) = some true
  c_NothingLeft : ExcC K A_NothingLeft
  k_NothingLeft : PySem.W.kitOne K (.ref A_NothingLeft) (.type "ValueError") = some true
  e_NothingLeft : PySem.W.exmOne K (.ref A_NothingLeft) (.ref A_DitchError) = some true
  i_BadName_BadName : PySem.W.kitOne K (.ref A_BadName) (.ref A_BadName) = some true
  i_BadName_Taken : PySem.W.kitOne K (.ref A_BadName) (.ref A_Taken) = some false
  i_BadName_Full : PySem.W.kitOne K (.ref A_BadName) (.ref A_Full) = some false
  i_BadName_NoField : PySem.W.kitOne K (.ref A_BadName) (.ref A_NoField) = some false
  i_BadName_Same : PySem.W.kitOne K (.ref A_BadName) (.ref A_Same) = some false
  i_BadName_NoPart : PySem.W.kitOne K (.ref A_BadName) (.ref A_NoPart) = some false
  i_BadName_NoHours : PySem.W.kitOne K (.ref A_BadName) (.ref A_NoHours) = some false
  i_BadName_TooMuch : PySem.W.kitOne K (.ref A_BadName) (.ref A_TooMuch) = some false
  i_BadName_NoHeirs : PySem.W.kitOne K (.ref A_BadName) (.ref A_NoHeirs) = some false
  i_BadName_NoWeight : PySem.W.kitOne K (.ref A_BadName) (.ref A_NoWeight) = some false
  i_Taken_BadName : PySem.W.kitOne K (.ref A_Taken) (.ref A_BadName) = some false
  i_Taken_Taken : PySem.W.kitOne K (.ref A_Taken) (.ref A_Taken) = some true
  i_Taken_Full : PySem.W.kitOne K (.ref A_Taken) (.ref A_Full) = some false
  i_Taken_NoField : PySem.W.kitOne K (.ref A_Taken) (.ref A_NoField) = some false
  i_Taken_Same : PySem.W.kitOne K (.ref A_Taken) (.ref A_Same) = some false
  i_Taken_NoPart : PySem.W.kitOne K (.ref A_Taken) (.ref A_NoPart) = some false
  i_Taken_NoHours : PySem.W.kitOne K (.ref A_Taken) (.ref A_NoHours) = some false
  i_Taken_TooMuch : PySem.W.kitOne K (.ref A_Taken) (.ref A_TooMuch) = some false
  i_Taken_NoHeirs : PySem.W.kitOne K (.ref A_Taken) (.ref A_NoHeirs) = some false
  i_Taken_NoWeight : PySem.W.kitOne K (.ref A_Taken) (.ref A_NoWeight) = some false
  i_Full_BadName : PySem.W.kitOne K (.ref A_Full) (.ref A_BadName) = some false
  i_Full_Taken : PySem.W.kitOne K (.ref A_Full) (.ref A_Taken) = some false
  i_Full_Full : PySem.W.kitOne K (.ref A_Full) (.ref A_Full) = some true
  i_Full_NoField : PySem.W.kitOne K (.ref A_Full) (.ref A_NoField) = some false
  i_Full_Same : PySem.W.kitOne K (.ref A_Full) (.ref A_Same) = some false
  i_Full_NoPart : PySem.W.kitOne K (.ref A_Full) (.ref A_NoPart) = some false
  i_Full_NoHours : PySem.W.kitOne K (.ref A_Full) (.ref A_NoHours) = some false
  i_Full_TooMuch : PySem.W.kitOne K (.ref A_Full) (.ref A_TooMuch) = some false
  i_Full_NoHeirs : PySem.W.kitOne K (.ref A_Full) (.ref A_NoHeirs) = some false
  i_Full_NoWeight : PySem.W.kitOne K (.ref A_Full) (.ref A_NoWeight) = some false
  i_NoField_BadName : PySem.W.kitOne K (.ref A_NoField) (.ref A_BadName) = some false
  i_NoField_Taken : PySem.W.kitOne K (.ref A_NoField) (.ref A_Taken) = some false
  i_NoField_Full : PySem.W.kitOne K (.ref A_NoField) (.ref A_Full) = some false
  i_NoField_NoField : PySem.W.kitOne K (.ref A_NoField) (.ref A_NoField) = some true
  i_NoField_Same : PySem.W.kitOne K (.ref A_NoField) (.ref A_Same) = some false
  i_NoField_NoPart : PySem.W.kitOne K (.ref A_NoField) (.ref A_NoPart) = some false
  i_NoField_NoHours : PySem.W.kitOne K (.ref A_NoField) (.ref A_NoHours) = some false
  i_NoField_TooMuch : PySem.W.kitOne K (.ref A_NoField) (.ref A_TooMuch) = some false
  i_NoField_NoHeirs : PySem.W.kitOne K (.ref A_NoField) (.ref A_NoHeirs) = some false
  i_NoField_NoWeight : PySem.W.kitOne K (.ref A_NoField) (.ref A_NoWeight) = some false
  i_Same_BadName : PySem.W.kitOne K (.ref A_Same) (.ref A_BadName) = some false
  i_Same_Taken : PySem.W.kitOne K (.ref A_Same) (.ref A_Taken) = some false
  i_Same_Full : PySem.W.kitOne K (.ref A_Same) (.ref A_Full) = some false
  i_Same_NoField : PySem.W.kitOne K (.ref A_Same) (.ref A_NoField) = some false
  i_Same_Same : PySem.W.kitOne K (.ref A_Same) (.ref A_Same) = some true
  i_Same_NoPart : PySem.W.kitOne K (.ref A_Same) (.ref A_NoPart) = some false
  i_Same_NoHours : PySem.W.kitOne K (.ref A_Same) (.ref A_NoHours) = some false
  i_Same_TooMuch : PySem.W.kitOne K (.ref A_Same) (.ref A_TooMuch) = some false
  i_Same_NoHeirs : PySem.W.kitOne K (.ref A_Same) (.ref A_NoHeirs) = some false
  i_Same_NoWeight : PySem.W.kitOne K (.ref A_Same) (.ref A_NoWeight) = some false
  i_NoPart_BadName : PySem.W.kitOne K (.ref A_NoPart) (.ref A_BadName) = some false
  i_NoPart_Taken : PySem.W.kitOne K (.ref A_NoPart) (.ref A_Taken) = some false
  i_NoPart_Full : PySem.W.kitOne K (.ref A_NoPart) (.ref A_Full) = some false
  i_NoPart_NoField : PySem.W.kitOne K (.ref A_NoPart) (.ref A_NoField) = some false
  i_NoPart_Same : PySem.W.kitOne K (.ref A_NoPart) (.ref A_Same) = some false
  i_NoPart_NoPart : PySem.W.kitOne K (.ref A_NoPart) (.ref A_NoPart) = some true
  i_NoPart_NoHours : PySem.W.kitOne K (.ref A_NoPart) (.ref A_NoHours) = some false
  i_NoPart_TooMuch : PySem.W.kitOne K (.ref A_NoPart) (.ref A_TooMuch) = some false
  i_NoPart_NoHeirs : PySem.W.kitOne K (.ref A_NoPart) (.ref A_NoHeirs) = some false
  i_NoPart_NoWeight : PySem.W.kitOne K (.ref A_NoPart) (.ref A_NoWeight) = some false
  i_NoHours_BadName : PySem.W.kitOne K (.ref A_NoHours) (.ref A_BadName) = some false
  i_NoHours_Taken : PySem.W.kitOne K (.ref A_NoHours) (.ref A_Taken) = some false
  i_NoHours_Full : PySem.W.kitOne K (.ref A_NoHours) (.ref A_Full) = some false
  i_NoHours_NoField : PySem.W.kitOne K (.ref A_NoHours) (.ref A_NoField) = some false
  i_NoHours_Same : PySem.W.kitOne K (.ref A_NoHours) (.ref A_Same) = some false
  i_NoHours_NoPart : PySem.W.kitOne K (.ref A_NoHours) (.ref A_NoPart) = some false
  i_NoHours_NoHours : PySem.W.kitOne K (.ref A_NoHours) (.ref A_NoHours) = some true
  i_NoHours_TooMuch : PySem.W.kitOne K (.ref A_NoHours) (.ref A_TooMuch) = some false
  i_NoHours_NoHeirs : PySem.W.kitOne K (.ref A_NoHours) (.ref A_NoHeirs) = some false
  i_NoHours_NoWeight : PySem.W.kitOne K (.ref A_NoHours) (.ref A_NoWeight) = some false
  i_TooMuch_BadName : PySem.W.kitOne K (.ref A_TooMuch) (.ref A_BadName) = some false
  i_TooMuch_Taken : PySem.W.kitOne K (.ref A_TooMuch) (.ref A_Taken) = some false
  i_TooMuch_Full : PySem.W.kitOne K (.ref A_TooMuch) (.ref A_Full) = some false
  i_TooMuch_NoField : PySem.W.kitOne K (.ref A_TooMuch) (.ref A_NoField) = some false
  i_TooMuch_Same : PySem.W.kitOne K (.ref A_TooMuch) (.ref A_Same) = some false
  i_TooMuch_NoPart : PySem.W.kitOne K (.ref A_TooMuch) (.ref A_NoPart) = some false
  i_TooMuch_NoHours : PySem.W.kitOne K (.ref A_TooMuch) (.ref A_NoHours) = some false
  i_TooMuch_TooMuch : PySem.W.kitOne K (.ref A_TooMuch) (.ref A_TooMuch) = some true
  i_TooMuch_NoHeirs : PySem.W.kitOne K (.ref A_TooMuch) (.ref A_NoHeirs) = some false
  i_TooMuch_NoWeight : PySem.W.kitOne K (.ref A_TooMuch) (.ref A_NoWeight) = some false
  i_NoHeirs_BadName : PySem.W.kitOne K (.ref A_NoHeirs) (.ref A_BadName) = some false
  i_NoHeirs_Taken : PySem.W.kitOne K (.ref A_NoHeirs) (.ref A_Taken) = some false
  i_NoHeirs_Full : PySem.W.kitOne K (.ref A_NoHeirs) (.ref A_Full) = some false
  i_NoHeirs_NoField : PySem.W.kitOne K (.ref A_NoHeirs) (.ref A_NoField) = some false
  i_NoHeirs_Same : PySem.W.kitOne K (.ref A_NoHeirs) (.ref A_Same) = some false
  i_NoHeirs_NoPart : PySem.W.kitOne K (.ref A_NoHeirs) (.ref A_NoPart) = some false
  i_NoHeirs_NoHours : PySem.W.kitOne K (.ref A_NoHeirs) (.ref A_NoHours) = some false
  i_NoHeirs_TooMuch : PySem.W.kitOne K (.ref A_NoHeirs) (.ref A_TooMuch) = some false
  i_NoHeirs_NoHeirs : PySem.W.kitOne K (.ref A_NoHeirs) (.ref A_NoHeirs) = some true
  i_NoHeirs_NoWeight : PySem.W.kitOne K (.ref A_NoHeirs) (.ref A_NoWeight) = some false
  i_NoWeight_BadName : PySem.W.kitOne K (.ref A_NoWeight) (.ref A_BadName) = some false
  i_NoWeight_Taken : PySem.W.kitOne K (.ref A_NoWeight) (.ref A_Taken) = some false
  i_NoWeight_Full : PySem.W.kitOne K (.ref A_NoWeight) (.ref A_Full) = some false
  i_NoWeight_NoField : PySem.W.kitOne K (.ref A_NoWeight) (.ref A_NoField) = some false
  i_NoWeight_Same : PySem.W.kitOne K (.ref A_NoWeight) (.ref A_Same) = some false
  i_NoWeight_NoPart : PySem.W.kitOne K (.ref A_NoWeight) (.ref A_NoPart) = some false
  i_NoWeight_NoHours : PySem.W.kitOne K (.ref A_NoWeight) (.ref A_NoHours) = some false
  i_NoWeight_TooMuch : PySem.W.kitOne K (.ref A_NoWeight) (.ref A_TooMuch) = some false
  i_NoWeight_NoHeirs : PySem.W.kitOne K (.ref A_NoWeight) (.ref A_NoHeirs) = some false
  i_NoWeight_NoWeight : PySem.W.kitOne K (.ref A_NoWeight) (.ref A_NoWeight) = some true
  a_NOUGHT : Addr
  m_NOUGHT : mg "NOUGHT" = some (.ref a_NOUGHT)
  p_NOUGHT : ∀ H : Hp, Pp K H (.ref a_NOUGHT) (0, 1)
  a_WHOLE : Addr
  m_WHOLE : mg "WHOLE" = some (.ref a_WHOLE)
  p_WHOLE : ∀ H : Hp, Pp K H (.ref a_WHOLE) (1, 1)
  t_LETTERS : Tok
  m_LETTERS : mg "LETTERS" = some (.str "abcdefghijklmnopqrstuvwxyz" t_LETTERS)
  t_LONGEST_NAME : Tok
  m_LONGEST_NAME : mg "LONGEST_NAME" = some (.int 8 t_LONGEST_NAME)
  t_MOST_FIELDS : Tok
  m_MOST_FIELDS : mg "MOST_FIELDS" = some (.int 24 t_MOST_FIELDS)
  t_MOST_HOURS : Tok
  m_MOST_HOURS : mg "MOST_HOURS" = some (.int 999 t_MOST_HOURS)
  t_MOST_WEIGHT : Tok
  m_MOST_WEIGHT : mg "MOST_WEIGHT" = some (.int 999999 t_MOST_WEIGHT)
  a_WAYS : Addr
  m_WAYS : mg "WAYS" = some (.ref a_WAYS)
  k_WAYS : ∃ es n, KDict K w a_WAYS es n
  w_settled : PySem.W.nsIn K a_WAYS "settle" = some (some (.ref D_settled.f))
  w_sold : PySem.W.nsIn K a_WAYS "sell" = some (some (.ref D_sold.f))
  w_lent : PySem.W.nsIn K a_WAYS "lend" = some (some (.ref D_lent.f))
  w_left : PySem.W.nsIn K a_WAYS "leave" = some (some (.ref D_left.f))
  w_given_to : PySem.W.nsIn K a_WAYS "hour" = some (some (.ref D_given_to.f))
  w_dried : PySem.W.nsIn K a_WAYS "lose" = some (some (.ref D_dried.f))
  m_abs : mg "abs" = none
  m_len : mg "len" = none
  m_range : mg "range" = none
  m_int : mg "int" = none
  m_tuple : mg "tuple" = none
  m_list : mg "list" = none
  m_all : mg "all" = none
  m_any : mg "any" = none
  m_sum : mg "sum" = none
  m_zip : mg "zip" = none
  m_enumerate : mg "enumerate" = none
  m_ValueError : mg "ValueError" = none
abbrev N_Moment___init__ : List Str := ["self"]
theorem sc_Moment___init__ : FnScope N_Moment___init__ ["self"] (defScope s_Moment___init__) := ⟨rfl, rfl, rfl, by decide +kernel, rfl, by decide +kernel, by decide +kernel⟩
section
variable {P : Program} {w : World} {K : PySem.W.Frag} {mg : Str → Option Value} {base : Heap}
theorem ok_Moment___init__ {k : Nat} (T : Env K w mg) : FnOk P w K mg base CX0 (k + 1) T.D_Moment___init__.f T.D_Moment___init__.fd ["self"] (sp_MInit K T.C_Moment) := by
  refine T.D_Moment___init__.F.ok sc_Moment___init__ (fun vs H Q E h => ?_) (fun cdv A outer s H vs Q E hr h => ?_)
  · obtain ⟨H0, p, dx, rfl, _⟩ := h
    rfl
  obtain ⟨H0, p, dx, rfl, s0, np, e0, qq⟩ := h
  refine ⟨_, (pss_cons (ps_fld (pv 0) (pe_lst pa_nil) rfl)
      (pss_cons (ps_fld (pv 0) (pe_lst pa_nil) rfl)
      (pss_cons (ps_fld (pv 0) (pe_lst pa_nil) rfl)
      (pss_cons (ps_fld (pv 0) (pe_lst pa_nil) rfl)
      (pss_cons (ps_fld (pv 0) (pe_lst pa_nil) rfl)
      (pss_cons (ps_fld (pv 0) (pe_lst pa_nil) rfl)
      (pss_cons (ps_fld (pv 0) (pe_lst pa_nil) rfl)
      (pss_cons (ps_fld (pv 0) pe_int rfl)
      (pss_one (ps_fld (pv 0) pe_int rfl)))))))))), ?_⟩
  refine ⟨Nat.zero_le _, fun o no => ?_⟩
  obtain ⟨b0, e1, s1, go1, k1⟩ := init_step [(("order" : Str), V.ref o)] s0 np e0 no
  refine ⟨_, rfl, p, _, dx, _, rfl, b0, T.cl_Moment, T.n_Moment_order, (by show 0 < 1000; decide), ?_⟩
  generalize eH1 : upd (upd H o (.lst [])) p (.ins T.C_Moment dx [(("order" : Str), V.ref o)]) = H1 at e1 s1 go1 k1
  rw [show upd (upd H o (.lst [])) p (.ins T.C_Moment dx (putF ("order" : Str) (V.ref o) [])) = H1 from eH1]
  clear eH1
  refine ⟨Nat.zero_le _, fun h nh => ?_⟩
  obtain ⟨b1, e2, s2, gh2, k2⟩ := init_step [(("order" : Str), V.ref o), (("holdings" : Str), V.ref h)] s1 np e1 nh
  refine ⟨_, rfl, p, _, dx, _, rfl, b1, T.cl_Moment, T.n_Moment_holdings, (by show 1 < 1000; decide), ?_⟩
  generalize eH2 : upd (upd H1 h (.lst [])) p (.ins T.C_Moment dx [(("order" : Str), V.ref o), (("holdings" : Str), V.ref h)]) = H2 at e2 s2 gh2 k2
  rw [show upd (upd H1 h (.lst [])) p (.ins T.C_Moment dx (putF ("holdings" : Str) (V.ref h) [(("order" : Str), V.ref o)])) = H2 from eH2]
  clear eH2
  have go2 := k2 _ _ go1 (ne_of go1 e1 (by intro z; cases z))
  refine ⟨Nat.zero_le _, fun f nf => ?_⟩
  obtain ⟨b2, e3, s3, gf3, k3⟩ := init_step [(("order" : Str), V.ref o), (("holdings" : Str), V.ref h), (("frees" : Str), V.ref f)] s2 np e2 nf
  refine ⟨_, rfl, p, _, dx, _, rfl, b2, T.cl_Moment, T.n_Moment_frees, (by show 2 < 1000; decide), ?_⟩
  generalize eH3 : upd (upd H2 f (.lst [])) p (.ins T.C_Moment dx [(("order" : Str), V.ref o), (("holdings" : Str), V.ref h), (("frees" : Str), V.ref f)]) = H3 at e3 s3 gf3 k3
  rw [show upd (upd H2 f (.lst [])) p (.ins T.C_Moment dx (putF ("frees" : Str) (V.ref f) [(("order" : Str), V.ref o), (("holdings" : Str), V.ref h)])) = H3 from eH3]
  clear eH3
  have go3 := k3 _ _ go2 (ne_of go2 e2 (by intro z; cases z))
  have gh3 := k3 _ _ gh2 (ne_of gh2 e2 (by intro z; cases z))
  refine ⟨Nat.zero_le _, fun q nq => ?_⟩
  obtain ⟨b3, e4, s4, gq4, k4⟩ := init_step [(("order" : Str), V.ref o), (("holdings" : Str), V.ref h), (("frees" : Str), V.ref f), (("portions" : Str), V.ref q)] s3 np e3 nq
  refine ⟨_, rfl, p, _, dx, _, rfl, b3, T.cl_Moment, T.n_Moment_portions, (by show 3 < 1000; decide), ?_⟩
  generalize eH4 : upd (upd H3 q (.lst [])) p (.ins T.C_Moment dx [(("order" : Str), V.ref o), (("holdings" : Str), V.ref h), (("frees" : Str), V.ref f), (("portions" : Str), V.ref q)]) = H4 at e4 s4 gq4 k4
  rw [show upd (upd H3 q (.lst [])) p (.ins T.C_Moment dx (putF ("portions" : Str) (V.ref q) [(("order" : Str), V.ref o), (("holdings" : Str), V.ref h), (("frees" : Str), V.ref f)])) = H4 from eH4]
  clear eH4
  have go4 := k4 _ _ go3 (ne_of go3 e3 (by intro z; cases z))
  have gh4 := k4 _ _ gh3 (ne_of gh3 e3 (by intro z; cases z))
  have gf4 := k4 _ _ gf3 (ne_of gf3 e3 (by intro z; cases z))
  refine ⟨Nat.zero_le _, fun a na => ?_⟩
  obtain ⟨b4, e5, s5, ga5, k5⟩ := init_step [(("order" : Str), V.ref o), (("holdings" : Str), V.ref h), (("frees" : Str), V.ref f), (("portions" : Str), V.ref q), (("arrears" : Str), V.ref a)] s4 np e4 na
  refine ⟨_, rfl, p, _, dx, _, rfl, b4, T.cl_Moment, T.n_Moment_arrears, (by show 4 < 1000; decide), ?_⟩
  generalize eH5 : upd (upd H4 a (.lst [])) p (.ins T.C_Moment dx [(("order" : Str), V.ref o), (("holdings" : Str), V.ref h), (("frees" : Str), V.ref f), (("portions" : Str), V.ref q), (("arrears" : Str), V.ref a)]) = H5 at e5 s5 ga5 k5
  rw [show upd (upd H4 a (.lst [])) p (.ins T.C_Moment dx (putF ("arrears" : Str) (V.ref a) [(("order" : Str), V.ref o), (("holdings" : Str), V.ref h), (("frees" : Str), V.ref f), (("portions" : Str), V.ref q)])) = H5 from eH5]
  clear eH5
  have go5 := k5 _ _ go4 (ne_of go4 e4 (by intro z; cases z))
  have gh5 := k5 _ _ gh4 (ne_of gh4 e4 (by intro z; cases z))
  have gf5 := k5 _ _ gf4 (ne_of gf4 e4 (by intro z; cases z))
  have gq5 := k5 _ _ gq4 (ne_of gq4 e4 (by intro z; cases z))
  refine ⟨Nat.zero_le _, fun c nc => ?_⟩
  obtain ⟨b5, e6, s6, gc6, k6⟩ := init_step [(("order" : Str), V.ref o), (("holdings" : Str), V.ref h), (("frees" : Str), V.ref f), (("portions" : Str), V.ref q), (("arrears" : Str), V.ref a), (("counts" : Str), V.ref c)] s5 np e5 nc
  refine ⟨_, rfl, p, _, dx, _, rfl, b5, T.cl_Moment, T.n_Moment_counts, (by show 5 < 1000; decide), ?_⟩
  generalize eH6 : upd (upd H5 c (.lst [])) p (.ins T.C_Moment dx [(("order" : Str), V.ref o), (("holdings" : Str), V.ref h), (("frees" : Str), V.ref f), (("portions" : Str), V.ref q), (("arrears" : Str), V.ref a), (("counts" : Str), V.ref c)]) = H6 at e6 s6 gc6 k6
  rw [show upd (upd H5 c (.lst [])) p (.ins T.C_Moment dx (putF ("counts" : Str) (V.ref c) [(("order" : Str), V.ref o), (("holdings" : Str), V.ref h), (("frees" : Str), V.ref f), (("portions" : Str), V.ref q), (("arrears" : Str), V.ref a)])) = H6 from eH6]
  clear eH6
  have go6 := k6 _ _ go5 (ne_of go5 e5 (by intro z; cases z))
  have gh6 := k6 _ _ gh5 (ne_of gh5 e5 (by intro z; cases z))
  have gf6 := k6 _ _ gf5 (ne_of gf5 e5 (by intro z; cases z))
  have gq6 := k6 _ _ gq5 (ne_of gq5 e5 (by intro z; cases z))
  have ga6 := k6 _ _ ga5 (ne_of ga5 e5 (by intro z; cases z))
  refine ⟨Nat.zero_le _, fun d nd => ?_⟩
  obtain ⟨b6, e7, s7, gd7, k7⟩ := init_step [(("order" : Str), V.ref o), (("holdings" : Str), V.ref h), (("frees" : Str), V.ref f), (("portions" : Str), V.ref q), (("arrears" : Str), V.ref a), (("counts" : Str), V.ref c), (("debts" : Str), V.ref d)] s6 np e6 nd
  refine ⟨_, rfl, p, _, dx, _, rfl, b6, T.cl_Moment, T.n_Moment_debts, (by show 6 < 1000; decide), ?_⟩
  generalize eH7 : upd (upd H6 d (.lst [])) p (.ins T.C_Moment dx [(("order" : Str), V.ref o), (("holdings" : Str), V.ref h), (("frees" : Str), V.ref f), (("portions" : Str), V.ref q), (("arrears" : Str), V.ref a), (("counts" : Str), V.ref c), (("debts" : Str), V.ref d)]) = H7 at e7 s7 gd7 k7
  rw [show upd (upd H6 d (.lst [])) p (.ins T.C_Moment dx (putF ("debts" : Str) (V.ref d) [(("order" : Str), V.ref o), (("holdings" : Str), V.ref h), (("frees" : Str), V.ref f), (("portions" : Str), V.ref q), (("arrears" : Str), V.ref a), (("counts" : Str), V.ref c)])) = H7 from eH7]
  clear eH7
  have go7 := k7 _ _ go6 (ne_of go6 e6 (by intro z; cases z))
  have gh7 := k7 _ _ gh6 (ne_of gh6 e6 (by intro z; cases z))
  have gf7 := k7 _ _ gf6 (ne_of gf6 e6 (by intro z; cases z))
  have gq7 := k7 _ _ gq6 (ne_of gq6 e6 (by intro z; cases z))
  have ga7 := k7 _ _ ga6 (ne_of ga6 e6 (by intro z; cases z))
  have gc7 := k7 _ _ gc6 (ne_of gc6 e6 (by intro z; cases z))
  refine ⟨_, rfl, p, _, dx, _, rfl, e7, T.cl_Moment, T.n_Moment_wet, (by show 7 < 1000; decide), ?_⟩
  refine ⟨_, rfl, p, _, dx, _, rfl, upd_same, T.cl_Moment, T.n_Moment_dry, (by show 8 < 1000; decide), ?_⟩
  have kk : ∀ b x, H7 b = some x → b ≠ p → upd (upd H7 p (.ins T.C_Moment dx (putF ("wet" : Str) (V.int 0) [(("order" : Str), V.ref o), (("holdings" : Str), V.ref h), (("frees" : Str), V.ref f), (("portions" : Str), V.ref q), (("arrears" : Str), V.ref a), (("counts" : Str), V.ref c), (("debts" : Str), V.ref d)]))) p (.ins T.C_Moment dx (mf o h f q a c d 0 0)) b = some x := fun b x e nb => by
    rw [upd_ne nb, upd_ne nb]
    exact e
  have np' : ∀ l, H7 l = some (.lst []) → l ≠ p := fun l e => ne_of e e7 (by intro z; cases z)
  have S : Same H0 (upd (upd H7 p (.ins T.C_Moment dx (putF ("wet" : Str) (V.int 0) [(("order" : Str), V.ref o), (("holdings" : Str), V.ref h), (("frees" : Str), V.ref f), (("portions" : Str), V.ref q), (("arrears" : Str), V.ref a), (("counts" : Str), V.ref c), (("debts" : Str), V.ref d)]))) p (.ins T.C_Moment dx (mf o h f q a c d 0 0))) := same_at np (same_at np s7)
  refine qq _ o h f q a c d S upd_same ⟨kk _ _ go7 (np' _ go7), ⟨[], kk _ _ gh7 (np' _ gh7), .nil⟩, ⟨[], kk _ _ gf7 (np' _ gf7), .nil⟩, ⟨[], kk _ _ gq7 (np' _ gq7), .nil⟩, ⟨[], kk _ _ ga7 (np' _ ga7), .nil⟩, kk _ _ gc7 (np' _ gc7), [], kk _ _ gd7 (np' _ gd7), .nil⟩

end
-- END Moment___init__
abbrev N_like : List Str := ["moment", "other"]
theorem sc_like : FnScope N_like ["moment"] (defScope s_like) := ⟨rfl, rfl, rfl, by decide +kernel, rfl, by decide +kernel, by decide +kernel⟩
section
variable {P : Program} {w : World} {K : PySem.W.Frag} {mg : Str → Option Value} {base : Heap}
theorem ok_like {k : Nat} (T : Env K w mg) : FnOk P w K mg base CX0 (k + 3) T.D_like.f T.D_like.fd ["moment"] (sp_like T.C_Moment) := by
  have G_Moment___init__ : FnOk P w K mg base CX0 1 T.D_Moment___init__.f T.D_Moment___init__.fd ["self"] (sp_MInit K T.C_Moment) := ok_Moment___init__ T
  refine T.D_like.F.ok sc_like (fun vs H Q E h => ?_) (fun cdv A outer s H vs Q E hr h => ?_)
  · obtain ⟨p, o, h, f, q, a, c, d, w, y, rfl, _⟩ := h
    rfl
  obtain ⟨p, o, h, f, q, a, c, d, ww, y, rfl, ⟨dp, ep⟩, qq⟩ := h
  refine ⟨_, (pss_cons (ps_set (i := 1) sc_like.nd rfl (.inl rfl) (pe_make0 T.mk_Moment G_Moment___init__ (hr.mono (by omega)) (by rfl) T.g_Moment T.D_Moment___init__.b .nil pass0))
      (pss_cons (ps_fld (pv 1) (pe_fld (pv 0) rfl) rfl)
      (pss_cons (ps_fld (pv 1) (pe_fld (pv 0) rfl) rfl)
      (pss_cons (ps_fld (pv 1) (pe_fld (pv 0) rfl) rfl)
      (pss_cons (ps_fld (pv 1) (pe_fld (pv 0) rfl) rfl)
      (pss_cons (ps_fld (pv 1) (pe_fld (pv 0) rfl) rfl)
      (pss_cons (ps_fld (pv 1) (pe_fld (pv 0) rfl) rfl)
      (pss_cons (ps_fld (pv 1) (pe_fld (pv 0) rfl) rfl)
      (pss_cons (ps_fld (pv 1) (pe_fld (pv 0) rfl) rfl)
      (pss_cons (ps_fld (pv 1) (pe_fld (pv 0) rfl) rfl)
      (pss_one (ps_ret (pv 1))))))))))))), ?_⟩
  intro r dr nr ndr ner
  have s0 : Same H (upd (upd H dr (.own r)) r (.ins T.C_Moment dr [])) := fun b x e => by
    rw [upd_ne (ne_of_none e nr), upd_ne (ne_of_none e ndr)]
    exact e
  refine ⟨H, r, dr, rfl, s0, nr, upd_same, fun H1 o0 h0 f0 q0 a0 c0 d0 s1 e1 _ => ⟨rfl, ?_⟩⟩
  have np : p ≠ r := ne_of_none ep nr
  have p1 := s1 _ _ ep
  refine ⟨_, rfl, p, _, dp, _, _, rfl, p1, T.cl_Moment, T.n_Moment_order, mf_order, _, rfl, r, _, dr, _, rfl, e1, T.cl_Moment, T.n_Moment_order, few9, ?_⟩
  rw [ps_order]
  have e2 : upd H1 r (.ins T.C_Moment dr (mf o h0 f0 q0 a0 c0 d0 0 0)) r = some (.ins T.C_Moment dr (mf o h0 f0 q0 a0 c0 d0 0 0)) := upd_same
  have s2 : Same H (upd H1 r (.ins T.C_Moment dr (mf o h0 f0 q0 a0 c0 d0 0 0))) := same_at nr s1
  generalize upd H1 r (.ins T.C_Moment dr (mf o h0 f0 q0 a0 c0 d0 0 0)) = H2 at e2 s2 ⊢
  have p2 := s2 _ _ ep
  refine ⟨_, rfl, p, _, dp, _, _, rfl, p2, T.cl_Moment, T.n_Moment_holdings, mf_holdings, _, rfl, r, _, dr, _, rfl, e2, T.cl_Moment, T.n_Moment_holdings, few9, ?_⟩
  rw [ps_holdings]
  have e3 : upd H2 r (.ins T.C_Moment dr (mf o h f0 q0 a0 c0 d0 0 0)) r = some (.ins T.C_Moment dr (mf o h f0 q0 a0 c0 d0 0 0)) := upd_same
  have s3 : Same H (upd H2 r (.ins T.C_Moment dr (mf o h f0 q0 a0 c0 d0 0 0))) := same_at nr s2
  generalize upd H2 r (.ins T.C_Moment dr (mf o h f0 q0 a0 c0 d0 0 0)) = H3 at e3 s3 ⊢
  have p3 := s3 _ _ ep
  refine ⟨_, rfl, p, _, dp, _, _, rfl, p3, T.cl_Moment, T.n_Moment_frees, mf_frees, _, rfl, r, _, dr, _, rfl, e3, T.cl_Moment, T.n_Moment_frees, few9, ?_⟩
  rw [ps_frees]
  have e4 : upd H3 r (.ins T.C_Moment dr (mf o h f q0 a0 c0 d0 0 0)) r = some (.ins T.C_Moment dr (mf o h f q0 a0 c0 d0 0 0)) := upd_same
  have s4 : Same H (upd H3 r (.ins T.C_Moment dr (mf o h f q0 a0 c0 d0 0 0))) := same_at nr s3
  generalize upd H3 r (.ins T.C_Moment dr (mf o h f q0 a0 c0 d0 0 0)) = H4 at e4 s4 ⊢
  have p4 := s4 _ _ ep
  refine ⟨_, rfl, p, _, dp, _, _, rfl, p4, T.cl_Moment, T.n_Moment_portions, mf_portions, _, rfl, r, _, dr, _, rfl, e4, T.cl_Moment, T.n_Moment_portions, few9, ?_⟩
  rw [ps_portions]
  have e5 : upd H4 r (.ins T.C_Moment dr (mf o h f q a0 c0 d0 0 0)) r = some (.ins T.C_Moment dr (mf o h f q a0 c0 d0 0 0)) := upd_same
  have s5 : Same H (upd H4 r (.ins T.C_Moment dr (mf o h f q a0 c0 d0 0 0))) := same_at nr s4
  generalize upd H4 r (.ins T.C_Moment dr (mf o h f q a0 c0 d0 0 0)) = H5 at e5 s5 ⊢
  have p5 := s5 _ _ ep
  refine ⟨_, rfl, p, _, dp, _, _, rfl, p5, T.cl_Moment, T.n_Moment_arrears, mf_arrears, _, rfl, r, _, dr, _, rfl, e5, T.cl_Moment, T.n_Moment_arrears, few9, ?_⟩
  rw [ps_arrears]
  have e6 : upd H5 r (.ins T.C_Moment dr (mf o h f q a c0 d0 0 0)) r = some (.ins T.C_Moment dr (mf o h f q a c0 d0 0 0)) := upd_same
  have s6 : Same H (upd H5 r (.ins T.C_Moment dr (mf o h f q a c0 d0 0 0))) := same_at nr s5
  generalize upd H5 r (.ins T.C_Moment dr (mf o h f q a c0 d0 0 0)) = H6 at e6 s6 ⊢
  have p6 := s6 _ _ ep
  refine ⟨_, rfl, p, _, dp, _, _, rfl, p6, T.cl_Moment, T.n_Moment_counts, mf_counts, _, rfl, r, _, dr, _, rfl, e6, T.cl_Moment, T.n_Moment_counts, few9, ?_⟩
  rw [ps_counts]
  have e7 : upd H6 r (.ins T.C_Moment dr (mf o h f q a c d0 0 0)) r = some (.ins T.C_Moment dr (mf o h f q a c d0 0 0)) := upd_same
  have s7 : Same H (upd H6 r (.ins T.C_Moment dr (mf o h f q a c d0 0 0))) := same_at nr s6
  generalize upd H6 r (.ins T.C_Moment dr (mf o h f q a c d0 0 0)) = H7 at e7 s7 ⊢
  have p7 := s7 _ _ ep
  refine ⟨_, rfl, p, _, dp, _, _, rfl, p7, T.cl_Moment, T.n_Moment_debts, mf_debts, _, rfl, r, _, dr, _, rfl, e7, T.cl_Moment, T.n_Moment_debts, few9, ?_⟩
  rw [ps_debts]
  have e8 : upd H7 r (.ins T.C_Moment dr (mf o h f q a c d 0 0)) r = some (.ins T.C_Moment dr (mf o h f q a c d 0 0)) := upd_same
  have s8 : Same H (upd H7 r (.ins T.C_Moment dr (mf o h f q a c d 0 0))) := same_at nr s7
  generalize upd H7 r (.ins T.C_Moment dr (mf o h f q a c d 0 0)) = H8 at e8 s8 ⊢
  have p8 := s8 _ _ ep
  refine ⟨_, rfl, p, _, dp, _, _, rfl, p8, T.cl_Moment, T.n_Moment_wet, mf_wet, _, rfl, r, _, dr, _, rfl, e8, T.cl_Moment, T.n_Moment_wet, few9, ?_⟩
  rw [ps_wet]
  have e9 : upd H8 r (.ins T.C_Moment dr (mf o h f q a c d ww 0)) r = some (.ins T.C_Moment dr (mf o h f q a c d ww 0)) := upd_same
  have s9 : Same H (upd H8 r (.ins T.C_Moment dr (mf o h f q a c d ww 0))) := same_at nr s8
  generalize upd H8 r (.ins T.C_Moment dr (mf o h f q a c d ww 0)) = H9 at e9 s9 ⊢
  have p9 := s9 _ _ ep
  refine ⟨_, rfl, p, _, dp, _, _, rfl, p9, T.cl_Moment, T.n_Moment_dry, mf_dry, _, rfl, r, _, dr, _, rfl, e9, T.cl_Moment, T.n_Moment_dry, few9, ?_⟩
  rw [ps_dry]
  have e10 : upd H9 r (.ins T.C_Moment dr (mf o h f q a c d ww y)) r = some (.ins T.C_Moment dr (mf o h f q a c d ww y)) := upd_same
  have s10 : Same H (upd H9 r (.ins T.C_Moment dr (mf o h f q a c d ww y))) := same_at nr s9
  generalize upd H9 r (.ins T.C_Moment dr (mf o h f q a c d ww y)) = H10 at e10 s10 ⊢
  exact ⟨_, rfl, qq _ _ s10 nr ⟨dr, e10⟩⟩

end
-- END like
abbrev N_joined : List Str := ["moment", "name", "part", "other"]
theorem sc_joined : FnScope N_joined ["moment", "name", "part"] (defScope s_joined) := ⟨rfl, rfl, rfl, by decide +kernel, rfl, by decide +kernel, by decide +kernel⟩
section
variable {P : Program} {w : World} {K : PySem.W.Frag} {mg : Str → Option Value} {base : Heap}
theorem ok_joined {k : Nat} (T : Env K w mg) : FnOk P w K mg base CX0 (k + 4) T.D_joined.f T.D_joined.fd ["moment", "name", "part"] (sp_joined K T.C_Moment) := by
  have G_like : FnOk P w K mg base CX0 3 T.D_like.f T.D_like.fd ["moment"] (sp_like T.C_Moment) := ok_like T
  refine T.D_joined.F.ok sc_joined (fun vs H Q E h => ?_) (fun cdv A outer s H vs Q E hr h => ?_)
  · obtain ⟨p, m, z, v, x, rfl, _⟩ := h
    rfl
  obtain ⟨p, m, z, v, x, rfl, ⟨o, h, f, q, a, c, d, ⟨dp, ep⟩, ls⟩, pv', l1, l2, l3, l4, l5, l6, qq⟩ := h
  refine ⟨_, (pss_cons (ps_set (i := 3) sc_joined.nd rfl (.inl rfl) (pe_call G_like (hr.mono (by omega)) (by rfl) T.D_like.g T.D_like.F.kp T.D_like.b .nil pass0 (pa_cons (pv 0) pa_nil)))
      (pss_cons (ps_fld (pv 3) (pe_op op_cat (pe_fld (pv 0) rfl) (pe_lst (pa_cons (pv 1) pa_nil))) rfl)
      (pss_cons (ps_fld (pv 3) (pe_op op_cat (pe_fld (pv 0) rfl) (pe_lst (pa_cons (pv 2) pa_nil))) rfl)
      (pss_cons (ps_fld (pv 3) (pe_op op_cat (pe_fld (pv 0) rfl) (pe_lst (pa_cons (pv 2) pa_nil))) rfl)
      (pss_cons (ps_fld (pv 3) (pe_op op_cat (pe_fld (pv 0) rfl) (pe_lst (pa_cons (pv 2) pa_nil))) rfl)
      (pss_cons (ps_fld (pv 3) (pe_op op_cat (pe_fld (pv 0) rfl) (pe_lst (pa_cons (pe_glob (v := .ref T.a_NOUGHT) (by rfl) T.m_NOUGHT rfl) pa_nil))) rfl)
      (pss_cons (ps_fld (pv 3) (pe_op op_cat (pe_fld (pv 0) rfl) (pe_lst (pa_cons pe_int pa_nil))) rfl)
      (pss_one (ps_ret (pv 3)))))))))), ?_⟩
  refine ⟨_, rfl, p, o, h, f, q, a, c, d, m.wet, m.dry, rfl, ⟨dp, ep⟩, fun H0 r s0 nr ⟨dr, e0⟩ => ?_⟩
  have eu0 := ls.ord
  have hl0 := List.length_map (f := V.str) (as := m.order)
  refine ⟨_, rfl, p, _, dp, _, _, rfl, s0 _ _ ep, T.cl_Moment, T.n_Moment_order, mf_order, _, rfl, (by show 1 ≤ sizeLine; decide), fun t0 ht0 => ?_⟩
  have st0 := same_upd (o := .lst [.str z]) ht0
  refine ⟨o, t0, (m.order.map V.str), [.str z], rfl, rfl, st0 _ _ (s0 _ _ eu0), upd_same, Nat.le_of_lt (small1000 (by show (m.order.map V.str).length + 1 ≤ 1000; omega)), fun no hno => ?_⟩
  have sn0 := same_upd (o := .lst ((m.order.map V.str) ++ [.str z])) hno
  have ne0 : r ≠ no := ne_of_none (st0 _ _ e0) hno
  refine ⟨_, rfl, r, _, dr, _, rfl, sn0 _ _ (st0 _ _ e0), T.cl_Moment, T.n_Moment_order, few9, ?_⟩
  rw [ps_order]
  have e1 : upd (upd (upd H0 t0 (.lst [.str z])) no (.lst ((m.order.map V.str) ++ [.str z]))) r (.ins T.C_Moment dr (mf no h f q a c d m.wet m.dry)) r = some (.ins T.C_Moment dr (mf no h f q a c d m.wet m.dry)) := upd_same
  have s1 : Same H (upd (upd (upd H0 t0 (.lst [.str z])) no (.lst ((m.order.map V.str) ++ [.str z]))) r (.ins T.C_Moment dr (mf no h f q a c d m.wet m.dry))) := same_at nr (s0.trans (st0.trans sn0))
  have k1 : ∀ b o, H0 b = some o → b ≠ r → upd (upd (upd H0 t0 (.lst [.str z])) no (.lst ((m.order.map V.str) ++ [.str z]))) r (.ins T.C_Moment dr (mf no h f q a c d m.wet m.dry)) b = some o := fun b o e nb => by
    rw [upd_ne nb]
    exact sn0 _ _ (st0 _ _ e)
  have go1 : upd (upd (upd H0 t0 (.lst [.str z])) no (.lst ((m.order.map V.str) ++ [.str z]))) r (.ins T.C_Moment dr (mf no h f q a c d m.wet m.dry)) no = some (.lst ((m.order.map V.str) ++ [.str z])) := by
    rw [upd_ne ne0.symm]
    exact upd_same
  generalize upd (upd (upd H0 t0 (.lst [.str z])) no (.lst ((m.order.map V.str) ++ [.str z]))) r (.ins T.C_Moment dr (mf no h f q a c d m.wet m.dry)) = H1 at e1 s1 k1 go1 ⊢
  obtain ⟨us1, eu1, hu1⟩ := ls.hol
  have hl1 := hu1.len
  refine ⟨_, rfl, p, _, dp, _, _, rfl, s1 _ _ ep, T.cl_Moment, T.n_Moment_holdings, mf_holdings, _, rfl, (by show 1 ≤ sizeLine; decide), fun t1 ht1 => ?_⟩
  have st1 := same_upd (o := .lst [v]) ht1
  refine ⟨h, t1, us1, [v], rfl, rfl, st1 _ _ (s1 _ _ eu1), upd_same, Nat.le_of_lt (small1000 (by show us1.length + 1 ≤ 1000; omega)), fun nh hnh => ?_⟩
  have sn1 := same_upd (o := .lst (us1 ++ [v])) hnh
  have ne1 : r ≠ nh := ne_of_none (st1 _ _ e1) hnh
  refine ⟨_, rfl, r, _, dr, _, rfl, sn1 _ _ (st1 _ _ e1), T.cl_Moment, T.n_Moment_holdings, few9, ?_⟩
  rw [ps_holdings]
  have e2 : upd (upd (upd H1 t1 (.lst [v])) nh (.lst (us1 ++ [v]))) r (.ins T.C_Moment dr (mf no nh f q a c d m.wet m.dry)) r = some (.ins T.C_Moment dr (mf no nh f q a c d m.wet m.dry)) := upd_same
  have s2 : Same H (upd (upd (upd H1 t1 (.lst [v])) nh (.lst (us1 ++ [v]))) r (.ins T.C_Moment dr (mf no nh f q a c d m.wet m.dry))) := same_at nr (s1.trans (st1.trans sn1))
  have k2 : ∀ b o, H1 b = some o → b ≠ r → upd (upd (upd H1 t1 (.lst [v])) nh (.lst (us1 ++ [v]))) r (.ins T.C_Moment dr (mf no nh f q a c d m.wet m.dry)) b = some o := fun b o e nb => by
    rw [upd_ne nb]
    exact sn1 _ _ (st1 _ _ e)
  have gh2 : upd (upd (upd H1 t1 (.lst [v])) nh (.lst (us1 ++ [v]))) r (.ins T.C_Moment dr (mf no nh f q a c d m.wet m.dry)) nh = some (.lst (us1 ++ [v])) := by
    rw [upd_ne ne1.symm]
    exact upd_same
  generalize upd (upd (upd H1 t1 (.lst [v])) nh (.lst (us1 ++ [v]))) r (.ins T.C_Moment dr (mf no nh f q a c d m.wet m.dry)) = H2 at e2 s2 k2 gh2 ⊢
  have go2 := k2 _ _ go1 (ne_of go1 e1 (by intro z; cases z))
  obtain ⟨us2, eu2, hu2⟩ := ls.fre
  have hl2 := hu2.len
  refine ⟨_, rfl, p, _, dp, _, _, rfl, s2 _ _ ep, T.cl_Moment, T.n_Moment_frees, mf_frees, _, rfl, (by show 1 ≤ sizeLine; decide), fun t2 ht2 => ?_⟩
  have st2 := same_upd (o := .lst [v]) ht2
  refine ⟨f, t2, us2, [v], rfl, rfl, st2 _ _ (s2 _ _ eu2), upd_same, Nat.le_of_lt (small1000 (by show us2.length + 1 ≤ 1000; omega)), fun nf hnf => ?_⟩
  have sn2 := same_upd (o := .lst (us2 ++ [v])) hnf
  have ne2 : r ≠ nf := ne_of_none (st2 _ _ e2) hnf
  refine ⟨_, rfl, r, _, dr, _, rfl, sn2 _ _ (st2 _ _ e2), T.cl_Moment, T.n_Moment_frees, few9, ?_⟩
  rw [ps_frees]
  have e3 : upd (upd (upd H2 t2 (.lst [v])) nf (.lst (us2 ++ [v]))) r (.ins T.C_Moment dr (mf no nh nf q a c d m.wet m.dry)) r = some (.ins T.C_Moment dr (mf no nh nf q a c d m.wet m.dry)) := upd_same
  have s3 : Same H (upd (upd (upd H2 t2 (.lst [v])) nf (.lst (us2 ++ [v]))) r (.ins T.C_Moment dr (mf no nh nf q a c d m.wet m.dry))) := same_at nr (s2.trans (st2.trans sn2))
  have k3 : ∀ b o, H2 b = some o → b ≠ r → upd (upd (upd H2 t2 (.lst [v])) nf (.lst (us2 ++ [v]))) r (.ins T.C_Moment dr (mf no nh nf q a c d m.wet m.dry)) b = some o := fun b o e nb => by
    rw [upd_ne nb]
    exact sn2 _ _ (st2 _ _ e)
  have gf3 : upd (upd (upd H2 t2 (.lst [v])) nf (.lst (us2 ++ [v]))) r (.ins T.C_Moment dr (mf no nh nf q a c d m.wet m.dry)) nf = some (.lst (us2 ++ [v])) := by
    rw [upd_ne ne2.symm]
    exact upd_same
  generalize upd (upd (upd H2 t2 (.lst [v])) nf (.lst (us2 ++ [v]))) r (.ins T.C_Moment dr (mf no nh nf q a c d m.wet m.dry)) = H3 at e3 s3 k3 gf3 ⊢
  have go3 := k3 _ _ go2 (ne_of go2 e2 (by intro z; cases z))
  have gh3 := k3 _ _ gh2 (ne_of gh2 e2 (by intro z; cases z))
  obtain ⟨us3, eu3, hu3⟩ := ls.por
  have hl3 := hu3.len
  refine ⟨_, rfl, p, _, dp, _, _, rfl, s3 _ _ ep, T.cl_Moment, T.n_Moment_portions, mf_portions, _, rfl, (by show 1 ≤ sizeLine; decide), fun t3 ht3 => ?_⟩
  have st3 := same_upd (o := .lst [v]) ht3
  refine ⟨q, t3, us3, [v], rfl, rfl, st3 _ _ (s3 _ _ eu3), upd_same, Nat.le_of_lt (small1000 (by show us3.length + 1 ≤ 1000; omega)), fun nq hnq => ?_⟩
  have sn3 := same_upd (o := .lst (us3 ++ [v])) hnq
  have ne3 : r ≠ nq := ne_of_none (st3 _ _ e3) hnq
  refine ⟨_, rfl, r, _, dr, _, rfl, sn3 _ _ (st3 _ _ e3), T.cl_Moment, T.n_Moment_portions, few9, ?_⟩
  rw [ps_portions]
  have e4 : upd (upd (upd H3 t3 (.lst [v])) nq (.lst (us3 ++ [v]))) r (.ins T.C_Moment dr (mf no nh nf nq a c d m.wet m.dry)) r = some (.ins T.C_Moment dr (mf no nh nf nq a c d m.wet m.dry)) := upd_same
  have s4 : Same H (upd (upd (upd H3 t3 (.lst [v])) nq (.lst (us3 ++ [v]))) r (.ins T.C_Moment dr (mf no nh nf nq a c d m.wet m.dry))) := same_at nr (s3.trans (st3.trans sn3))
  have k4 : ∀ b o, H3 b = some o → b ≠ r → upd (upd (upd H3 t3 (.lst [v])) nq (.lst (us3 ++ [v]))) r (.ins T.C_Moment dr (mf no nh nf nq a c d m.wet m.dry)) b = some o := fun b o e nb => by
    rw [upd_ne nb]
    exact sn3 _ _ (st3 _ _ e)
  have gq4 : upd (upd (upd H3 t3 (.lst [v])) nq (.lst (us3 ++ [v]))) r (.ins T.C_Moment dr (mf no nh nf nq a c d m.wet m.dry)) nq = some (.lst (us3 ++ [v])) := by
    rw [upd_ne ne3.symm]
    exact upd_same
  generalize upd (upd (upd H3 t3 (.lst [v])) nq (.lst (us3 ++ [v]))) r (.ins T.C_Moment dr (mf no nh nf nq a c d m.wet m.dry)) = H4 at e4 s4 k4 gq4 ⊢
  have go4 := k4 _ _ go3 (ne_of go3 e3 (by intro z; cases z))
  have gh4 := k4 _ _ gh3 (ne_of gh3 e3 (by intro z; cases z))
  have gf4 := k4 _ _ gf3 (ne_of gf3 e3 (by intro z; cases z))
  obtain ⟨us4, eu4, hu4⟩ := ls.arr
  have hl4 := hu4.len
  refine ⟨_, rfl, p, _, dp, _, _, rfl, s4 _ _ ep, T.cl_Moment, T.n_Moment_arrears, mf_arrears, (by show 1 ≤ sizeLine; decide), fun t4 ht4 => ?_⟩
  have st4 := same_upd (o := .lst [.ref T.a_NOUGHT]) ht4
  refine ⟨a, t4, us4, [.ref T.a_NOUGHT], rfl, rfl, st4 _ _ (s4 _ _ eu4), upd_same, Nat.le_of_lt (small1000 (by show us4.length + 1 ≤ 1000; omega)), fun na hna => ?_⟩
  have sn4 := same_upd (o := .lst (us4 ++ [.ref T.a_NOUGHT])) hna
  have ne4 : r ≠ na := ne_of_none (st4 _ _ e4) hna
  refine ⟨_, rfl, r, _, dr, _, rfl, sn4 _ _ (st4 _ _ e4), T.cl_Moment, T.n_Moment_arrears, few9, ?_⟩
  rw [ps_arrears]
  have e5 : upd (upd (upd H4 t4 (.lst [.ref T.a_NOUGHT])) na (.lst (us4 ++ [.ref T.a_NOUGHT]))) r (.ins T.C_Moment dr (mf no nh nf nq na c d m.wet m.dry)) r = some (.ins T.C_Moment dr (mf no nh nf nq na c d m.wet m.dry)) := upd_same
  have s5 : Same H (upd (upd (upd H4 t4 (.lst [.ref T.a_NOUGHT])) na (.lst (us4 ++ [.ref T.a_NOUGHT]))) r (.ins T.C_Moment dr (mf no nh nf nq na c d m.wet m.dry))) := same_at nr (s4.trans (st4.trans sn4))
  have k5 : ∀ b o, H4 b = some o → b ≠ r → upd (upd (upd H4 t4 (.lst [.ref T.a_NOUGHT])) na (.lst (us4 ++ [.ref T.a_NOUGHT]))) r (.ins T.C_Moment dr (mf no nh nf nq na c d m.wet m.dry)) b = some o := fun b o e nb => by
    rw [upd_ne nb]
    exact sn4 _ _ (st4 _ _ e)
  have ga5 : upd (upd (upd H4 t4 (.lst [.ref T.a_NOUGHT])) na (.lst (us4 ++ [.ref T.a_NOUGHT]))) r (.ins T.C_Moment dr (mf no nh nf nq na c d m.wet m.dry)) na = some (.lst (us4 ++ [.ref T.a_NOUGHT])) := by
    rw [upd_ne ne4.symm]
    exact upd_same
  generalize upd (upd (upd H4 t4 (.lst [.ref T.a_NOUGHT])) na (.lst (us4 ++ [.ref T.a_NOUGHT]))) r (.ins T.C_Moment dr (mf no nh nf nq na c d m.wet m.dry)) = H5 at e5 s5 k5 ga5 ⊢
  have go5 := k5 _ _ go4 (ne_of go4 e4 (by intro z; cases z))
  have gh5 := k5 _ _ gh4 (ne_of gh4 e4 (by intro z; cases z))
  have gf5 := k5 _ _ gf4 (ne_of gf4 e4 (by intro z; cases z))
  have gq5 := k5 _ _ gq4 (ne_of gq4 e4 (by intro z; cases z))
  have eu5 := ls.cou
  have hl5 := List.length_map (f := V.int) (as := m.cnt)
  refine ⟨_, rfl, p, _, dp, _, _, rfl, s5 _ _ ep, T.cl_Moment, T.n_Moment_counts, mf_counts, (by show 1 ≤ sizeLine; decide), fun t5 ht5 => ?_⟩
  have st5 := same_upd (o := .lst [.int 0]) ht5
  refine ⟨c, t5, (m.cnt.map V.int), [.int 0], rfl, rfl, st5 _ _ (s5 _ _ eu5), upd_same, Nat.le_of_lt (small1000 (by show (m.cnt.map V.int).length + 1 ≤ 1000; omega)), fun nc hnc => ?_⟩
  have sn5 := same_upd (o := .lst ((m.cnt.map V.int) ++ [.int 0])) hnc
  have ne5 : r ≠ nc := ne_of_none (st5 _ _ e5) hnc
  refine ⟨_, rfl, r, _, dr, _, rfl, sn5 _ _ (st5 _ _ e5), T.cl_Moment, T.n_Moment_counts, few9, ?_⟩
  rw [ps_counts]
  have e6 : upd (upd (upd H5 t5 (.lst [.int 0])) nc (.lst ((m.cnt.map V.int) ++ [.int 0]))) r (.ins T.C_Moment dr (mf no nh nf nq na nc d m.wet m.dry)) r = some (.ins T.C_Moment dr (mf no nh nf nq na nc d m.wet m.dry)) := upd_same
  have s6 : Same H (upd (upd (upd H5 t5 (.lst [.int 0])) nc (.lst ((m.cnt.map V.int) ++ [.int 0]))) r (.ins T.C_Moment dr (mf no nh nf nq na nc d m.wet m.dry))) := same_at nr (s5.trans (st5.trans sn5))
  have k6 : ∀ b o, H5 b = some o → b ≠ r → upd (upd (upd H5 t5 (.lst [.int 0])) nc (.lst ((m.cnt.map V.int) ++ [.int 0]))) r (.ins T.C_Moment dr (mf no nh nf nq na nc d m.wet m.dry)) b = some o := fun b o e nb => by
    rw [upd_ne nb]
    exact sn5 _ _ (st5 _ _ e)
  have gc6 : upd (upd (upd H5 t5 (.lst [.int 0])) nc (.lst ((m.cnt.map V.int) ++ [.int 0]))) r (.ins T.C_Moment dr (mf no nh nf nq na nc d m.wet m.dry)) nc = some (.lst ((m.cnt.map V.int) ++ [.int 0])) := by
    rw [upd_ne ne5.symm]
    exact upd_same
  generalize upd (upd (upd H5 t5 (.lst [.int 0])) nc (.lst ((m.cnt.map V.int) ++ [.int 0]))) r (.ins T.C_Moment dr (mf no nh nf nq na nc d m.wet m.dry)) = H6 at e6 s6 k6 gc6 ⊢
  have go6 := k6 _ _ go5 (ne_of go5 e5 (by intro z; cases z))
  have gh6 := k6 _ _ gh5 (ne_of gh5 e5 (by intro z; cases z))
  have gf6 := k6 _ _ gf5 (ne_of gf5 e5 (by intro z; cases z))
  have gq6 := k6 _ _ gq5 (ne_of gq5 e5 (by intro z; cases z))
  have ga6 := k6 _ _ ga5 (ne_of ga5 e5 (by intro z; cases z))
  have hp := pv'.same s6
  have hno := T.p_NOUGHT H6
  obtain ⟨vd, ed, hd⟩ := ls.deb
  refine ⟨_, rfl, qq _ _ s6 nr ⟨no, nh, nf, nq, na, nc, d, ⟨dr, e6⟩, ?_⟩⟩
  refine ⟨?_, ⟨_, gh6, (hu1.same s6).snoc hp⟩, ⟨_, gf6, (hu2.same s6).snoc hp⟩, ⟨_, gq6, (hu3.same s6).snoc hp⟩, ⟨_, ga6, (hu4.same s6).snoc hno⟩, ?_, vd, s6 _ _ ed, hd.same s6⟩
  · rw [go6]
    show _ = some (HO.lst ((m.order ++ [z]).map V.str))
    rw [List.map_append]
    rfl
  · rw [gc6]
    show _ = some (HO.lst ((m.cnt ++ [0]).map V.int))
    rw [List.map_append]
    rfl

end
-- END joined
abbrev N_begun : List Str := ["first"]
theorem sc_begun : FnScope N_begun ["first"] (defScope s_begun) := ⟨rfl, rfl, rfl, by decide +kernel, rfl, by decide +kernel, by decide +kernel⟩
section
variable {P : Program} {w : World} {K : PySem.W.Frag} {mg : Str → Option Value} {base : Heap}
theorem ok_begun {k : Nat} (T : Env K w mg) : FnOk P w K mg base CX0 (k + 5) T.D_begun.f T.D_begun.fd ["first"] (sp_begun K T.C_Moment) := by
  have G_joined : FnOk P w K mg base CX0 4 T.D_joined.f T.D_joined.fd ["moment", "name", "part"] (sp_joined K T.C_Moment) := ok_joined T
  have G_Moment___init__ : FnOk P w K mg base CX0 1 T.D_Moment___init__.f T.D_Moment___init__.fd ["self"] (sp_MInit K T.C_Moment) := ok_Moment___init__ T
  refine T.D_begun.F.ok sc_begun (fun vs H Q E h => ?_) (fun cdv A outer s H vs Q E hr h => ?_)
  · obtain ⟨z, rfl, _⟩ := h
    rfl
  obtain ⟨z, rfl, qq⟩ := h
  refine ⟨_, (pss_one (ps_ret (pe_call G_joined (hr.mono (by omega)) (by rfl) T.D_joined.g T.D_joined.F.kp T.D_joined.b .nil pass0 (pa_cons (pe_make0 T.mk_Moment G_Moment___init__ (hr.mono (by omega)) (by rfl) T.g_Moment T.D_Moment___init__.b .nil pass0) (pa_cons (pv 0) (pa_cons (pe_glob (v := .ref T.a_WHOLE) (by rfl) T.m_WHOLE rfl) pa_nil)))))), ?_⟩
  intro r dr nr ndr ner
  have s0 : Same H (upd (upd H dr (.own r)) r (.ins T.C_Moment dr [])) := fun b x e => by
    rw [upd_ne (ne_of_none e nr), upd_ne (ne_of_none e ndr)]
    exact e
  refine ⟨H, r, dr, rfl, s0, nr, upd_same, fun H1 o h f q a c d s1 e1 ls => ⟨rfl, ?_⟩⟩
  refine ⟨_, rfl, r, mo0, z, _, (1, 1), rfl, ⟨o, h, f, q, a, c, d, ⟨dr, e1⟩, ls⟩, T.p_WHOLE H1, ?_⟩
  exact ⟨by decide, by decide, by decide, by decide, by decide, by decide, fun H2 r2 s2 n2 m2 => qq _ _ (s1.trans s2) (s1.free n2) m2⟩

end
-- END begun
abbrev N_is_name : List Str := ["text", "sign"]
theorem sc_is_name : FnScope N_is_name ["text"] (defScope s_is_name) := ⟨rfl, rfl, rfl, by decide +kernel, rfl, by decide +kernel, by decide +kernel⟩
section
variable {P : Program} {w : World} {K : PySem.W.Frag} {mg : Str → Option Value} {base : Heap}
theorem ok_is_name {k : Nat} (T : Env K w mg) : FnOk P w K mg base CX0 (k + 1) T.D_is_name.f T.D_is_name.fd ["text"] sp_name := by
  refine T.D_is_name.F.ok sc_is_name (fun vs H Q E h => ?_) (fun cdv A outer s H vs Q E hr h => ?_)
  · obtain ⟨z, rfl, _⟩ := h
    rfl
  obtain ⟨z, rfl, hz, q⟩ := h
  refine ⟨_, (pss_cons (ps_if (PW.pt (pw_or (pt_cmpR op_eq (pv 0) pe_str (nomark _)) (pw_or1 (pt_cmpR op_gt (pe_callB call_len (by rfl) T.m_len PySem.boot_len (pa_cons (pv 0) pa_nil)) (pe_glob (v := .int 8) (by rfl) T.m_LONGEST_NAME ⟨_, rfl⟩) (nomark _))))) (pss_one (ps_ret pe_bl)) pss_nil)
      (pss_one (ps_ret (pe_callB (cr_all rfl) (by rfl) T.m_all PyProof.Rows.boot_all (pa_cons (pe_lc (own := [("sign", 1)]) (g := gName 1) (tt := tYes) rfl sc_is_name.nd (pi_str (pv 0)) (blkOk_by (N := N_is_name) (sc := defScope s_is_name) (by decide +kernel)) (fun _ _ _ _ _ => pg_name (i := 1) sc_is_name.nd rfl (Or.inl rfl)) (fun _ _ _ _ _ => pts_nil) (fun _ _ _ _ _ => (pe_cmpR op_in_sign (pv 1) (pe_glob (v := .str "abcdefghijklmnopqrstuvwxyz") (by rfl) T.m_LETTERS ⟨_, rfl⟩) (by rfl)))) pa_nil))))), ?_⟩
  have hzl : z.length ≤ sizeLine := Nat.le_of_lt (small1000 hz)
  refine ⟨_, rfl, rfl, _, rfl, ite2 (fun e => ?_) (fun e => ?_)⟩
  · have e1 : z = ("" : Str) := V.str.inj (of_decide_eq_true e)
    refine iteT ?_
    have e2 : nameB z = false := by
      rw [e1]
      rfl
    have := q H (Same.refl _)
    rw [e2] at this
    exact this
  have hne : tl z ≠ [] := fun e1 => e (decide_eq_true (congrArg V.str (ext_tl (y := ("" : Str)) e1)))
  have h1 : 1 ≤ (tl z).length := by
    cases h : tl z with
    | nil => exact absurd h hne
    | cons => rw [List.length_cons]; omega
  refine ⟨_, rfl, _, z.length, rfl, ⟨hzl, rfl⟩, _, _, rfl, rfl, _, rfl, ite2 (fun e1 => ?_) (fun e1 => ?_)⟩
  · have h4 : 8 < (tl z).length := by
      have := of_decide_eq_true e1
      rw [← len_tl]
      omega
    have e2 : nameB z = false := by
      unfold nameB
      rw [decide_eq_false (show ¬ (tl z).length ≤ 8 by omega)]
      simp
    have := q H (Same.refl _)
    rw [e2] at this
    exact this
  have h4 : (tl z).length ≤ 8 := by
    have h5 : ¬ (8 : Int) < ((z.length : Nat) : Int) := fun z => e1 (decide_eq_true z)
    rw [← len_tl]
    omega
  refine ⟨_, rfl, z, rfl, fun Dd hD => ?_⟩
  refine lc_it walk_str (fun i H' => H' Dd = some (.lst ((((tl z).take i).map fun c => decide (c ∈ lets)).map V.bl)) ∧ Same H H') ⟨upd_same, same_upd hD⟩ (fun _ _ _ _ => True.intro) (fun i x H' H'' hi hW hy => ?_) (fun H' hW => ?_)
  · obtain ⟨eD, sm⟩ := hW
    obtain ⟨rfl, c1, hc1, rfl⟩ := hy
    refine ⟨rfl, ?_⟩
    dsimp only [tYes]
    rw [if_pos rfl]
    refine ⟨_, rfl, c1, _, rfl, rfl, _, eD, ?_, ?_, same_at hD sm⟩
    · rw [List.length_map, List.length_map, List.length_take]
      exact Nat.lt_of_le_of_lt (Nat.min_le_right _ _) (small1000 (by omega))
    · rw [upd_same, lets_take hc1, show (("abcdefghijklmnopqrstuvwxyz" : Str)).cps.toList = lets from tl_lets, List.map_append]
      rfl
  · obtain ⟨eD, sm⟩ := hW
    rw [tl_all] at eD
    refine ⟨Dd, _, rfl, SqL.of eD, ?_⟩
    have e9 : (((tl z).map fun c => decide (c ∈ lets)).all id) = nameB z := by
      unfold nameB
      rw [decide_eq_true h1, decide_eq_true h4, List.all_map]
      rfl
    rw [e9]
    exact q _ sm

end
-- END is_name
abbrev N_Ditch___init__ : List Str := ["self", "first"]
theorem sc_Ditch___init__ : FnScope N_Ditch___init__ ["self", "first"] (defScope s_Ditch___init__) := ⟨rfl, rfl, rfl, by decide +kernel, rfl, by decide +kernel, by decide +kernel⟩
section
variable {P : Program} {w : World} {K : PySem.W.Frag} {mg : Str → Option Value} {base : Heap}
theorem ok_Ditch___init__ {k : Nat} (T : Env K w mg) : FnOk P w K mg base (L2N.CX P w) (k + 6) T.D_Ditch___init__.f T.D_Ditch___init__.fd ["self", "first"] (sp_DInit K T.C_Moment T.C_Ditch T.A_BadName) := by
  have G_is_name : FnOk P w K mg base CX0 5 T.D_is_name.f T.D_is_name.fd ["text"] sp_name := ok_is_name T
  have G_begun : FnOk P w K mg base CX0 5 T.D_begun.f T.D_begun.fd ["first"] (frm (sp_begun K T.C_Moment)) := fn_frame (ok_begun T)
  refine okN_of T.D_Ditch___init__.F sc_Ditch___init__ (fun vs H Q E h => ?_) (fun cdv A outer s H vs Q E hr h => ?_)
  · obtain ⟨H0, d, dx, z, rfl, _⟩ := h
    rfl
  obtain ⟨H0, d, dx, z, rfl, hz, s0, nd, ndx, hdx, e0, o0, q, qe⟩ := h
  refine ⟨_, (pss_cons (ps_if (pt_not (pt_val (pe_call G_is_name (hr.mono (by omega)) (by rfl) T.D_is_name.g T.D_is_name.F.kp T.D_is_name.b .nil pass0 (pa_cons (pv 1) pa_nil)))) (pss_one (L2N.ps_raise rfl (L2N.takes_of rfl rfl rfl rfl) (L2N.pmk_own PySem.F.excBase_ValueError T.X_BadName.xx T.X_BadName.g T.X_BadName.k (raises_own T.X_BadName.b T.X_BadName.t) rfl))) pss_nil)
      (pss_cons (ps_fld (pv 0) (pe_call G_begun (hr.mono (by omega)) (by rfl) T.D_begun.g T.D_begun.F.kp T.D_begun.b .nil pass0 (pa_cons (pv 1) pa_nil)) rfl)
      (pss_cons (ps_fld (pv 0) (pe_lst pa_nil) rfl)
      (pss_one (ps_fld (pv 0) (pe_lst pa_nil) rfl))))), ?_⟩
  refine ⟨_, rfl, z, rfl, hz, fun H1 s1 => ⟨_, rfl, ?_⟩⟩
  cases e : nameB z with
  | false =>
    refine iteT ?_
    exact qe e _ (s0.trans s1)
  | true =>
    refine iteF ?_
    have e1 := s1 _ _ e0
    have o1 := s1 _ _ o0
    have as1 : Aside H1 [d, dx] := fun b hb => by
      rcases List.mem_cons.1 hb with rfl | hb
      · exact .inr (.inr (.inl ⟨_, _, _, e1, by simp⟩))
      · rw [List.mem_singleton.1 hb]
        exact .inr (.inr (.inr ⟨_, o1, by simp⟩))
    refine ⟨_, rfl, [d, dx], as1, z, rfl, fun G n s2 nn mn hn => ?_⟩
    have gd : G d = none := hn d (by simp)
    have gdx : G dx = none := hn dx (by simp)
    have e2 : glue [d, dx] H1 G d = some (.ins T.C_Ditch dx []) := by rw [glue_in (by simp)]; exact e1
    have o2 : glue [d, dx] H1 G dx = some (.own d) := by rw [glue_in (by simp)]; exact o1
    have sG : Same G (glue [d, dx] H1 G) := fun b x eb => by
      rw [glue_out (fun z => by rw [hn b z] at eb; cases eb)]
      exact eb
    have s02 : Same H0 G := (same_del (s0.trans s1) (fun b hb => by
      rcases List.mem_cons.1 hb with rfl | hb
      · exact nd
      · rw [List.mem_singleton.1 hb]
        exact ndx)).trans s2
    have out2 : ∀ b, glue [d, dx] H1 G b = none → b ≠ d ∧ b ≠ dx ∧ G b = none := fun b hb => by
      have h1 : b ≠ d := fun z => by rw [z, e2] at hb; cases hb
      have h2 : b ≠ dx := fun z => by rw [z, o2] at hb; cases hb
      rw [glue_out (by simp [h1, h2])] at hb
      exact ⟨h1, h2, hb⟩
    generalize glue [d, dx] H1 G = H2 at e2 o2 sG out2 ⊢
    refine ⟨_, rfl, d, _, dx, _, rfl, e2, T.cl_Ditch, T.n_Ditch_now, (by show 0 < 1000; decide), ?_⟩
    refine ⟨Nat.zero_le _, fun p np => ?_⟩
    have npd : p ≠ d := fun z => by rw [z, upd_same] at np; cases np
    rw [upd_ne npd] at np
    obtain ⟨_, npdx, gp⟩ := out2 p np
    refine ⟨_, rfl, d, _, dx, _, rfl, (by rw [upd_ne (Ne.symm npd)]; exact upd_same), T.cl_Ditch, T.n_Ditch_past, (by show 1 < 1000; decide), ?_⟩
    refine ⟨Nat.zero_le _, fun u nu => ?_⟩
    have nud : u ≠ d := fun z => by rw [z, upd_same] at nu; cases nu
    rw [upd_ne nud] at nu
    have nup : u ≠ p := fun z => by rw [z, upd_same] at nu; cases nu
    rw [upd_ne nup, upd_ne nud] at nu
    obtain ⟨_, nudx, gu⟩ := out2 u nu
    refine ⟨_, rfl, d, _, dx, _, rfl, (by rw [upd_ne (Ne.symm nud)]; exact upd_same), T.cl_Ditch, T.n_Ditch_undone, (by show 2 < 1000; decide), ?_⟩
    have fin : ∀ b x, H2 b = some x → b ≠ d → b ≠ p → b ≠ u → upd (upd (upd (upd (upd H2 d (.ins T.C_Ditch dx [(("now" : Str), V.ref n)])) p (.lst [])) d (.ins T.C_Ditch dx [(("now" : Str), V.ref n), (("past" : Str), V.ref p)])) u (.lst [])) d (.ins T.C_Ditch dx (df n p u)) b = some x := fun b x eb h1 h2 h3 => by
      rw [upd_ne h1, upd_ne h3, upd_ne h1, upd_ne h2, upd_ne h1]
      exact eb
    have fp : upd (upd (upd (upd (upd H2 d (.ins T.C_Ditch dx [(("now" : Str), V.ref n)])) p (.lst [])) d (.ins T.C_Ditch dx [(("now" : Str), V.ref n), (("past" : Str), V.ref p)])) u (.lst [])) d (.ins T.C_Ditch dx (df n p u)) p = some (.lst []) := by
      rw [upd_ne npd, upd_ne (Ne.symm nup), upd_ne npd]
      exact upd_same
    have fu : upd (upd (upd (upd (upd H2 d (.ins T.C_Ditch dx [(("now" : Str), V.ref n)])) p (.lst [])) d (.ins T.C_Ditch dx [(("now" : Str), V.ref n), (("past" : Str), V.ref p)])) u (.lst [])) d (.ins T.C_Ditch dx (df n p u)) u = some (.lst []) := by
      rw [upd_ne nud]
      exact upd_same
    have fd' : upd (upd (upd (upd (upd H2 d (.ins T.C_Ditch dx [(("now" : Str), V.ref n)])) p (.lst [])) d (.ins T.C_Ditch dx [(("now" : Str), V.ref n), (("past" : Str), V.ref p)])) u (.lst [])) d (.ins T.C_Ditch dx (df n p u)) d = some (.ins T.C_Ditch dx (df n p u)) := upd_same
    refine (?_ : Q V.non (upd (upd (upd (upd (upd H2 d (.ins T.C_Ditch dx [(("now" : Str), V.ref n)])) p (.lst [])) d (.ins T.C_Ditch dx [(("now" : Str), V.ref n), (("past" : Str), V.ref p)])) u (.lst [])) d (.ins T.C_Ditch dx (df n p u))))
    generalize upd (upd (upd (upd (upd H2 d (.ins T.C_Ditch dx [(("now" : Str), V.ref n)])) p (.lst [])) d (.ins T.C_Ditch dx [(("now" : Str), V.ref n), (("past" : Str), V.ref p)])) u (.lst [])) d (.ins T.C_Ditch dx (df n p u)) = H7 at fin fp fu fd' ⊢
    have sG7 : Same G (del (mu d dx p u) H7) := fun b x eb => by
      have h1 : b ≠ d := fun z => by rw [z, gd] at eb; cases eb
      have h2 : b ≠ dx := fun z => by rw [z, gdx] at eb; cases eb
      have h3 : b ≠ p := fun z => by rw [z, gp] at eb; cases eb
      have h4 : b ≠ u := fun z => by rw [z, gu] at eb; cases eb
      rw [del_out (by simp [h1, h2, h3, h4])]
      exact fin b x (sG _ _ eb) h1 h3 h4
    refine q e H7 n p u (s02.trans (sG7.trans del_same)) (s02.free gp) (s02.free gu) ⟨fd', fin _ _ o2 (Ne.symm hdx) (Ne.symm npdx) (Ne.symm nudx), fp, fu, Ne.symm nup, ?_⟩
    exact mn.same sG7

end
-- END Ditch___init__
abbrev N_common : List Str := ["a", "b"]
theorem sc_common : FnScope N_common ["a", "b"] (defScope s_common) := ⟨rfl, rfl, rfl, by decide +kernel, rfl, by decide +kernel, by decide +kernel⟩
section
variable {P : Program} {w : World} {K : PySem.W.Frag} {mg : Str → Option Value} {base : Heap}
def sp_common : Sp := fun vs H Q _ => ∃ a b : Int, vs = [.int a, .int b] ∧ 0 < b ∧ Q (.int (gc a b)) H
theorem ok_common {k : Nat} (D : Df K mg "common" s_common ["a", "b"]) : FnOk P w K mg base CX0 (k + 1) D.f D.fd ["a", "b"] sp_common := by
  refine D.F.ok sc_common (fun vs H Q E h => ?_) (fun cdv A outer s H vs Q E hr h => ?_)
  · obtain ⟨a, b, rfl, _⟩ := h
    rfl
  · obtain ⟨a, b, rfl, hb, q⟩ := h
    refine ⟨_, (pss_cons (ps_while PassesOwn.never (pt_cmpR op_gt (pv 1) pe_int (nomark _)) (pss_one (ps_par (i := 0) (j := 1) (by rfl) sc_common.nd rfl rfl (by decide) rfl rfl (pa_cons (pv 1) (pa_cons (pe_op op_mod (pv 0) (pv 1)) pa_nil)) (by rfl))))
      (pss_one (ps_ret (pv 0)))), ?_⟩
    refine while_by (fun σ H' => ∃ x y : Int, σ = [some (.int x), some (.int y)] ∧ H' = H ∧ 0 ≤ y ∧ Int.gcd x y = Int.gcd a b ∧ (y = 0 → 0 ≤ x))
      (fun σ _ => match σ with | [_, some (.int y)] => y.toNat | _ => 0) ⟨a, b, rfl, rfl, by omega, rfl, by omega⟩ ?_ ?_
    · rintro σ H' ⟨x, y, rfl, rfl, h0, hg, hz⟩
      refine ⟨_, rfl, _, _, rfl, rfl, _, rfl, ite2 (fun e => ?_) (fun e => ?_)⟩
      · have e1 : 0 < y := of_decide_eq_true e
        refine ⟨_, rfl, _, rfl, _, rfl, _, _, rfl, rfl, e1, _, _, rfl, ⟨y, x % y, rfl, rfl, Int.emod_nonneg x (by omega), gc_step.trans hg, fun _ => by omega⟩, ?_⟩
        show (x % y).toNat < y.toNat
        have := Int.emod_lt_of_pos x e1
        have := Int.emod_nonneg x (show y ≠ 0 by omega)
        omega
      · have e1 : ¬ 0 < y := fun z => e (decide_eq_true z)
        have e2 : y = 0 := by omega
        subst e2
        refine ⟨_, rfl, ?_⟩
        have e3 : x = gc a b := by
          unfold gc
          rw [← hg, Int.gcd_zero]
          have := hz rfl
          omega
        rw [e3]
        exact q
    · rintro σ H' Q1 Q2 hq ⟨v, e, i, j, e1, e2, c, e3, r⟩
      exact ⟨v, e, i, j, e1, e2, c, e3, hq _ _ r⟩

end
-- END common
abbrev N_lowest : List Str := ["top", "bottom", "shared"]
theorem sc_lowest : FnScope N_lowest ["top", "bottom"] (defScope s_lowest) := ⟨rfl, rfl, rfl, by decide +kernel, rfl, by decide +kernel, by decide +kernel⟩
section
variable {P : Program} {w : World} {K : PySem.W.Frag} {mg : Str → Option Value} {base : Heap}
theorem ok_lowest {k : Nat} (D : Df K mg "lowest" s_lowest ["top", "bottom"]) (D_common : Df K mg "common" s_common ["a", "b"]) : FnOk P w K mg base CX0 (k + 2) D.f D.fd ["top", "bottom"] (sp_lowest K) := by
  have G_common : FnOk P w K mg base CX0 1 D_common.f D_common.fd ["a", "b"] sp_common := ok_common D_common
  refine D.F.ok sc_lowest (fun vs H Q E h => ?_) (fun cdv A outer s H vs Q E hr h => ?_)
  · obtain ⟨a, b, rfl, _⟩ := h
    rfl
  · obtain ⟨t, b, rfl, hb, hB, q⟩ := h
    refine ⟨_, (pss_cons (ps_set (i := 2) sc_lowest.nd rfl (.inl rfl) (pe_call G_common (hr.mono (by omega)) (by rfl) D_common.g D_common.F.kp D_common.b .nil pass0 (pa_cons (pv 0) (pa_cons (pv 1) pa_nil))))
      (pss_one (ps_ret (pe_tup (pa_cons (pe_op op_fdivW (pv 0) (pv 2)) (pa_cons (pe_op op_fdivW (pv 1) (pv 2)) pa_nil)))))), ?_⟩
    have hg := gc_pos (a := t) hb
    have hk := hB.gc (x := t) hb
    refine ⟨_, rfl, _, rfl, t, b, rfl, hb, ?_⟩
    refine ⟨_, rfl, _, rfl, _, _, rfl, rfl, bd_divok hg hk (by decide), _, rfl, _, rfl, _, _, rfl, rfl, bd_divok hg hk (by decide), (by show 2 ≤ sizeLine; decide), fun p hp => ?_⟩
    exact q _ _ (same_upd hp) Pr.new

end
-- END lowest
abbrev N_plus : List Str := ["a", "b", "shared", "rest", "top", "again"]
theorem sc_plus : FnScope N_plus ["a", "b"] (defScope s_plus) := ⟨rfl, rfl, rfl, by decide +kernel, rfl, by decide +kernel, by decide +kernel⟩
section
variable {P : Program} {w : World} {K : PySem.W.Frag} {mg : Str → Option Value} {base : Heap}
theorem ok_plus {k : Nat} (D : Df K mg "plus" s_plus ["a", "b"]) (D_common : Df K mg "common" s_common ["a", "b"]) : FnOk P w K mg base CX0 (k + 2) D.f D.fd ["a", "b"] (sp_two K lowC addP) := by
  have G_common : FnOk P w K mg base CX0 1 D_common.f D_common.fd ["a", "b"] sp_common := ok_common D_common
  refine D.F.ok sc_plus (fun vs H Q E h => len_two h) (fun cdv A outer s H vs Q E hr h => ?_)
  obtain ⟨v, u, x, y, n, m, rfl, ⟨p, rfl, hp⟩, ⟨r, rfl, hq⟩, ox, oy, hn, ⟨lx, ly⟩, q⟩ := h
  refine ⟨_, (pss_cons (ps_set (i := 2) sc_plus.nd rfl (.inl rfl) (pe_call G_common (hr.mono (by omega)) (by rfl) D_common.g D_common.F.kp D_common.b .nil pass0 (pa_cons (pe_ix ix_tup (pv 0) pe_int (fun _ _ => rfl)) (pa_cons (pe_ix ix_tup (pv 1) pe_int (fun _ _ => rfl)) pa_nil))))
      (pss_cons (ps_set (i := 3) sc_plus.nd rfl (.inl rfl) (pe_op op_fdivW (pe_ix ix_tup (pv 0) pe_int (fun _ _ => rfl)) (pv 2)))
      (pss_cons (ps_set (i := 4) sc_plus.nd rfl (.inl rfl) (pe_op op_add (pe_op op_mulW (pe_ix ix_tup (pv 0) pe_int (fun _ _ => rfl)) (pe_op op_fdivW (pe_ix ix_tup (pv 1) pe_int (fun _ _ => rfl)) (pv 2))) (pe_op op_mulW (pe_ix ix_tup (pv 1) pe_int (fun _ _ => rfl)) (pv 3))))
      (pss_cons (ps_set (i := 5) sc_plus.nd rfl (.inl rfl) (pe_call G_common (hr.mono (by omega)) (by rfl) D_common.g D_common.F.kp D_common.b .nil pass0 (pa_cons (pv 4) (pa_cons (pv 2) pa_nil))))
      (pss_one (ps_ret (pe_tup (pa_cons (pe_op op_fdivW (pv 4) (pv 5)) (pa_cons (pe_op op_mulW (pv 3) (pe_op op_fdivW (pe_ix ix_tup (pv 1) pe_int (fun _ _ => rfl)) (pv 5))) pa_nil))))))))), ?_⟩
  have hs := gc_pos (a := x.2) oy.pos
  have bs := oy.bot.gc (x := x.2) oy.pos
  have br := ox.bot.div (gc_dl x.2 y.2)
  have bt := (ox.top.mul (oy.bot.div (gc_dr x.2 y.2))).add ((oy.top.mul br).mono (show m + n ≤ n + m by omega))
  have hg := gc_pos (a := x.1 * (y.2 / gc x.2 y.2) + y.1 * (x.2 / gc x.2 y.2)) hs
  have bg := bs.gc (x := x.1 * (y.2 / gc x.2 y.2) + y.1 * (x.2 / gc x.2 y.2)) hs
  have gd : gc (x.1 * (y.2 / gc x.2 y.2) + y.1 * (x.2 / gc x.2 y.2)) (gc x.2 y.2) ∣ y.2 := Int.dvd_trans (gc_dr _ _) (gc_dr _ _)
  refine ⟨_, rfl, p, _, 1, _, rfl, rfl, hp, rfl, _, rfl, r, _, 1, _, rfl, rfl, hq, rfl, _, _, rfl, oy.pos, ?_⟩
  refine ⟨_, rfl, p, _, 1, _, rfl, rfl, hp, rfl, _, rfl, _, _, rfl, rfl, bd_divok hs bs (by omega), ?_⟩
  refine ⟨_, rfl, p, _, 0, _, rfl, rfl, hp, rfl, _, rfl, r, _, 1, _, rfl, rfl, hq, rfl, _, rfl, _, _, rfl, rfl, bd_divok hs bs (by omega), _, _, rfl, rfl, bd_mulok ox.top (oy.bot.div (gc_dr x.2 y.2)) (by omega), _, rfl, r, _, 0, _, rfl, rfl, hq, rfl, _, rfl, _, _, rfl, rfl, bd_mulok oy.top br (by omega), _, _, rfl, rfl, ?_⟩
  refine ⟨_, rfl, _, rfl, _, _, rfl, hs, ?_⟩
  refine ⟨_, rfl, _, rfl, _, _, rfl, rfl, bd_divok hg bg (by omega), _, rfl, _, rfl, r, _, 1, _, rfl, rfl, hq, rfl, _, rfl, _, _, rfl, rfl, bd_divok hg bg (by omega), _, _, rfl, rfl, bd_mulok br (oy.bot.div gd) (by omega), (by show 2 ≤ sizeLine; decide), fun t ht => ?_⟩
  refine q _ _ (same_upd ht) ?_
  obtain ⟨e1, e2⟩ := plus_is lx ly
  show Pr K _ _ (addP x y).1 (addP x y).2
  unfold addP lowP
  dsimp only
  rw [← e1, ← e2]
  exact Pr.new

end
-- END plus
abbrev N_minus : List Str := ["a", "b"]
theorem sc_minus : FnScope N_minus ["a", "b"] (defScope s_minus) := ⟨rfl, rfl, rfl, by decide +kernel, rfl, by decide +kernel, by decide +kernel⟩
section
variable {P : Program} {w : World} {K : PySem.W.Frag} {mg : Str → Option Value} {base : Heap}
theorem ok_minus {k : Nat} (D : Df K mg "minus" s_minus ["a", "b"]) (D_common : Df K mg "common" s_common ["a", "b"]) (D_plus : Df K mg "plus" s_plus ["a", "b"]) : FnOk P w K mg base CX0 (k + 3) D.f D.fd ["a", "b"] (sp_two K lowC subP) := by
  have G_plus : FnOk P w K mg base CX0 2 D_plus.f D_plus.fd ["a", "b"] (sp_two K lowC addP) := ok_plus D_plus D_common
  refine D.F.ok sc_minus (fun vs H Q E h => len_two h) (fun cdv A outer s H vs Q E hr h => ?_)
  obtain ⟨v, u, x, y, n, m, rfl, hp, ⟨r, rfl, hq⟩, ox, oy, hn, ⟨lx, ly⟩, q⟩ := h
  refine ⟨_, (pss_one (ps_ret (pe_call G_plus (hr.mono (by omega)) (by rfl) D_plus.g D_plus.F.kp D_plus.b .nil pass0 (pa_cons (pv 0) (pa_cons (pe_tup (pa_cons (pe_un un_neg (pe_ix ix_tup (pv 1) pe_int (fun _ _ => rfl))) (pa_cons (pe_ix ix_tup (pv 1) pe_int (fun _ _ => rfl)) pa_nil))) pa_nil))))), ?_⟩
  refine ⟨_, rfl, _, rfl, r, _, 0, _, rfl, rfl, hq, rfl, _, rfl, _, rfl, r, _, 1, _, rfl, rfl, hq, rfl, (by show 2 ≤ sizeLine; decide), fun t ht => ?_⟩
  refine ⟨_, _, x, (-y.1, y.2), n, m, rfl, hp.same (same_upd ht), Pr.new, ox, ⟨oy.pos, oy.top.neg, oy.bot⟩, hn, ⟨lx, low_neg ly⟩, fun H' r' sm pr => ?_⟩
  rw [subP_eq] at pr
  exact q _ _ ((same_upd ht).trans sm) pr

end
-- END minus
abbrev N_times : List Str := ["a", "b"]
theorem sc_times : FnScope N_times ["a", "b"] (defScope s_times) := ⟨rfl, rfl, rfl, by decide +kernel, rfl, by decide +kernel, by decide +kernel⟩
section
variable {P : Program} {w : World} {K : PySem.W.Frag} {mg : Str → Option Value} {base : Heap}
theorem ok_times {k : Nat} (D : Df K mg "times" s_times ["a", "b"]) (D_common : Df K mg "common" s_common ["a", "b"]) (D_lowest : Df K mg "lowest" s_lowest ["top", "bottom"]) : FnOk P w K mg base CX0 (k + 3) D.f D.fd ["a", "b"] (sp_two K anyC mulP) := by
  have G_lowest : FnOk P w K mg base CX0 2 D_lowest.f D_lowest.fd ["top", "bottom"] (sp_lowest K) := ok_lowest D_lowest D_common
  refine D.F.ok sc_times (fun vs H Q E h => len_two h) (fun cdv A outer s H vs Q E hr h => ?_)
  obtain ⟨v, u, x, y, n, m, rfl, ⟨p, rfl, hp⟩, ⟨r, rfl, hq⟩, ox, oy, hn, _, q⟩ := h
  refine ⟨_, (pss_one (ps_ret (pe_call G_lowest (hr.mono (by omega)) (by rfl) D_lowest.g D_lowest.F.kp D_lowest.b .nil pass0 (pa_cons (pe_op op_mulW (pe_ix ix_tup (pv 0) pe_int (fun _ _ => rfl)) (pe_ix ix_tup (pv 1) pe_int (fun _ _ => rfl))) (pa_cons (pe_op op_mulW (pe_ix ix_tup (pv 0) pe_int (fun _ _ => rfl)) (pe_ix ix_tup (pv 1) pe_int (fun _ _ => rfl))) pa_nil))))), ?_⟩
  refine ⟨_, rfl, p, _, 0, _, rfl, rfl, hp, rfl, _, rfl, r, _, 0, _, rfl, rfl, hq, rfl, _, _, rfl, rfl, bd_mulok ox.top oy.top (by omega), ?_⟩
  refine ⟨_, rfl, p, _, 1, _, rfl, rfl, hp, rfl, _, rfl, r, _, 1, _, rfl, rfl, hq, rfl, _, _, rfl, rfl, bd_mulok ox.bot oy.bot (by omega), ?_⟩
  exact ⟨_, _, rfl, Int.mul_pos ox.pos oy.pos, (ox.bot.mul oy.bot).mono (by omega), fun H' r' sm pr => q _ _ sm pr⟩

end
-- END times
abbrev N_below : List Str := ["a", "b"]
theorem sc_below : FnScope N_below ["a", "b"] (defScope s_below) := ⟨rfl, rfl, rfl, by decide +kernel, rfl, by decide +kernel, by decide +kernel⟩
section
variable {P : Program} {w : World} {K : PySem.W.Frag} {mg : Str → Option Value} {base : Heap}
def sp_below (K : PySem.W.Frag) : Sp := fun vs H Q _ => ∃ (v u : V) (a b c d : Int) (n : Nat), vs = [v, u] ∧ Pr K H v a b ∧ Pr K H u c d ∧ (Bd n a ∧ Bd n b ∧ Bd n c ∧ Bd n d) ∧ n ≤ 9000 ∧ Q (.bl (decide (a * d < c * b))) H
theorem ok_below {k : Nat} (D : Df K mg "below" s_below ["a", "b"]) : FnOk P w K mg base CX0 (k + 1) D.f D.fd ["a", "b"] (sp_below K) := by
  refine D.F.ok sc_below (fun vs H Q E h => ?_) (fun cdv A outer s H vs Q E hr h => ?_)
  · obtain ⟨v, u, a, b, c, d, n, rfl, _⟩ := h
    rfl
  · obtain ⟨v, u, a, b, c, d, n, rfl, ⟨p, rfl, hp⟩, ⟨r, rfl, hq⟩, ⟨b1, b2, b3, b4⟩, hn, q⟩ := h
    refine ⟨_, (pss_one (ps_ret (pe_cmpR op_lt (pe_op op_mulW (pe_ix ix_tup (pv 0) pe_int (fun _ _ => rfl)) (pe_ix ix_tup (pv 1) pe_int (fun _ _ => rfl))) (pe_op op_mulW (pe_ix ix_tup (pv 1) pe_int (fun _ _ => rfl)) (pe_ix ix_tup (pv 0) pe_int (fun _ _ => rfl))) (nomark _)))), ?_⟩
    refine ⟨_, rfl, p, _, 0, _, rfl, rfl, hp, rfl, _, rfl, r, _, 1, _, rfl, rfl, hq, rfl, _, _, rfl, rfl, bd_mulok b1 b4 (by omega), ?_⟩
    exact ⟨_, rfl, r, _, 0, _, rfl, rfl, hq, rfl, _, rfl, p, _, 1, _, rfl, rfl, hp, rfl, _, _, rfl, rfl, bd_mulok b3 b2 (by omega), _, _, rfl, rfl, q⟩

end
-- END below
abbrev N_place_of : List Str := ["moment", "name"]
theorem sc_place_of : FnScope N_place_of ["moment", "name"] (defScope s_place_of) := ⟨rfl, rfl, rfl, by decide +kernel, rfl, by decide +kernel, by decide +kernel⟩
section
variable {P : Program} {w : World} {K : PySem.W.Frag} {mg : Str → Option Value} {base : Heap}
theorem ok_place_of {k : Nat} (T : Env K w mg) : FnOk P w K mg base (L2N.CX P w) (k + 1) T.D_place_of.f T.D_place_of.fd ["moment", "name"] (sp_place K T.C_Moment T.A_NoField) := by
  refine okN_of T.D_place_of.F sc_place_of (fun vs H Q E h => ?_) (fun cdv A outer s H vs Q E hr h => ?_)
  · obtain ⟨p, m, z, rfl, _⟩ := h
    rfl
  obtain ⟨p, m, z, rfl, ⟨o, hh, f, q', a, c, d, ⟨dp, ep⟩, ls⟩, hz, q, qe⟩ := h
  refine ⟨_, (pss_cons (ps_if (pt_cmpR op_notIn_seq (pv 1) (pe_fld (pv 0) rfl) (by rfl)) (pss_one (L2N.ps_raise rfl (L2N.takes_of rfl rfl rfl rfl) (pmk_one PySem.F.excBase_ValueError T.X_NoField.xx T.X_NoField.g T.X_NoField.k (raises_own T.X_NoField.b T.X_NoField.t) rfl (pe_joined (PJ.cons pe_str (PJ.cons (pe_fmt (pv 1)) PJ.nil)))))) pss_nil)
      (pss_one (ps_ret (pe_bm PySem.F.plainAttrs_list PySem.F.slot_list_index PySem.F.type_list_index mt_index (pe_fld (pv 0) rfl) (pa_cons (pv 1) pa_nil))))), ?_⟩
  have eo := ls.ord
  refine ⟨_, rfl, _, rfl, p, _, dp, _, _, rfl, ep, T.cl_Moment, T.n_Moment_order, mf_order, o, _, rfl, .inl (SqL.of eo), rfl, strs_flat _, _, rfl, ?_⟩
  rw [strs_in]
  by_cases e : z ∈ m.order
  · rw [decide_eq_true e]
    refine iteF ?_
    refine ⟨_, rfl, p, _, dp, _, _, rfl, ep, T.cl_Moment, T.n_Moment_order, mf_order, .inl ⟨rfl, _, SqL.of eo⟩, _, rfl, o, _, _, idxS m.order z, .str z, rfl, rfl, SqL.of eo, rfl, strs_flat _, ?_, ?_, ?_, q e (idx_lt e)⟩
    · rw [List.getElem?_map, idx_at e]
      rfl
    · simp [eqV]
    · intro j z' hj hz'
      rw [List.getElem?_map] at hz'
      cases e1 : m.order[j]? with
      | none => rw [e1] at hz'; cases hz'
      | some y =>
        rw [e1] at hz'
        have := idx_no hj e1
        rw [← Option.some.inj hz']
        simp [eqV, this]
  · rw [decide_eq_false e]
    refine iteT ?_
    refine ⟨_, rfl, ?_, _, rfl, .inl ⟨z, rfl, Nat.le_of_lt (small1000 hz), _, rfl, ?_, qe e H (Same.refl _)⟩⟩
    · decide +kernel
    · rw [app_len]
      have : (Str.empty ++ Str.ofString "no field has the name ").length = 22 := by decide +kernel
      rw [this]
      exact Nat.le_trans (show 22 + z.length ≤ 100000 by omega) (by decide)

end
-- END place_of
abbrev N_opposite : List Str := ["part"]
theorem sc_opposite : FnScope N_opposite ["part"] (defScope s_opposite) := ⟨rfl, rfl, rfl, by decide +kernel, rfl, by decide +kernel, by decide +kernel⟩
section
variable {P : Program} {w : World} {K : PySem.W.Frag} {mg : Str → Option Value} {base : Heap}
theorem ok_opposite {k : Nat} (T : Env K w mg) : FnOk P w K mg base CX0 (k + 1) T.D_opposite.f T.D_opposite.fd ["part"] (sp_opp K) := by
  refine T.D_opposite.F.ok sc_opposite (fun vs H Q E h => ?_) (fun cdv A outer s H vs Q E hr h => ?_)
  · obtain ⟨v, x, rfl, _⟩ := h
    rfl
  obtain ⟨v, x, rfl, ⟨r, rfl, hq⟩, q⟩ := h
  refine ⟨_, (pss_one (ps_ret (pe_tup (pa_cons (pe_un un_neg (pe_ix ix_tup (pv 0) pe_int (fun _ _ => rfl))) (pa_cons (pe_ix ix_tup (pv 0) pe_int (fun _ _ => rfl)) pa_nil))))), ?_⟩
  exact ⟨_, rfl, r, _, 0, _, rfl, rfl, hq, rfl, _, rfl, _, rfl, r, _, 1, _, rfl, rfl, hq, rfl, (by show 2 ≤ sizeLine; decide), fun t ht => q _ _ (same_upd ht) Pr.new⟩

end
-- END opposite
abbrev N_added : List Str := ["row", "place", "part", "other"]
theorem sc_added : FnScope N_added ["row", "place", "part"] (defScope s_added) := ⟨rfl, rfl, rfl, by decide +kernel, rfl, by decide +kernel, by decide +kernel⟩
section
variable {P : Program} {w : World} {K : PySem.W.Frag} {mg : Str → Option Value} {base : Heap}
theorem ok_added {k : Nat} (T : Env K w mg) : FnOk P w K mg base CX0 (k + 3) T.D_added.f T.D_added.fd ["row", "place", "part"] (sp_added K) := by
  have G_plus : FnOk P w K mg base CX0 2 T.D_plus.f T.D_plus.fd ["a", "b"] (sp_two K lowC addP) := ok_plus T.D_plus T.D_common
  refine T.D_added.F.ok sc_added (fun vs H Q E h => ?_) (fun cdv A outer s H vs Q E hr h => ?_)
  · obtain ⟨p, i, v, xs, x, N, M, rfl, _⟩ := h
    rfl
  obtain ⟨p, i, v, xs, x, N, M, rfl, ⟨us, eu, hu⟩, px, hi, ox, ov, lv, hN, q⟩ := h
  refine ⟨_, (pss_cons (ps_set (i := 3) sc_added.nd rfl (.inl rfl) (pe_callTy call_list_of (by rfl) T.m_list PyProof.Rows.boot_list (pa_cons (pv 0) pa_nil)))
      (pss_cons (ps_asg (pe_call G_plus (hr.mono (by omega)) (by rfl) T.D_plus.g T.D_plus.F.kp T.D_plus.b .nil pass0 (pa_cons (pe_ix ix_list (pv 0) (pv 1) (fun _ _ => rfl)) (pa_cons (pv 2) pa_nil))) (pg_sub (pv 3) (pv 1) set_list))
      (pss_one (ps_ret (pv 3))))), ?_⟩
  have hul := hu.len
  refine ⟨_, rfl, p, us, rfl, .inl (SqL.of eu), fun r nr => ?_⟩
  have s1 := same_upd (o := .lst us) nr
  obtain ⟨v1, g1, p1⟩ := pps_at hu (item_some hi)
  have oi := item_ok ox hi
  refine ⟨_, rfl, _, rfl, p, us, _, v1, rfl, rfl, SqL.of (s1 _ _ eu), atI_nat g1, _, rfl, v1, v, _, x, N, M, rfl, p1.same s1, px.same s1, oi.1, ov, hN, ⟨oi.2, lv⟩, fun H2 v2 s2 p2 => ?_⟩
  have er : H2 r = some (.lst us) := s2 _ _ upd_same
  refine ⟨_, rfl, _, rfl, r, us, _, i, rfl, rfl, er, ix_nat (by omega), ?_⟩
  have lp := LP.put er ((hu.same s1).same s2) p2 i
  exact ⟨_, rfl, q _ _ (same_at nr (s1.trans s2)) nr lp⟩

end
-- END added
abbrev N_endowed : List Str := ["moment", "place", "part", "other"]
theorem sc_endowed : FnScope N_endowed ["moment", "place", "part"] (defScope s_endowed) := ⟨rfl, rfl, rfl, by decide +kernel, rfl, by decide +kernel, by decide +kernel⟩
section
variable {P : Program} {w : World} {K : PySem.W.Frag} {mg : Str → Option Value} {base : Heap}
theorem ok_endowed {k : Nat} (T : Env K w mg) : FnOk P w K mg base CX0 (k + 4) T.D_endowed.f T.D_endowed.fd ["moment", "place", "part"] (sp_endowed K T.C_Moment) := by
  have G_like : FnOk P w K mg base CX0 3 T.D_like.f T.D_like.fd ["moment"] (sp_like T.C_Moment) := ok_like T
  have G_added : FnOk P w K mg base CX0 3 T.D_added.f T.D_added.fd ["row", "place", "part"] (sp_added K) := ok_added T
  refine T.D_endowed.F.ok sc_endowed (fun vs H Q E h => ?_) (fun cdv A outer s H vs Q E hr h => ?_)
  · obtain ⟨p, m, i, v, x, N, M, rfl, _⟩ := h
    rfl
  obtain ⟨p, m, i, v, x, N, M, rfl, ⟨o, h, f, q, a, c, d, ⟨dp, ep⟩, ls⟩, px, hi1, hi2, hi3, oh, of, oq, ox, lx, hN, qq⟩ := h
  refine ⟨_, (pss_cons (ps_set (i := 3) sc_endowed.nd rfl (.inl rfl) (pe_call G_like (hr.mono (by omega)) (by rfl) T.D_like.g T.D_like.F.kp T.D_like.b .nil pass0 (pa_cons (pv 0) pa_nil)))
      (pss_cons (ps_fld (pv 3) (pe_call G_added (hr.mono (by omega)) (by rfl) T.D_added.g T.D_added.F.kp T.D_added.b .nil pass0 (pa_cons (pe_fld (pv 0) rfl) (pa_cons (pv 1) (pa_cons (pv 2) pa_nil)))) rfl)
      (pss_cons (ps_fld (pv 3) (pe_call G_added (hr.mono (by omega)) (by rfl) T.D_added.g T.D_added.F.kp T.D_added.b .nil pass0 (pa_cons (pe_fld (pv 0) rfl) (pa_cons (pv 1) (pa_cons (pv 2) pa_nil)))) rfl)
      (pss_cons (ps_fld (pv 3) (pe_call G_added (hr.mono (by omega)) (by rfl) T.D_added.g T.D_added.F.kp T.D_added.b .nil pass0 (pa_cons (pe_fld (pv 0) rfl) (pa_cons (pv 1) (pa_cons (pv 2) pa_nil)))) rfl)
      (pss_one (ps_ret (pv 3))))))), ?_⟩
  refine ⟨_, rfl, p, o, h, f, q, a, c, d, m.wet, m.dry, rfl, ⟨dp, ep⟩, fun H0 r s0 nr ⟨dr, e0⟩ => ?_⟩
  -- holdings
  refine ⟨_, rfl, p, _, dp, _, _, rfl, s0 _ _ ep, T.cl_Moment, T.n_Moment_holdings, mf_holdings, _, rfl, _, rfl, h, i, v, m.hold, x, N, M, rfl, ls.hol.same s0, px.same s0, hi1, oh, ox, lx, hN, fun H1 h1 s1 nh1 lh1 => ?_⟩
  refine ⟨_, rfl, r, _, dr, _, rfl, s1 _ _ e0, T.cl_Moment, T.n_Moment_holdings, few9, ?_⟩
  rw [ps_holdings]
  have e2 : upd H1 r (.ins T.C_Moment dr (mf o h1 f q a c d m.wet m.dry)) r = some (.ins T.C_Moment dr (mf o h1 f q a c d m.wet m.dry)) := upd_same
  have s2 : Same H (upd H1 r (.ins T.C_Moment dr (mf o h1 f q a c d m.wet m.dry))) := same_at nr (s0.trans s1)
  have lh2 : LP K (upd H1 r (.ins T.C_Moment dr (mf o h1 f q a c d m.wet m.dry))) h1 (addAt m.hold i x) := lh1.offI (s1 _ _ e0)
  generalize upd H1 r (.ins T.C_Moment dr (mf o h1 f q a c d m.wet m.dry)) = H2 at e2 s2 lh2 ⊢
  -- frees
  refine ⟨_, rfl, p, _, dp, _, _, rfl, s2 _ _ ep, T.cl_Moment, T.n_Moment_frees, mf_frees, _, rfl, _, rfl, f, i, v, m.free, x, N, M, rfl, ls.fre.same s2, px.same s2, hi2, of, ox, lx, hN, fun H3 f3 s3 nf3 lf3 => ?_⟩
  refine ⟨_, rfl, r, _, dr, _, rfl, s3 _ _ e2, T.cl_Moment, T.n_Moment_frees, few9, ?_⟩
  rw [ps_frees]
  have e4 : upd H3 r (.ins T.C_Moment dr (mf o h1 f3 q a c d m.wet m.dry)) r = some (.ins T.C_Moment dr (mf o h1 f3 q a c d m.wet m.dry)) := upd_same
  have s4 : Same H (upd H3 r (.ins T.C_Moment dr (mf o h1 f3 q a c d m.wet m.dry))) := same_at nr (s2.trans s3)
  have lh4 : LP K (upd H3 r (.ins T.C_Moment dr (mf o h1 f3 q a c d m.wet m.dry))) h1 (addAt m.hold i x) := (lh2.same s3).offI (s3 _ _ e2)
  have lf4 : LP K (upd H3 r (.ins T.C_Moment dr (mf o h1 f3 q a c d m.wet m.dry))) f3 (addAt m.free i x) := lf3.offI (s3 _ _ e2)
  generalize upd H3 r (.ins T.C_Moment dr (mf o h1 f3 q a c d m.wet m.dry)) = H4 at e4 s4 lh4 lf4 ⊢
  -- portions
  refine ⟨_, rfl, p, _, dp, _, _, rfl, s4 _ _ ep, T.cl_Moment, T.n_Moment_portions, mf_portions, _, rfl, _, rfl, q, i, v, m.port, x, N, M, rfl, ls.por.same s4, px.same s4, hi3, oq, ox, lx, hN, fun H5 q5 s5 nq5 lq5 => ?_⟩
  refine ⟨_, rfl, r, _, dr, _, rfl, s5 _ _ e4, T.cl_Moment, T.n_Moment_portions, few9, ?_⟩
  rw [ps_portions]
  have e6 : upd H5 r (.ins T.C_Moment dr (mf o h1 f3 q5 a c d m.wet m.dry)) r = some (.ins T.C_Moment dr (mf o h1 f3 q5 a c d m.wet m.dry)) := upd_same
  have s6 : Same H (upd H5 r (.ins T.C_Moment dr (mf o h1 f3 q5 a c d m.wet m.dry))) := same_at nr (s4.trans s5)
  have l6 := ls.same s6
  exact ⟨_, rfl, qq _ _ s6 nr ⟨o, h1, f3, q5, a, c, d, ⟨dr, e6⟩, l6.ord, (lh4.same s5).offI (s5 _ _ e4), (lf4.same s5).offI (s5 _ _ e4), lq5.offI (s5 _ _ e4), l6.arr, l6.cou, l6.deb⟩⟩

end
-- END endowed
abbrev N_entrusted : List Str := ["moment", "giver", "taker", "part", "other"]
theorem sc_entrusted : FnScope N_entrusted ["moment", "giver", "taker", "part"] (defScope s_entrusted) := ⟨rfl, rfl, rfl, by decide +kernel, rfl, by decide +kernel, by decide +kernel⟩
section
variable {P : Program} {w : World} {K : PySem.W.Frag} {mg : Str → Option Value} {base : Heap}
theorem ok_entrusted {k : Nat} (T : Env K w mg) : FnOk P w K mg base CX0 (k + 4) T.D_entrusted.f T.D_entrusted.fd ["moment", "giver", "taker", "part"] (sp_entrusted K T.C_Moment) := by
  have G_like : FnOk P w K mg base CX0 3 T.D_like.f T.D_like.fd ["moment"] (sp_like T.C_Moment) := ok_like T
  have G_added : FnOk P w K mg base CX0 3 T.D_added.f T.D_added.fd ["row", "place", "part"] (sp_added K) := ok_added T
  have G_opposite : FnOk P w K mg base CX0 3 T.D_opposite.f T.D_opposite.fd ["part"] (sp_opp K) := ok_opposite T
  refine T.D_entrusted.F.ok sc_entrusted (fun vs H Q E h => ?_) (fun cdv A outer s H vs Q E hr h => ?_)
  · obtain ⟨p, m, i, j, v, x, N, M, rfl, _⟩ := h
    rfl
  obtain ⟨p, m, i, j, v, x, N, M, rfl, ⟨o, h, f, q, a, c, d, ⟨dp, ep⟩, ls⟩, px, hi1, hi2, hj, of, oq, ox, lx, hN, qq⟩ := h
  refine ⟨_, (pss_cons (ps_set (i := 4) sc_entrusted.nd rfl (.inl rfl) (pe_call G_like (hr.mono (by omega)) (by rfl) T.D_like.g T.D_like.F.kp T.D_like.b .nil pass0 (pa_cons (pv 0) pa_nil)))
      (pss_cons (ps_fld (pv 4) (pe_call G_added (hr.mono (by omega)) (by rfl) T.D_added.g T.D_added.F.kp T.D_added.b .nil pass0 (pa_cons (pe_fld (pv 0) rfl) (pa_cons (pv 1) (pa_cons (pe_call G_opposite (hr.mono (by omega)) (by rfl) T.D_opposite.g T.D_opposite.F.kp T.D_opposite.b .nil pass0 (pa_cons (pv 3) pa_nil)) pa_nil)))) rfl)
      (pss_cons (ps_fld (pv 4) (pe_call G_added (hr.mono (by omega)) (by rfl) T.D_added.g T.D_added.F.kp T.D_added.b .nil pass0 (pa_cons (pe_call G_added (hr.mono (by omega)) (by rfl) T.D_added.g T.D_added.F.kp T.D_added.b .nil pass0 (pa_cons (pe_fld (pv 0) rfl) (pa_cons (pv 1) (pa_cons (pe_call G_opposite (hr.mono (by omega)) (by rfl) T.D_opposite.g T.D_opposite.F.kp T.D_opposite.b .nil pass0 (pa_cons (pv 3) pa_nil)) pa_nil)))) (pa_cons (pv 2) (pa_cons (pv 3) pa_nil)))) rfl)
      (pss_one (ps_ret (pv 4)))))), ?_⟩
  refine ⟨_, rfl, p, o, h, f, q, a, c, d, m.wet, m.dry, rfl, ⟨dp, ep⟩, fun H0 r s0 nr ⟨dr, e0⟩ => ?_⟩
  have ls0 := ls.same s0
  -- frees
  refine ⟨_, rfl, p, _, dp, _, _, rfl, s0 _ _ ep, T.cl_Moment, T.n_Moment_frees, mf_frees, _, rfl, _, rfl, v, x, rfl, px.same s0, fun H1 v1 s1 p1 => ?_⟩
  refine ⟨f, i, v1, m.free, negP x, N, M, rfl, ls0.fre.same s1, p1, hi1, of, negP_ok ox, negP_low lx, by omega, fun H2 f2 s2 nf2 lf2 => ?_⟩
  have s12 := s1.trans s2
  refine ⟨_, rfl, r, _, dr, _, rfl, s12 _ _ e0, T.cl_Moment, T.n_Moment_frees, few9, ?_⟩
  rw [ps_frees]
  have e3 : upd H2 r (.ins T.C_Moment dr (mf o h f2 q a c d m.wet m.dry)) r = some (.ins T.C_Moment dr (mf o h f2 q a c d m.wet m.dry)) := upd_same
  have s3 : Same H (upd H2 r (.ins T.C_Moment dr (mf o h f2 q a c d m.wet m.dry))) := same_at nr (s0.trans s12)
  have lf3 : LP K (upd H2 r (.ins T.C_Moment dr (mf o h f2 q a c d m.wet m.dry))) f2 (addAt m.free i (negP x)) := lf2.offI (s12 _ _ e0)
  have nf2r : H f2 = none := (s0.trans s1).free nf2
  generalize upd H2 r (.ins T.C_Moment dr (mf o h f2 q a c d m.wet m.dry)) = H3 at e3 s3 lf3 ⊢
  -- portions
  refine ⟨_, rfl, p, _, dp, _, _, rfl, s3 _ _ ep, T.cl_Moment, T.n_Moment_portions, mf_portions, _, rfl, _, rfl, v, x, rfl, px.same s3, fun H4 v4 s4 p4 => ?_⟩
  refine ⟨q, i, v4, m.port, negP x, N, M, rfl, (ls.por.same s3).same s4, p4, hi2, oq, negP_ok ox, negP_low lx, by omega, fun H5 q5 s5 nq5 lq5 => ?_⟩
  have s45 := s4.trans s5
  refine ⟨_, rfl, _, rfl, q5, j, v, addAt m.port i (negP x), x, N + M + 1, M, rfl, lq5, (px.same s3).same s45, by rw [addAt_len]; exact hj, addAt_ok oq (negP_ok ox) hi2, ox, lx, by omega, fun H6 q6 s6 nq6 lq6 => ?_⟩
  have s46 := s45.trans s6
  refine ⟨_, rfl, r, _, dr, _, rfl, s46 _ _ e3, T.cl_Moment, T.n_Moment_portions, few9, ?_⟩
  rw [ps_portions]
  have e7 : upd H6 r (.ins T.C_Moment dr (mf o h f2 q6 a c d m.wet m.dry)) r = some (.ins T.C_Moment dr (mf o h f2 q6 a c d m.wet m.dry)) := upd_same
  have s7 : Same H (upd H6 r (.ins T.C_Moment dr (mf o h f2 q6 a c d m.wet m.dry))) := same_at nr (s3.trans s46)
  have lf7 : LP K (upd H6 r (.ins T.C_Moment dr (mf o h f2 q6 a c d m.wet m.dry))) f2 (addAt m.free i (negP x)) := (lf3.same s46).offI (s46 _ _ e3)
  have lq7 : LP K (upd H6 r (.ins T.C_Moment dr (mf o h f2 q6 a c d m.wet m.dry))) q6 (addAt (addAt m.port i (negP x)) j x) := lq6.offI (s46 _ _ e3)
  have l7 := ls.same s7
  exact ⟨_, rfl, qq _ _ s7 nr ⟨o, h, f2, q6, a, c, d, ⟨dr, e7⟩, l7.ord, l7.hol, lf7, lq7, l7.arr, l7.cou, l7.deb⟩⟩

end
-- END entrusted
abbrev N_check_new_name : List Str := ["name", "used"]
theorem sc_check_new_name : FnScope N_check_new_name ["name", "used"] (defScope s_check_new_name) := ⟨rfl, rfl, rfl, by decide +kernel, rfl, by decide +kernel, by decide +kernel⟩
section
variable {P : Program} {w : World} {K : PySem.W.Frag} {mg : Str → Option Value} {base : Heap}
theorem ok_check_new_name {k : Nat} (T : Env K w mg) : FnOk P w K mg base (L2N.CX P w) (k + 2) T.D_check_new_name.f T.D_check_new_name.fd ["name", "used"] (sp_newname T.A_BadName T.A_Taken) := by
  have G_is_name : FnOk P w K mg base CX0 1 T.D_is_name.f T.D_is_name.fd ["text"] sp_name := ok_is_name T
  refine okN_of T.D_check_new_name.F sc_check_new_name (fun vs H Q E h => ?_) (fun cdv A outer s H vs Q E hr h => ?_)
  · obtain ⟨z, u, us, rfl, _⟩ := h
    rfl
  obtain ⟨z, u, us, rfl, eu, hz, q, qb, qt⟩ := h
  refine ⟨_, (pss_cons (ps_if (pt_not (pt_val (pe_call G_is_name (hr.mono (by omega)) (by rfl) T.D_is_name.g T.D_is_name.F.kp T.D_is_name.b .nil pass0 (pa_cons (pv 0) pa_nil)))) (pss_one (L2N.ps_raise rfl (L2N.takes_of rfl rfl rfl rfl) (L2N.pmk_own PySem.F.excBase_ValueError T.X_BadName.xx T.X_BadName.g T.X_BadName.k (raises_own T.X_BadName.b T.X_BadName.t) rfl))) pss_nil)
      (pss_one (ps_if (pt_cmpR op_in_seq (pv 0) (pv 1) (by rfl)) (pss_one (L2N.ps_raise rfl (L2N.takes_of rfl rfl rfl rfl) (pmk_one PySem.F.excBase_ValueError T.X_Taken.xx T.X_Taken.g T.X_Taken.k (raises_own T.X_Taken.b T.X_Taken.t) rfl (pe_joined (PJ.cons pe_str (PJ.cons (pe_fmt (pv 0)) (PJ.cons pe_str PJ.nil))))))) pss_nil))), ?_⟩
  refine ⟨_, rfl, z, rfl, hz, fun H1 s1 => ⟨_, rfl, ?_⟩⟩
  cases e : nameB z with
  | false => exact iteT (qb e _ s1)
  | true =>
    refine iteF ?_
    refine ⟨_, rfl, _, rfl, u, _, rfl, .inl (SqL.of (s1 _ _ eu)), rfl, strs_flat _, _, rfl, ?_⟩
    rw [strs_in]
    by_cases h : z ∈ us
    · rw [decide_eq_true h]
      refine iteT ?_
      have l1 : (Str.empty ++ Str.ofString "the name ").length = 9 := by decide +kernel
      refine ⟨_, rfl, ?_, _, rfl, .inl ⟨z, rfl, Nat.le_of_lt (small1000 hz), _, rfl, ?_, _, rfl, ?_, qt e h _ s1⟩⟩
      · decide +kernel
      · rw [app_len, l1]
        exact Nat.le_trans (show 9 + z.length ≤ 100000 by omega) (by decide)
      · rw [app_len, app_len, l1]
        have l2 : (Str.ofString " is in use").length = 10 := by decide +kernel
        rw [l2]
        exact Nat.le_trans (show 9 + z.length + 10 ≤ 100000 by omega) (by decide)
    · rw [decide_eq_false h]
      exact iteF (q e h _ s1)

end
-- END check_new_name
abbrev N_check_room : List Str := ["moment", "many"]
theorem sc_check_room : FnScope N_check_room ["moment", "many"] (defScope s_check_room) := ⟨rfl, rfl, rfl, by decide +kernel, rfl, by decide +kernel, by decide +kernel⟩
section
variable {P : Program} {w : World} {K : PySem.W.Frag} {mg : Str → Option Value} {base : Heap}
theorem ok_check_room {k : Nat} (T : Env K w mg) : FnOk P w K mg base (L2N.CX P w) (k + 1) T.D_check_room.f T.D_check_room.fd ["moment", "many"] (sp_room K T.C_Moment T.A_Full) := by
  refine okN_of T.D_check_room.F sc_check_room (fun vs H Q E h => ?_) (fun cdv A outer s H vs Q E hr h => ?_)
  · obtain ⟨p, m, n, rfl, _⟩ := h
    rfl
  obtain ⟨p, m, n, rfl, ⟨o, hh, f, q', a, c, d, ⟨dp, ep⟩, ls⟩, hl, q, qf⟩ := h
  refine ⟨_, (pss_one (ps_if (pt_cmpR op_gt (pe_op op_add (pe_callB call_len_seq (by rfl) T.m_len PySem.boot_len (pa_cons (pe_fld (pv 0) rfl) pa_nil)) (pv 1)) (pe_glob (v := .int 24) (by rfl) T.m_MOST_FIELDS ⟨_, rfl⟩) (nomark _)) (pss_one (L2N.ps_raise rfl (L2N.takes_of rfl rfl rfl rfl) (L2N.pmk_own PySem.F.excBase_ValueError T.X_Full.xx T.X_Full.g T.X_Full.k (raises_own T.X_Full.b T.X_Full.t) rfl))) pss_nil)), ?_⟩
  refine ⟨_, rfl, p, _, dp, _, _, rfl, ep, T.cl_Moment, T.n_Moment_order, mf_order, o, _, rfl, .inl (SqL.of ls.ord), _, rfl, _, _, rfl, rfl, _, _, rfl, rfl, _, rfl, ite2 (fun e => ?_) (fun e => ?_)⟩
  · exact qf (by have := of_decide_eq_true e; rw [List.length_map] at this; omega) _ (Same.refl _)
  · exact q (by have := of_decide_eq_false (Bool.eq_false_iff.2 e); rw [List.length_map] at this; omega)

end
-- END check_room
abbrev N_check_trade : List Str := ["moment", "giver", "taker", "part", "places"]
theorem sc_check_trade : FnScope N_check_trade ["moment", "giver", "taker", "part"] (defScope s_check_trade) := ⟨rfl, rfl, rfl, by decide +kernel, rfl, by decide +kernel, by decide +kernel⟩
section
variable {P : Program} {w : World} {K : PySem.W.Frag} {mg : Str → Option Value} {base : Heap}
theorem ok_check_trade {k : Nat} (T : Env K w mg) : FnOk P w K mg base (L2N.CX P w) (k + 2) T.D_check_trade.f T.D_check_trade.fd ["moment", "giver", "taker", "part"] (sp_trade K T.C_Moment T.A_NoField T.A_Same T.A_NoPart) := by
  have G_place_of : FnOk P w K mg base (L2N.CX P w) 1 T.D_place_of.f T.D_place_of.fd ["moment", "name"] (sp_place K T.C_Moment T.A_NoField) := ok_place_of T
  have G_below : FnOk P w K mg base CX0 1 T.D_below.f T.D_below.fd ["a", "b"] (sp_below K) := ok_below T.D_below
  refine okN_of T.D_check_trade.F sc_check_trade (fun vs H Q E h => ?_) (fun cdv A outer s H vs Q E hr h => ?_)
  · obtain ⟨p, m, a, b, v, x, N, rfl, _⟩ := h
    rfl
  obtain ⟨p, m, a, b, v, x, N, rfl, mo, la, lb, px, ox, hN, q, qn, qs, qp⟩ := h
  refine ⟨_, (pss_cons (ps_set (i := 4) sc_check_trade.nd rfl (.inl rfl) (pe_tup (pa_cons (pe_call G_place_of (hr.mono (by omega)) (by rfl) T.D_place_of.g T.D_place_of.F.kp T.D_place_of.b .nil (L2N.passes_call (L2N.takes_of rfl rfl rfl rfl) (fun _ _ _ _ z => z)) (pa_cons (pv 0) (pa_cons (pv 1) pa_nil))) (pa_cons (pe_call G_place_of (hr.mono (by omega)) (by rfl) T.D_place_of.g T.D_place_of.F.kp T.D_place_of.b .nil (L2N.passes_call (L2N.takes_of rfl rfl rfl rfl) (fun _ _ _ _ z => z)) (pa_cons (pv 0) (pa_cons (pv 2) pa_nil))) pa_nil))))
      (pss_cons (ps_if (pt_cmpR op_eq (pv 1) (pv 2) (nomark _)) (pss_one (L2N.ps_raise rfl (L2N.takes_of rfl rfl rfl rfl) (pmk_one PySem.F.excBase_ValueError T.X_Same.xx T.X_Same.g T.X_Same.k (raises_own T.X_Same.b T.X_Same.t) rfl (pe_joined (PJ.cons (pe_fmt (pv 1)) (PJ.cons pe_str PJ.nil)))))) pss_nil)
      (pss_cons (ps_if (pt_not (pt_val (pe_call G_below (hr.mono (by omega)) (by rfl) T.D_below.g T.D_below.F.kp T.D_below.b .nil pass0 (pa_cons (pe_glob (v := .ref T.a_NOUGHT) (by rfl) T.m_NOUGHT rfl) (pa_cons (pv 3) pa_nil))))) (pss_one (L2N.ps_raise rfl (L2N.takes_of rfl rfl rfl rfl) (L2N.pmk_own PySem.F.excBase_ValueError T.X_NoPart.xx T.X_NoPart.g T.X_NoPart.k (raises_own T.X_NoPart.b T.X_NoPart.t) rfl))) pss_nil)
      (pss_one (ps_ret (pv 4)))))), ?_⟩
  refine ⟨_, rfl, _, rfl, p, m, a, rfl, mo, la, fun ha _ => ?_, fun ha => qn fun z => ha z.1⟩
  refine ⟨_, rfl, _, rfl, p, m, b, rfl, mo, lb, fun hb _ => ?_, fun hb => qn fun z => hb z.2⟩
  refine ⟨(by show 2 ≤ sizeLine; decide), fun t nt => ?_⟩
  have st := same_upd (o := .tup [.int (idxS m.order a : Int), .int (idxS m.order b : Int)]) nt
  refine ⟨_, rfl, _, rfl, rfl, _, rfl, ite2 (fun e => ?_) (fun e => ?_)⟩
  · have ab : a = b := by simpa using e
    refine ⟨_, rfl, .inl ⟨a, rfl, Nat.le_of_lt (small1000 la), _, rfl, ?_, _, rfl, ?_, qs ha hb ab _ st⟩⟩
    · rw [app_len]
      have l0 : Str.empty.length = 0 := by decide +kernel
      rw [l0]
      exact Nat.le_trans (show 0 + a.length ≤ 100000 by omega) (by decide)
    · rw [app_len, app_len]
      have l0 : Str.empty.length = 0 := by decide +kernel
      have l1 : (Str.ofString " is both giver and taker").length = 24 := by decide +kernel
      rw [l0, l1]
      exact Nat.le_trans (show 0 + a.length + 24 ≤ 100000 by omega) (by decide)
  · have ab : a ≠ b := fun z => e (by rw [z]; exact decide_eq_true rfl)
    refine ⟨_, rfl, .ref T.a_NOUGHT, v, 0, 1, x.1, x.2, N, rfl, T.p_NOUGHT _, px.same st, ⟨Bd.mono (n := 1) (by unfold Bd; decide) hN.1, Bd.mono (n := 1) (by unfold Bd; decide) hN.1, ox.top, ox.bot⟩, by omega, _, rfl, ?_⟩
    by_cases hx : 0 < x.1
    · rw [decide_eq_true (show (0 : Int) * x.2 < x.1 * 1 by omega)]
      refine iteF ?_
      exact ⟨_, rfl, q ha hb ab hx _ t st (SqT.of upd_same)⟩
    · rw [decide_eq_false (show ¬ (0 : Int) * x.2 < x.1 * 1 by omega)]
      exact iteT (qp ha hb ab hx _ st)

end
-- END check_trade
abbrev N_check_free : List Str := ["moment", "place", "part"]
theorem sc_check_free : FnScope N_check_free ["moment", "place", "part"] (defScope s_check_free) := ⟨rfl, rfl, rfl, by decide +kernel, rfl, by decide +kernel, by decide +kernel⟩
section
variable {P : Program} {w : World} {K : PySem.W.Frag} {mg : Str → Option Value} {base : Heap}
theorem ok_check_free {k : Nat} (T : Env K w mg) : FnOk P w K mg base (L2N.CX P w) (k + 2) T.D_check_free.f T.D_check_free.fd ["moment", "place", "part"] (sp_free K T.C_Moment T.A_TooMuch) := by
  have G_below : FnOk P w K mg base CX0 1 T.D_below.f T.D_below.fd ["a", "b"] (sp_below K) := ok_below T.D_below
  refine okN_of T.D_check_free.F sc_check_free (fun vs H Q E h => ?_) (fun cdv A outer s H vs Q E hr h => ?_)
  · obtain ⟨p, m, i, v, x, N, rfl, _⟩ := h
    rfl
  obtain ⟨p, m, i, v, x, N, rfl, ⟨o, hh, f, q', a, c, d, ⟨dp, ep⟩, ls⟩, hi, of, px, ox, hN, q, qt⟩ := h
  obtain ⟨us, eu, hu⟩ := ls.fre
  obtain ⟨v1, g1, p1⟩ := pps_at hu (item_some hi)
  have o1 := (item_ok of hi).1
  refine ⟨_, (pss_one (ps_if (pt_val (pe_call G_below (hr.mono (by omega)) (by rfl) T.D_below.g T.D_below.F.kp T.D_below.b .nil pass0 (pa_cons (pe_ix ix_list (pe_fld (pv 0) rfl) (pv 1) (fun _ _ => rfl)) (pa_cons (pv 2) pa_nil)))) (pss_one (L2N.ps_raise rfl (L2N.takes_of rfl rfl rfl rfl) (L2N.pmk_own PySem.F.excBase_ValueError T.X_TooMuch.xx T.X_TooMuch.g T.X_TooMuch.k (raises_own T.X_TooMuch.b T.X_TooMuch.t) rfl))) pss_nil)), ?_⟩
  refine ⟨_, rfl, p, _, dp, _, _, rfl, ep, T.cl_Moment, T.n_Moment_frees, mf_frees, _, rfl, f, us, _, v1, rfl, rfl, SqL.of eu, atI_nat g1, _, rfl, v1, v, _, _, _, _, N, rfl, p1, px, ⟨o1.top, o1.bot, ox.top, ox.bot⟩, by omega, _, rfl, ite2 (fun e => ?_) (fun e => ?_)⟩
  · exact qt e _ (Same.refl _)
  · exact q (Bool.eq_false_iff.2 e)

end
-- END check_free
abbrev N_settled : List Str := ["moment", "name"]
theorem sc_settled : FnScope N_settled ["moment", "name"] (defScope s_settled) := ⟨rfl, rfl, rfl, by decide +kernel, rfl, by decide +kernel, by decide +kernel⟩
section
variable {P : Program} {w : World} {K : PySem.W.Frag} {mg : Str → Option Value} {base : Heap}
theorem ok_settled {k : Nat} (T : Env K w mg) : FnOk P w K mg base (L2N.CX P w) (k + 5) T.D_settled.f T.D_settled.fd ["moment", "name"] (sp_settled K T.C_Moment T.A_BadName T.A_Taken T.A_Full) := by
  have G_check_new_name : FnOk P w K mg base (L2N.CX P w) 4 T.D_check_new_name.f T.D_check_new_name.fd ["name", "used"] (sp_newname T.A_BadName T.A_Taken) := ok_check_new_name T
  have G_check_room : FnOk P w K mg base (L2N.CX P w) 4 T.D_check_room.f T.D_check_room.fd ["moment", "many"] (sp_room K T.C_Moment T.A_Full) := ok_check_room T
  have G_joined : FnOk P w K mg base CX0 4 T.D_joined.f T.D_joined.fd ["moment", "name", "part"] (sp_joined K T.C_Moment) := ok_joined T
  refine okN_of T.D_settled.F sc_settled (fun vs H Q E h => ?_) (fun cdv A outer s H vs Q E hr h => ?_)
  · obtain ⟨p, m, z, rfl, _⟩ := h
    rfl
  obtain ⟨p, m, z, rfl, mo, wf, hz, q, qb, qt, qf⟩ := h
  obtain ⟨o, hh, f, q', a, c, d, ⟨dp, ep⟩, ls⟩ := id mo
  have few := wf.few
  refine ⟨_, (pss_cons (ps_expr (pe_call G_check_new_name (hr.mono (by omega)) (by rfl) T.D_check_new_name.g T.D_check_new_name.F.kp T.D_check_new_name.b .nil (L2N.passes_call (L2N.takes_of rfl rfl rfl rfl) (fun _ _ _ _ z => z)) (pa_cons (pv 1) (pa_cons (pe_fld (pv 0) rfl) pa_nil))))
      (pss_cons (ps_expr (pe_call G_check_room (hr.mono (by omega)) (by rfl) T.D_check_room.g T.D_check_room.F.kp T.D_check_room.b .nil (L2N.passes_call (L2N.takes_of rfl rfl rfl rfl) (fun _ _ _ _ z => z)) (pa_cons (pv 0) (pa_cons pe_int pa_nil))))
      (pss_one (ps_ret (pe_call G_joined (hr.mono (by omega)) (by rfl) T.D_joined.g T.D_joined.F.kp T.D_joined.b .nil pass0 (pa_cons (pv 0) (pa_cons (pv 1) (pa_cons (pe_glob (v := .ref T.a_NOUGHT) (by rfl) T.m_NOUGHT rfl) pa_nil)))))))), ?_⟩
  refine ⟨_, rfl, _, rfl, p, _, dp, _, _, rfl, ep, T.cl_Moment, T.n_Moment_order, mf_order, z, o, m.order, rfl, ls.ord, hz, fun e1 e2 H1 s1 => ?_, qb, qt⟩
  refine ⟨_, rfl, p, m, 1, rfl, mo.same s1, by omega, fun e3 => ?_, fun e3 H2 s2 => qf e1 e2 e3 _ (s1.trans s2)⟩
  refine ⟨_, rfl, _, rfl, p, m, z, .ref T.a_NOUGHT, (0, 1), rfl, mo.same s1, T.p_NOUGHT _, by omega, by rw [wf.h]; omega, by rw [wf.f]; omega, by rw [wf.q]; omega, by rw [wf.a]; omega, by rw [wf.c]; omega, fun H2 r s2 nr mr => ?_⟩
  exact q e1 e2 e3 _ r (s1.trans s2) (s1.free nr) mr

end
-- END settled
abbrev N_sold : List Str := ["moment", "giver", "taker", "part", "source", "goal"]
theorem sc_sold : FnScope N_sold ["moment", "giver", "taker", "part"] (defScope s_sold) := ⟨rfl, rfl, rfl, by decide +kernel, rfl, by decide +kernel, by decide +kernel⟩
section
variable {P : Program} {w : World} {K : PySem.W.Frag} {mg : Str → Option Value} {base : Heap}
theorem ok_sold {k : Nat} (T : Env K w mg) : FnOk P w K mg base (L2N.CX P w) (k + 5) T.D_sold.f T.D_sold.fd ["moment", "giver", "taker", "part"] (sp_sold K T.C_Moment T.A_NoField T.A_Same T.A_NoPart T.A_TooMuch) := by
  have G_check_trade : FnOk P w K mg base (L2N.CX P w) 4 T.D_check_trade.f T.D_check_trade.fd ["moment", "giver", "taker", "part"] (sp_trade K T.C_Moment T.A_NoField T.A_Same T.A_NoPart) := ok_check_trade T
  have G_check_free : FnOk P w K mg base (L2N.CX P w) 4 T.D_check_free.f T.D_check_free.fd ["moment", "place", "part"] (sp_free K T.C_Moment T.A_TooMuch) := ok_check_free T
  have G_endowed : FnOk P w K mg base CX0 4 T.D_endowed.f T.D_endowed.fd ["moment", "place", "part"] (sp_endowed K T.C_Moment) := ok_endowed T
  have G_opposite : FnOk P w K mg base CX0 4 T.D_opposite.f T.D_opposite.fd ["part"] (sp_opp K) := ok_opposite T
  refine okN_of T.D_sold.F sc_sold (fun vs H Q E h => ?_) (fun cdv A outer s H vs Q E hr h => ?_)
  · obtain ⟨p, m, a, b, v, x, N, rfl, _⟩ := h
    rfl
  obtain ⟨p, m, a, b, v, x, N, rfl, mo, wf, la, lb, px, ox, lx, oh, of, oq, hN, q, qn, qs, qp, qt⟩ := h
  refine ⟨_, (pss_cons (ps_asg (pe_call G_check_trade (hr.mono (by omega)) (by rfl) T.D_check_trade.g T.D_check_trade.F.kp T.D_check_trade.b .nil (L2N.passes_call (L2N.takes_of rfl rfl rfl rfl) (fun _ _ _ _ z => z)) (pa_cons (pv 0) (pa_cons (pv 1) (pa_cons (pv 2) (pa_cons (pv 3) pa_nil))))) (pg_tup rfl (pgs_cons (pg_name (i := 4) sc_sold.nd rfl (.inl rfl)) (pgs_cons (pg_name (i := 5) sc_sold.nd rfl (.inl rfl)) pgs_nil))))
      (pss_cons (ps_expr (pe_call G_check_free (hr.mono (by omega)) (by rfl) T.D_check_free.g T.D_check_free.F.kp T.D_check_free.b .nil (L2N.passes_call (L2N.takes_of rfl rfl rfl rfl) (fun _ _ _ _ z => z)) (pa_cons (pv 0) (pa_cons (pv 4) (pa_cons (pv 3) pa_nil)))))
      (pss_one (ps_ret (pe_call G_endowed (hr.mono (by omega)) (by rfl) T.D_endowed.g T.D_endowed.F.kp T.D_endowed.b .nil pass0 (pa_cons (pe_call G_endowed (hr.mono (by omega)) (by rfl) T.D_endowed.g T.D_endowed.F.kp T.D_endowed.b .nil pass0 (pa_cons (pv 0) (pa_cons (pv 4) (pa_cons (pe_call G_opposite (hr.mono (by omega)) (by rfl) T.D_opposite.g T.D_opposite.F.kp T.D_opposite.b .nil pass0 (pa_cons (pv 3) pa_nil)) pa_nil)))) (pa_cons (pv 5) (pa_cons (pv 3) pa_nil)))))))), ?_⟩
  refine ⟨_, rfl, _, rfl, _, rfl, _, rfl, p, m, a, b, v, x, N, rfl, mo, la, lb, px, ox, by omega, fun ha hb ab hx H1 t s1 tt => ?_, qn, qs, qp⟩
  have ia := idx_lt ha
  have ib := idx_lt hb
  refine ⟨t, _, rfl, tt, rfl, _, _, rfl, _, _, rfl, rfl, ?_⟩
  refine ⟨_, rfl, _, rfl, _, rfl, p, m, idxS m.order a, v, x, N, rfl, mo.same s1, by rw [wf.f]; exact ia, of, px.same s1, ox, by omega, fun e => ?_, fun e H2 s2 => qt ha hb ab hx e _ (s1.trans s2)⟩
  refine ⟨_, rfl, _, rfl, _, rfl, v, x, rfl, px.same s1, fun H2 v2 s2 p2 => ?_⟩
  have s12 := s1.trans s2
  refine ⟨p, m, idxS m.order a, v2, negP x, N, N, rfl, mo.same s12, p2, by rw [wf.h]; exact ia, by rw [wf.f]; exact ia, by rw [wf.q]; exact ia, oh, of, oq, negP_ok ox, negP_low lx, by omega, fun H3 r3 s3 n3 m3 => ?_⟩
  have s13 := s12.trans s3
  have ja : ∀ xs : List Q2, xs.length = m.order.length → idxS m.order b < (addAt xs (idxS m.order a) (negP x)).length := fun xs e => by rw [addAt_len, e]; exact ib
  refine ⟨_, rfl, _, rfl, r3, _, idxS m.order b, v, x, N + N + 1, N, rfl, m3, px.same s13, ja _ wf.h, ja _ wf.f, ja _ wf.q, addAt_ok oh (negP_ok ox) (by rw [wf.h]; exact ia), addAt_ok of (negP_ok ox) (by rw [wf.f]; exact ia), addAt_ok oq (negP_ok ox) (by rw [wf.q]; exact ia), ox, lx, by omega, fun H4 r4 s4 n4 m4 => ?_⟩
  exact q ha hb ab hx e _ r4 (s13.trans s4) (s13.free n4) m4

end
-- END sold
abbrev N_lent : List Str := ["moment", "giver", "taker", "part", "hours", "source", "goal", "other"]
theorem sc_lent : FnScope N_lent ["moment", "giver", "taker", "part", "hours"] (defScope s_lent) := ⟨rfl, rfl, rfl, by decide +kernel, rfl, by decide +kernel, by decide +kernel⟩
section
variable {P : Program} {w : World} {K : PySem.W.Frag} {mg : Str → Option Value} {base : Heap}
theorem ok_lent {k : Nat} (T : Env K w mg) : FnOk P w K mg base (L2N.CX P w) (k + 5) T.D_lent.f T.D_lent.fd ["moment", "giver", "taker", "part", "hours"] (sp_lent K T.C_Moment T.A_NoField T.A_Same T.A_NoPart T.A_NoHours T.A_TooMuch) := by
  have G_check_trade : FnOk P w K mg base (L2N.CX P w) 4 T.D_check_trade.f T.D_check_trade.fd ["moment", "giver", "taker", "part"] (sp_trade K T.C_Moment T.A_NoField T.A_Same T.A_NoPart) := ok_check_trade T
  have G_check_free : FnOk P w K mg base (L2N.CX P w) 4 T.D_check_free.f T.D_check_free.fd ["moment", "place", "part"] (sp_free K T.C_Moment T.A_TooMuch) := ok_check_free T
  have G_entrusted : FnOk P w K mg base CX0 4 T.D_entrusted.f T.D_entrusted.fd ["moment", "giver", "taker", "part"] (sp_entrusted K T.C_Moment) := ok_entrusted T
  refine okN_of T.D_lent.F sc_lent (fun vs H Q E h => ?_) (fun cdv A outer s H vs Q E hr h => ?_)
  · obtain ⟨p, m, a, b, v, x, h, N, rfl, _⟩ := h
    rfl
  obtain ⟨p, m, a, b, v, x, h, N, rfl, mo, wf, la, lb, px, ox, lx, of, oq, dl, hN, q, qn, qs, qp, qh, qt⟩ := h
  refine ⟨_, (pss_cons (ps_asg (pe_call G_check_trade (hr.mono (by omega)) (by rfl) T.D_check_trade.g T.D_check_trade.F.kp T.D_check_trade.b .nil (L2N.passes_call (L2N.takes_of rfl rfl rfl rfl) (fun _ _ _ _ z => z)) (pa_cons (pv 0) (pa_cons (pv 1) (pa_cons (pv 2) (pa_cons (pv 3) pa_nil))))) (pg_tup rfl (pgs_cons (pg_name (i := 5) sc_lent.nd rfl (.inl rfl)) (pgs_cons (pg_name (i := 6) sc_lent.nd rfl (.inl rfl)) pgs_nil))))
      (pss_cons (ps_if (PW.pt (pw_or (pt_cmpR op_lt (pv 4) pe_int (nomark _)) (pw_or1 (pt_cmpR op_gt (pv 4) (pe_glob (v := .int 999) (by rfl) T.m_MOST_HOURS ⟨_, rfl⟩) (nomark _))))) (pss_one (L2N.ps_raise rfl (L2N.takes_of rfl rfl rfl rfl) (L2N.pmk_own PySem.F.excBase_ValueError T.X_NoHours.xx T.X_NoHours.g T.X_NoHours.k (raises_own T.X_NoHours.b T.X_NoHours.t) rfl))) pss_nil)
      (pss_cons (ps_expr (pe_call G_check_free (hr.mono (by omega)) (by rfl) T.D_check_free.g T.D_check_free.F.kp T.D_check_free.b .nil (L2N.passes_call (L2N.takes_of rfl rfl rfl rfl) (fun _ _ _ _ z => z)) (pa_cons (pv 0) (pa_cons (pv 5) (pa_cons (pv 3) pa_nil)))))
      (pss_cons (ps_set (i := 7) sc_lent.nd rfl (.inl rfl) (pe_call G_entrusted (hr.mono (by omega)) (by rfl) T.D_entrusted.g T.D_entrusted.F.kp T.D_entrusted.b .nil pass0 (pa_cons (pv 0) (pa_cons (pv 5) (pa_cons (pv 6) (pa_cons (pv 3) pa_nil))))))
      (pss_cons (ps_fld (pv 7) (pe_op op_cat (pe_fld (pv 0) rfl) (pe_lst (pa_cons (pe_tup (pa_cons (pv 1) (pa_cons (pv 2) (pa_cons (pv 3) (pa_cons (pv 4) pa_nil))))) pa_nil))) rfl)
      (pss_one (ps_ret (pv 7)))))))), ?_⟩
  refine ⟨_, rfl, _, rfl, _, rfl, _, rfl, p, m, a, b, v, x, N, rfl, mo, la, lb, px, ox, by omega, fun ha hb ab hx H1 t s1 tt => ?_, qn, qs, qp⟩
  have ia := idx_lt ha
  have ib := idx_lt hb
  refine ⟨t, _, rfl, tt, rfl, _, _, rfl, _, _, rfl, rfl, ?_⟩
  refine ⟨_, rfl, _, _, rfl, rfl, _, rfl, ?_⟩
  by_cases h1 : h < 1
  · rw [decide_eq_true h1]
    exact iteT (iteT (qh ha hb ab hx (fun z => by omega) _ s1))
  rw [decide_eq_false h1]
  refine iteF ?_
  refine ⟨_, rfl, _, _, rfl, rfl, _, rfl, ?_⟩
  by_cases h2 : h > 999
  · rw [decide_eq_true h2]
    exact iteT (qh ha hb ab hx (fun z => by omega) _ s1)
  rw [decide_eq_false h2]
  refine iteF ?_
  refine ⟨_, rfl, _, rfl, _, rfl, p, m, idxS m.order a, v, x, N, rfl, mo.same s1, by rw [wf.f]; exact ia, of, px.same s1, ox, by omega, fun e => ?_, fun e H2 s2 => qt ha hb ab hx (by omega) (by omega) e _ (s1.trans s2)⟩
  refine ⟨_, rfl, _, rfl, _, rfl, _, rfl, p, m, idxS m.order a, idxS m.order b, v, x, N, N, rfl, mo.same s1, px.same s1, by rw [wf.f]; exact ia, by rw [wf.q]; exact ia, by rw [wf.q]; exact ib, of, oq, ox, lx, by omega, fun H3 r3 s3 n3 m3 => ?_⟩
  have s13 := s1.trans s3
  obtain ⟨o0, h0, f0, q0, a0, c0, d0, ⟨dp, ep⟩, ls⟩ := mo.same s13
  obtain ⟨o3, h3, f3, q3, a3, c3, d3, ⟨dr, er⟩, l3⟩ := m3
  obtain ⟨dv, ed, hd⟩ := ls.deb
  have dvl := hd.len
  refine ⟨_, rfl, p, _, dp, _, _, rfl, ep, T.cl_Moment, T.n_Moment_debts, mf_debts, _, rfl, _, rfl, _, rfl, _, rfl, (by show 4 ≤ sizeLine; decide), fun t4 nt4 => ?_⟩
  have st4 := same_upd (o := .tup [.str a, .str b, v, .int h]) nt4
  refine ⟨(by show 1 ≤ sizeLine; decide), fun l nl => ?_⟩
  have sl := same_upd (o := .lst [.ref t4]) nl
  refine ⟨d0, l, dv, [.ref t4], rfl, rfl, sl _ _ (st4 _ _ ed), upd_same, Nat.le_of_lt (small1000 (by show dv.length + 1 ≤ 1000; omega)), fun nd hnd => ?_⟩
  have sn := same_upd (o := .lst (dv ++ [.ref t4])) hnd
  have s3n := st4.trans (sl.trans sn)
  refine ⟨_, rfl, r3, _, dr, _, rfl, s3n _ _ er, T.cl_Moment, T.n_Moment_debts, few9, ?_⟩
  rw [ps_debts]
  have dT : Dbts K (upd (upd (upd H3 t4 (.tup [.str a, .str b, v, .int h])) l (.lst [.ref t4])) nd (.lst (dv ++ [.ref t4]))) (dv ++ [.ref t4]) (m.debts ++ [(a, b, x, h)]) :=
    (hd.same s3n).snoc ⟨t4, v, rfl, (sl.trans sn) _ _ upd_same, (px.same s13).same s3n⟩
  have en : upd (upd (upd H3 t4 (.tup [.str a, .str b, v, .int h])) l (.lst [.ref t4])) nd (.lst (dv ++ [.ref t4])) nd = some (.lst (dv ++ [.ref t4])) := upd_same
  have er4 := s3n _ _ er
  have l4 := l3.same s3n
  have sH4 := s13.trans s3n
  generalize upd (upd (upd H3 t4 (.tup [.str a, .str b, v, .int h])) l (.lst [.ref t4])) nd (.lst (dv ++ [.ref t4])) = H4 at dT en er4 l4 sH4 ⊢
  have nr3 : H r3 = none := s1.free n3
  have l5 := l4.offI (x := .ins T.C_Moment dr (mf o3 h3 f3 q3 a3 c3 nd (trustM m (idxS m.order a) (idxS m.order b) x).wet (trustM m (idxS m.order a) (idxS m.order b) x).dry)) er4
  have ner : nd ≠ r3 := ne_of en er4 (by intro y; cases y)
  refine ⟨_, rfl, q ha hb ab hx (by omega) (by omega) e _ r3 (same_at nr3 sH4) nr3 ⟨o3, h3, f3, q3, a3, c3, nd, ⟨dr, upd_same⟩, l5.ord, l5.hol, l5.fre, l5.por, l5.arr, l5.cou, dv ++ [.ref t4], by rw [upd_ne ner]; exact en, dT.off er4 (fun _ _ p => p.offI er4) (fun _ z => nomatch z)⟩⟩

end
-- END lent
abbrev N_check_heirs : List Str := ["moment", "heirs", "used", "name", "weight"]
theorem sc_check_heirs : FnScope N_check_heirs ["moment", "heirs"] (defScope s_check_heirs) := ⟨rfl, rfl, rfl, by decide +kernel, rfl, by decide +kernel, by decide +kernel⟩
section
variable {P : Program} {w : World} {K : PySem.W.Frag} {mg : Str → Option Value} {base : Heap}
theorem ok_check_heirs {k : Nat} (T : Env K w mg) : FnOk P w K mg base (L2N.CX P w) (k + 3) T.D_check_heirs.f T.D_check_heirs.fd ["moment", "heirs"] (sp_heirs K T.C_Moment T.A_NoHeirs T.A_BadName T.A_Taken T.A_NoWeight T.A_Full) := by
  have G_check_new_name : FnOk P w K mg base (L2N.CX P w) 2 T.D_check_new_name.f T.D_check_new_name.fd ["name", "used"] (sp_newname T.A_BadName T.A_Taken) := ok_check_new_name T
  have G_check_room : FnOk P w K mg base (L2N.CX P w) 2 T.D_check_room.f T.D_check_room.fd ["moment", "many"] (sp_room K T.C_Moment T.A_Full) := ok_check_room T
  refine okN_of T.D_check_heirs.F sc_check_heirs (fun vs H Q E h => ?_) (fun cdv A outer s H vs Q E hr h => ?_)
  · obtain ⟨p, th, m, hv, hs, rfl, _⟩ := h
    rfl
  obtain ⟨p, th, m, hv, hs, rfl, mo, few, ht, hA, hl, hsh, q0, qb, qf, q⟩ := h
  have hvl := hA.1
  refine ⟨_, (pss_cons (ps_if (pt_not (pt_truth (pv 1) (by intro _; rfl))) (pss_one (L2N.ps_raise rfl (L2N.takes_of rfl rfl rfl rfl) (L2N.pmk_own PySem.F.excBase_ValueError T.X_NoHeirs.xx T.X_NoHeirs.g T.X_NoHeirs.k (raises_own T.X_NoHeirs.b T.X_NoHeirs.t) rfl))) pss_nil)
      (pss_cons (ps_set (i := 2) sc_check_heirs.nd rfl (.inl rfl) (pe_callTy call_list_of (by rfl) T.m_list PyProof.Rows.boot_list (pa_cons (pe_fld (pv 0) rfl) pa_nil)))
      (pss_cons (ps_for PassesOwn.leaving rfl (pi_tup (pv 1)) (pg_tup rfl (pgs_cons (pg_name (i := 3) sc_check_heirs.nd rfl (.inl rfl)) (pgs_cons (pg_name (i := 4) sc_check_heirs.nd rfl (.inl rfl)) pgs_nil))) (pss_cons (ps_expr (pe_call G_check_new_name (hr.mono (by omega)) (by rfl) T.D_check_new_name.g T.D_check_new_name.F.kp T.D_check_new_name.b .nil (L2N.passes_call (L2N.takes_of rfl rfl rfl rfl) (fun _ _ _ _ z => z)) (pa_cons (pv 3) (pa_cons (pv 2) pa_nil))))
      (pss_cons (ps_if (PW.pt (pw_or (pt_cmpR op_lt (pv 4) pe_int (nomark _)) (pw_or1 (pt_cmpR op_gt (pv 4) (pe_glob (v := .int 999999) (by rfl) T.m_MOST_WEIGHT ⟨_, rfl⟩) (nomark _))))) (pss_one (L2N.ps_raise rfl (L2N.takes_of rfl rfl rfl rfl) (L2N.pmk_own PySem.F.excBase_ValueError T.X_NoWeight.xx T.X_NoWeight.g T.X_NoWeight.k (raises_own T.X_NoWeight.b T.X_NoWeight.t) rfl))) pss_nil)
      (pss_one (ps_expr (pe_bm PySem.F.plainAttrs_list PySem.F.slot_list_append PySem.F.type_list_append mt_append (pv 2) (pa_cons (pv 3) pa_nil)))))))
      (pss_one (ps_expr (pe_call G_check_room (hr.mono (by omega)) (by rfl) T.D_check_room.g T.D_check_room.F.kp T.D_check_room.b .nil (L2N.passes_call (L2N.takes_of rfl rfl rfl rfl) (fun _ _ _ _ z => z)) (pa_cons (pv 0) (pa_cons (pe_callB call_len_seq (by rfl) T.m_len PySem.boot_len (pa_cons (pv 1) pa_nil)) pa_nil)))))))), ?_⟩
  refine ⟨_, rfl, !hv.isEmpty, .inr (.inl ⟨_, ht, rfl⟩), ?_⟩
  cases hs with
  | nil =>
    have e0 : hv = [] := List.eq_nil_of_length_eq_zero hA.1
    subst e0
    exact iteT (q0 rfl _ (Same.refl _))
  | cons h0 hr' =>
    have ne : hv.isEmpty = false := by cases hv with
      | nil => cases hvl
      | cons _ _ => rfl
    rw [ne]
    refine iteF ?_
    have qb := fun c => qb c (by simp)
    have qf := qf (by simp)
    have q := q (by simp)
    generalize h0 :: hr' = hs at *
    obtain ⟨o, hh, f, q', a, c, d, ⟨dp, ep⟩, ls⟩ := id mo
    refine ⟨_, rfl, p, _, dp, _, _, rfl, ep, T.cl_Moment, T.n_Moment_order, mf_order, o, _, rfl, .inl (SqL.of ls.ord), fun Du nu => ?_⟩
    have su := same_upd (o := .lst (m.order.map V.str)) nu
    refine ⟨_, rfl, th, rfl, ⟨_, same_seqT su ht⟩, ?_⟩
    refine for_tup (xs := hv) (fun i σ H3 => ∃ (y3 y4 : Option V) (us : List Str), σ = [some (.ref p), some (.ref th), some (.ref Du), y3, y4] ∧ H3 Du = some (.lst (us.map V.str)) ∧ us.length = m.order.length + i ∧ heirBad m.order hs = heirBad us (hs.drop i) ∧ Same H H3)
      ⟨_, _, m.order, rfl, upd_same, rfl, rfl, su⟩ (fun i σ H3 _ hW => ?_) (fun i x σ H3 hx hW => ?_) (fun σ H3 hW => ?_)
    · obtain ⟨_, _, _, _, _, _, _, sm⟩ := hW
      exact same_seqT sm ht
    · obtain ⟨y3, y4, us, rfl, eu, ul, hbad, sm⟩ := hW
      obtain ⟨⟨z, w⟩, ex, t, rfl, tt⟩ := hA.of hx
      have hi := (List.getElem?_eq_some_iff.1 ex).1
      have hd : hs.drop i = (z, w) :: hs.drop (i + 1) := by
        rw [List.drop_eq_getElem_cons hi]
        rw [List.getElem?_eq_getElem hi] at ex
        rw [Option.some.inj ex]
      rw [hd] at hbad
      have zl := hsh _ (List.mem_of_getElem? ex)
      have tt3 := same_seqT sm tt
      refine ⟨t, _, rfl, tt3, rfl, _, _, rfl, _, _, rfl, rfl, ?_⟩
      rw [heirBad_cons] at hbad
      refine ⟨_, rfl, _, rfl, z, Du, us, rfl, eu, zl, fun e1 e2 H4 s4 => ?_, fun e1 H4 s4 => ?_, fun e1 e2 H4 s4 => ?_⟩
      · rw [if_neg (by rw [e1]; decide), if_neg e2] at hbad
        refine ⟨_, rfl, _, _, rfl, rfl, _, rfl, ?_⟩
        by_cases h1 : w < 1
        · rw [decide_eq_true h1]
          rw [if_pos (fun z => by omega)] at hbad
          exact iteT (iteT (qb 2 hbad _ (sm.trans s4)))
        rw [decide_eq_false h1]
        refine iteF ?_
        refine ⟨_, rfl, _, _, rfl, rfl, _, rfl, ?_⟩
        by_cases h2 : w > 999999
        · rw [decide_eq_true h2]
          rw [if_pos (fun z => by omega)] at hbad
          exact iteT (qb 2 hbad _ (sm.trans s4))
        rw [decide_eq_false h2]
        refine iteF ?_
        rw [if_neg (fun z => z ⟨by omega, by omega⟩)] at hbad
        have eu4 := s4 _ _ eu
        refine ⟨_, rfl, .inl ⟨rfl, _, SqL.of eu4⟩, _, rfl, Du, _, _, rfl, rfl, eu4, small1000 (by rw [List.length_map]; omega), ?_⟩
        refine ⟨_, _, us ++ [z], rfl, by rw [upd_same, List.map_append]; rfl, by rw [List.length_append, ul]; show m.order.length + i + 1 = _; omega, hbad, same_at nu (sm.trans s4)⟩
      · rw [if_pos e1] at hbad
        exact qb 0 hbad _ (sm.trans s4)
      · rw [if_neg (by rw [e1]; decide), if_pos e2] at hbad
        exact qb 1 hbad _ (sm.trans s4)
    · obtain ⟨y3, y4, us, rfl, eu, ul, hbad, sm⟩ := hW
      rw [hvl, List.drop_of_length_le (Nat.le_refl _)] at hbad
      have hbad : heirBad m.order hs = none := hbad
      refine ⟨_, rfl, _, rfl, th, hv, rfl, .inr (same_seqT sm ht), p, m, hs.length, by rw [hvl]; rfl, mo.same sm, by omega, fun e => q hbad e _ sm, fun e H4 s4 => qf hbad e _ (sm.trans s4)⟩

end
-- END check_heirs
abbrev N_left : List Str := ["moment", "name", "heirs", "place", "estate", "heir", "weight", "weights", "other"]
theorem sc_left : FnScope N_left ["moment", "name", "heirs"] (defScope s_left) := ⟨rfl, rfl, rfl, by decide +kernel, rfl, by decide +kernel, by decide +kernel⟩
section
variable {P : Program} {w : World} {K : PySem.W.Frag} {mg : Str → Option Value} {base : Heap}
theorem ok_left {k : Nat} (T : Env K w mg) : FnOk P w K mg base (L2N.CX P w) (k + 5) T.D_left.f T.D_left.fd ["moment", "name", "heirs"] (sp_left K T.C_Moment T.A_NoField T.A_NoHeirs T.A_BadName T.A_Taken T.A_NoWeight T.A_Full) := by
  have G_place_of : FnOk P w K mg base (L2N.CX P w) 4 T.D_place_of.f T.D_place_of.fd ["moment", "name"] (sp_place K T.C_Moment T.A_NoField) := ok_place_of T
  have G_check_heirs : FnOk P w K mg base (L2N.CX P w) 4 T.D_check_heirs.f T.D_check_heirs.fd ["moment", "heirs"] (sp_heirs K T.C_Moment T.A_NoHeirs T.A_BadName T.A_Taken T.A_NoWeight T.A_Full) := ok_check_heirs T
  have G_endowed : FnOk P w K mg base CX0 4 T.D_endowed.f T.D_endowed.fd ["moment", "place", "part"] (sp_endowed K T.C_Moment) := ok_endowed T
  have G_opposite : FnOk P w K mg base CX0 4 T.D_opposite.f T.D_opposite.fd ["part"] (sp_opp K) := ok_opposite T
  have G_joined : FnOk P w K mg base CX0 4 T.D_joined.f T.D_joined.fd ["moment", "name", "part"] (sp_joined K T.C_Moment) := ok_joined T
  have G_times : FnOk P w K mg base CX0 4 T.D_times.f T.D_times.fd ["a", "b"] (sp_two K anyC mulP) := ok_times T.D_times T.D_common T.D_lowest
  have G_lowest : FnOk P w K mg base CX0 4 T.D_lowest.f T.D_lowest.fd ["top", "bottom"] (sp_lowest K) := ok_lowest T.D_lowest T.D_common
  refine okN_of T.D_left.F sc_left (fun vs H Q E h => ?_) (fun cdv A outer s H vs Q E hr h => ?_)
  · obtain ⟨p, th, m, z, hv, hs, N, rfl, _⟩ := h
    rfl
  obtain ⟨p, th, m, z, hv, hs, N, rfl, mo, wf, hz, ht, hA, hl, hsh, oh, of, oq, hN, qn, qe, qb, qf, q⟩ := h
  have few := wf.few
  refine ⟨_, (pss_cons (ps_set (i := 3) sc_left.nd rfl (.inl rfl) (pe_call G_place_of (hr.mono (by omega)) (by rfl) T.D_place_of.g T.D_place_of.F.kp T.D_place_of.b .nil (L2N.passes_call (L2N.takes_of rfl rfl rfl rfl) (fun _ _ _ _ z => z)) (pa_cons (pv 0) (pa_cons (pv 1) pa_nil))))
      (pss_cons (ps_expr (pe_call G_check_heirs (hr.mono (by omega)) (by rfl) T.D_check_heirs.g T.D_check_heirs.F.kp T.D_check_heirs.b .nil (L2N.passes_call (L2N.takes_of rfl rfl rfl rfl) (fun _ _ _ _ z => z)) (pa_cons (pv 0) (pa_cons (pv 2) pa_nil))))
      (pss_cons (ps_set (i := 4) sc_left.nd rfl (.inl rfl) (pe_ix ix_list (pe_fld (pv 0) rfl) (pv 3) (fun _ _ => rfl)))
      (pss_cons (ps_set (i := 7) sc_left.nd rfl (.inl rfl) (pe_callB (cr_sum rfl) (by rfl) T.m_sum (by decide +kernel) (pa_cons (pe_lc (own := [("heir", 5), ("weight", 6)]) (g := gTup K 2 (gCons (gName 5) (gCons (gName 6) gNil))) (tt := tYes) rfl sc_left.nd (pi_tup (pv 2)) (blkOk_by (N := N_left) (sc := defScope s_left) (by decide +kernel)) (fun _ _ _ _ _ => pg_tup rfl (pgs_cons (pg_name (i := 5) sc_left.nd rfl (Or.inl rfl)) (pgs_cons (pg_name (i := 6) sc_left.nd rfl (Or.inl rfl)) pgs_nil))) (fun _ _ _ _ _ => pts_nil) (fun _ _ _ _ _ => (pv 6))) pa_nil)))
      (pss_cons (ps_set (i := 8) sc_left.nd rfl (.inl rfl) (pe_call G_endowed (hr.mono (by omega)) (by rfl) T.D_endowed.g T.D_endowed.F.kp T.D_endowed.b .nil pass0 (pa_cons (pv 0) (pa_cons (pv 3) (pa_cons (pe_call G_opposite (hr.mono (by omega)) (by rfl) T.D_opposite.g T.D_opposite.F.kp T.D_opposite.b .nil pass0 (pa_cons (pv 4) pa_nil)) pa_nil)))))
      (pss_cons (ps_for PassesOwn.leaving rfl (pi_tup (pv 2)) (pg_tup rfl (pgs_cons (pg_name (i := 5) sc_left.nd rfl (.inl rfl)) (pgs_cons (pg_name (i := 6) sc_left.nd rfl (.inl rfl)) pgs_nil))) (pss_one (ps_set (i := 8) sc_left.nd rfl (.inl rfl) (pe_call G_joined (hr.mono (by omega)) (by rfl) T.D_joined.g T.D_joined.F.kp T.D_joined.b .nil pass0 (pa_cons (pv 8) (pa_cons (pv 5) (pa_cons (pe_call G_times (hr.mono (by omega)) (by rfl) T.D_times.g T.D_times.F.kp T.D_times.b .nil pass0 (pa_cons (pv 4) (pa_cons (pe_call G_lowest (hr.mono (by omega)) (by rfl) T.D_lowest.g T.D_lowest.F.kp T.D_lowest.b .nil pass0 (pa_cons (pv 6) (pa_cons (pv 7) pa_nil))) pa_nil))) pa_nil)))))))
      (pss_one (ps_ret (pv 8))))))))), ?_⟩
  refine ⟨_, rfl, _, rfl, p, m, z, rfl, mo, hz, fun zm zi => ?_, qn⟩
  refine ⟨_, rfl, _, rfl, p, th, m, hv, hs, rfl, mo, wf.few, ht, hA, hl, hsh, qe zm, fun c => qb c zm, qf zm, fun hne hbad room H1 s1 => ?_⟩
  have mo1 := mo.same s1
  obtain ⟨o, hh, f, q', a, c, d, ⟨dp, ep⟩, ls⟩ := id mo1
  obtain ⟨us, eu, hu⟩ := ls.fre
  have zf : idxS m.order z < m.free.length := by rw [wf.f]; exact zi
  obtain ⟨v1, g1, p1⟩ := pps_at hu (item_some zf)
  have oe := item_ok of zf
  refine ⟨_, rfl, p, _, dp, _, _, rfl, ep, T.cl_Moment, T.n_Moment_frees, mf_frees, _, rfl, f, us, _, v1, rfl, rfl, SqL.of eu, atI_nat g1, ?_⟩
  have ht1 := same_seqT s1 ht
  have hA1 : Al (HeirV K H1) hv hs := hA.imp fun _ _ _ h => h.same s1
  have hok := heir_ok hbad
  have wb := wsum_bd fun h hh => ⟨(hok h hh).2.1, (hok h hh).2.2⟩
  have hpos : 0 < hs.length := List.length_pos_iff.2 hne
  obtain ⟨e, ee⟩ : ∃ e, e = itemP m.free (idxS m.order z) := ⟨_, rfl⟩
  rw [← ee] at p1 oe
  -- the weights
  refine ⟨_, rfl, th, rfl, ⟨_, ht1⟩, fun Dw hDw => ?_⟩
  refine lc_tup (xs := hv) (fun i H' => H' Dw = some (.lst (((hs.take i).map (·.2)).map V.int)) ∧ Same H1 H') ⟨upd_same, same_upd hDw⟩ (fun i H' _ hW => same_seqT hW.2 ht1) (fun i x H' hx hW => ?_) (fun H2 hW => ?_)
  · obtain ⟨eD, sm⟩ := hW
    obtain ⟨⟨y, w⟩, ex, t, rfl, tt⟩ := hA1.of hx
    have hi := (List.getElem?_eq_some_iff.1 ex).1
    refine ⟨t, _, rfl, same_seqT sm tt, rfl, _, _, rfl, _, _, rfl, rfl, ?_⟩
    refine ⟨rfl, ?_⟩
    dsimp only [tYes]
    rw [if_pos rfl]
    refine ⟨_, rfl, _, eD, small1000 (by rw [List.length_map, List.length_map, List.length_take]; omega), ?_, same_at hDw sm⟩
    rw [upd_same, List.take_add_one, ex, List.map_append, List.map_append]
    rfl
  obtain ⟨eDw, s2⟩ := hW
  rw [hA1.1, List.take_of_length_le (Nat.le_refl _)] at eDw
  refine ⟨Dw, hs.map (·.2), rfl, SqL.of eDw, ?_⟩
  have s12 := s1.trans s2
  -- the estate goes
  refine ⟨_, rfl, _, rfl, _, rfl, v1, e, rfl, p1.same s2, fun H3 v3 s3 p3 => ?_⟩
  have zl : ∀ xs : List Q2, xs.length = m.order.length → idxS m.order z < xs.length := fun xs ex => by rw [ex]; exact zi
  refine ⟨p, m, idxS m.order z, v3, negP e, N, N, rfl, mo.same (s12.trans s3), p3, zl _ wf.h, zl _ wf.f, zl _ wf.q, oh, of, oq, negP_ok oe.1, negP_low oe.2, by omega, fun H4 r4 s4 n4 m4 => ?_⟩
  have s14 := (s12.trans s3).trans s4
  obtain ⟨m0, em0⟩ : ∃ m0, m0 = endowM m (idxS m.order z) (negP e) := ⟨_, rfl⟩
  rw [← em0] at m4
  have l0 : m0.order.length = m.order.length ∧ m0.hold.length = m.order.length ∧ m0.free.length = m.order.length ∧ m0.port.length = m.order.length ∧ m0.arr.length = m.order.length ∧ m0.cnt.length = m.order.length := by
    rw [em0]
    exact ⟨rfl, by show (addAt _ _ _).length = _; rw [addAt_len, wf.h], by show (addAt _ _ _).length = _; rw [addAt_len, wf.f], by show (addAt _ _ _).length = _; rw [addAt_len, wf.q], wf.a, wf.c⟩
  refine ⟨_, rfl, th, rfl, ⟨_, same_seqT s14 ht⟩, ?_⟩
  refine for_tup (xs := hv) (fun i σ H5 => ∃ (r : Addr) (y5 y6 : Option V), σ = [some (.ref p), some (.str z), some (.ref th), some (.int (idxS m.order z : Int)), some v1, y5, y6, some (.int (wsum hs)), some (.ref r)] ∧ MoAt K T.C_Moment H5 r (leftG e (wsum hs) m0 (hs.take i)) ∧ H r = none ∧ Same H4 H5)
    ⟨r4, _, _, rfl, m4, (s12.trans s3).free n4, Same.refl _⟩ (fun i σ H5 _ hW => ?_) (fun i x σ H5 hx hW => ?_) (fun σ H5 hW => ?_)
  · obtain ⟨_, _, _, _, _, _, sm⟩ := hW
    exact same_seqT (s14.trans sm) ht
  · obtain ⟨r, y5, y6, rfl, mr, nr, sm⟩ := hW
    obtain ⟨⟨y, w⟩, ex, t, rfl, tt⟩ := hA.of hx
    have hi := (List.getElem?_eq_some_iff.1 ex).1
    have wk := hok _ (List.mem_of_getElem? ex)
    have sH5 := s14.trans sm
    have p15 := ((((p1.same s2).same s3).same s4).same sm)
    refine ⟨t, _, rfl, same_seqT sH5 tt, rfl, _, _, rfl, _, _, rfl, rfl, ?_⟩
    have ow : Ok 40 (lowP w (wsum hs)) := lowP_ok (by omega) (Bd.of (m := 2 ^ 39) (by have := wk.2; omega) (by have := wk.2; omega) (by decide)) (Bd.of (m := 2 ^ 39) (by omega) (by omega) (by decide))
    refine ⟨_, rfl, _, rfl, _, rfl, _, rfl, _, rfl, w, wsum hs, rfl, by omega, Bd.mono (n := 39) (Bd.of (m := 2 ^ 39) (by omega) (by omega) (by decide)) (by decide), fun H6 v6 s6 p6 => ?_⟩
    refine ⟨v1, v6, e, lowP w (wsum hs), N, 40, rfl, p15.same s6, p6, oe.1, ow, by omega, True.intro, fun H7 v7 s7 p7 => ?_⟩
    have lg := leftG_len (e := e) (W := wsum hs) (hs := hs.take i) (m0 := m0)
    rw [List.length_take] at lg
    have s57 := s6.trans s7
    refine ⟨r, _, y, v7, mulP e (lowP w (wsum hs)), rfl, mr.same s57, p7, by omega, by omega, by omega, by omega, by omega, by omega, fun H8 r8 s8 n8 m8 => ?_⟩
    refine ⟨r8, _, _, rfl, ?_, (sH5.trans s57).free n8, sm.trans (s57.trans s8)⟩
    rw [List.take_add_one, ex]
    show MoAt K _ H8 r8 (leftG e (wsum hs) m0 (hs.take i ++ [(y, w)]))
    rw [leftG_snoc]
    exact m8
  · obtain ⟨r, y5, y6, rfl, mr, nr, sm⟩ := hW
    rw [hA.1, List.take_of_length_le (Nat.le_refl _)] at mr
    refine ⟨_, rfl, q zm hne hbad room _ r (s14.trans sm) nr ?_⟩
    unfold leftM
    rw [← ee, ← em0]
    exact mr

end
-- END left
abbrev N_passed : List Str := ["moment", "other", "giver", "taker", "part", "left"]
theorem sc_passed : FnScope N_passed ["moment"] (defScope s_passed) := ⟨rfl, rfl, rfl, by decide +kernel, rfl, by decide +kernel, by decide +kernel⟩
section
variable {P : Program} {w : World} {K : PySem.W.Frag} {mg : Str → Option Value} {base : Heap}
theorem ok_passed {k : Nat} (T : Env K w mg) : FnOk P w K mg base CX0 (k + 5) T.D_passed.f T.D_passed.fd ["moment"] (sp_pass K T.C_Moment) := by
  have G_like : FnOk P w K mg base CX0 4 T.D_like.f T.D_like.fd ["moment"] (sp_like T.C_Moment) := ok_like T
  have G_entrusted : FnOk P w K mg base CX0 4 T.D_entrusted.f T.D_entrusted.fd ["moment", "giver", "taker", "part"] (sp_entrusted K T.C_Moment) := ok_entrusted T
  have G_opposite : FnOk P w K mg base CX0 4 T.D_opposite.f T.D_opposite.fd ["part"] (sp_opp K) := ok_opposite T
  have G_place_of : FnOk P w K mg base (L2N.CX P w) 4 T.D_place_of.f T.D_place_of.fd ["moment", "name"] (sp_place K T.C_Moment T.A_NoField) := ok_place_of T
  refine T.D_passed.F.ok sc_passed (fun vs H Q E h => ?_) (fun cdv A outer s H vs Q E hr h => ?_)
  · obtain ⟨p, m, N, rfl, _⟩ := h
    rfl
  obtain ⟨p, m, N, rfl, mo, wf, ⟨dl, hN, dok, sz⟩, qq⟩ := h
  obtain ⟨o, h, f, q, a, c, d, ⟨dp, ep⟩, ls⟩ := id mo
  refine ⟨_, (pss_cons (ps_set (i := 1) sc_passed.nd rfl (.inl rfl) (pe_call G_like (hr.mono (by omega)) (by rfl) T.D_like.g T.D_like.F.kp T.D_like.b .nil pass0 (pa_cons (pv 0) pa_nil)))
      (pss_cons (ps_fld (pv 1) (pe_lc (own := [("giver", 2), ("taker", 3), ("part", 4), ("left", 5)]) (g := gTup K 4 (gCons (gName 2) (gCons (gName 3) (gCons (gName 4) (gCons (gName 5) gNil))))) (tt := _) rfl sc_passed.nd (pi_list (pe_fld (pv 0) rfl)) (blkOk_by (N := N_passed) (sc := defScope s_passed) (by decide +kernel)) (fun _ _ _ _ _ => pg_tup rfl (pgs_cons (pg_name (i := 2) sc_passed.nd rfl (Or.inl rfl)) (pgs_cons (pg_name (i := 3) sc_passed.nd rfl (Or.inl rfl)) (pgs_cons (pg_name (i := 4) sc_passed.nd rfl (Or.inl rfl)) (pgs_cons (pg_name (i := 5) sc_passed.nd rfl (Or.inl rfl)) pgs_nil))))) (fun _ _ _ _ _ => (pts_one (pt_cmpR op_gt (pv 5) pe_int (nomark _)))) (fun _ _ _ _ _ => (pe_tup (pa_cons (pv 2) (pa_cons (pv 3) (pa_cons (pv 4) (pa_cons (pe_op op_sub (pv 5) pe_int) pa_nil))))))) rfl)
      (pss_cons (ps_for PassesOwn.never rfl (pi_list (pe_fld (pv 0) rfl)) (pg_tup rfl (pgs_cons (pg_name (i := 2) sc_passed.nd rfl (.inl rfl)) (pgs_cons (pg_name (i := 3) sc_passed.nd rfl (.inl rfl)) (pgs_cons (pg_name (i := 4) sc_passed.nd rfl (.inl rfl)) (pgs_cons (pg_name (i := 5) sc_passed.nd rfl (.inl rfl)) pgs_nil))))) (pss_one (ps_if (pt_cmpR op_eq (pv 5) pe_int (nomark _)) (pss_one (ps_set (i := 1) sc_passed.nd rfl (.inl rfl) (pe_call G_entrusted (hr.mono (by omega)) (by rfl) T.D_entrusted.g T.D_entrusted.F.kp T.D_entrusted.b .nil pass0 (pa_cons (pv 1) (pa_cons (pe_call G_place_of (hr.mono (by omega)) (by rfl) T.D_place_of.g T.D_place_of.F.kp T.D_place_of.b .nil passFN (pa_cons (pv 0) (pa_cons (pv 2) pa_nil))) (pa_cons (pe_call G_place_of (hr.mono (by omega)) (by rfl) T.D_place_of.g T.D_place_of.F.kp T.D_place_of.b .nil passFN (pa_cons (pv 0) (pa_cons (pv 3) pa_nil))) (pa_cons (pe_call G_opposite (hr.mono (by omega)) (by rfl) T.D_opposite.g T.D_opposite.F.kp T.D_opposite.b .nil pass0 (pa_cons (pv 4) pa_nil)) pa_nil))))))) pss_nil)))
      (pss_one (ps_ret (pv 1)))))), ?_⟩
  refine ⟨_, rfl, p, o, h, f, q, a, c, d, m.wet, m.dry, rfl, ⟨dp, ep⟩, fun H0 r s0 nr ⟨dr, e0⟩ => ?_⟩
  obtain ⟨vs, ev, hv⟩ := ls.deb
  have vl := hv.len
  refine ⟨_, rfl, p, _, dp, _, _, rfl, s0 _ _ ep, T.cl_Moment, T.n_Moment_debts, mf_debts, d, rfl, ⟨_, SqL.of (s0 _ _ ev)⟩, fun Dd hD => ?_⟩
  refine lc_list (xs := vs) (fun i H' => ∃ us, H' Dd = some (.lst us) ∧ Dbts K H' us (decD (m.debts.take i)) ∧ Same H0 H') ⟨[], upd_same, .nil, same_upd hD⟩ (fun i H' _ hW => ?_) (fun i x H' hx hW => ?_) (fun H1 hW => ?_)
  · obtain ⟨_, _, _, sm⟩ := hW
    exact SqL.of (sm _ _ (s0 _ _ ev))
  · obtain ⟨us, eD, hU, sm⟩ := hW
    obtain ⟨⟨g, tk, x, l⟩, ex, t, vp, rfl, et, px⟩ := hv.get hx
    have ed : decD (m.debts.take (i + 1)) = if 1 < l then decD (m.debts.take i) ++ [(g, tk, x, l - 1)] else decD (m.debts.take i) := by
      rw [List.take_add_one, ex]
      exact decD_snoc _ _
    have s0m := s0.trans sm
    have ul := hU.len
    have dcl := decD_len (m.debts.take i)
    rw [List.length_take] at dcl
    refine ⟨t, _, rfl, SqT.of (s0m _ _ et), rfl, _, _, rfl, _, _, rfl, _, _, rfl, _, _, rfl, rfl, ?_⟩
    refine ⟨rfl, ?_⟩
    refine ⟨_, rfl, _, _, rfl, rfl, _, rfl, ite2 (fun e => ?_) (fun e => ?_)⟩
    · have hl : 1 < l := by simpa using e
      rw [if_pos hl] at ed
      refine ⟨_, rfl, _, rfl, _, rfl, _, rfl, _, _, rfl, rfl, (by show 4 ≤ sizeLine; decide), fun t2 nt2 => ?_⟩
      have st := same_upd (o := .tup [.str g, .str tk, vp, .int (l - 1)]) nt2
      have eD2 := st _ _ eD
      refine ⟨us, eD2, small1000 (by omega), us ++ [.ref t2], upd_same, ?_, same_at hD (sm.trans st)⟩
      rw [ed]
      exact (Dbts.snoc (x := (g, tk, x, l - 1)) (hU.same st) ⟨t2, vp, rfl, upd_same, (px.same s0m).same st⟩).tk (TK.lst eD2)
    · have hl : ¬ 1 < l := by simpa using e
      rw [if_neg hl] at ed
      rw [ed]
      exact ⟨us, eD, hU, sm⟩
  obtain ⟨us, eU, hU, s1⟩ := hW
  rw [vl, List.take_of_length_le (Nat.le_refl _)] at hU
  refine ⟨_, rfl, r, _, dr, _, rfl, s1 _ _ e0, T.cl_Moment, T.n_Moment_debts, few9, ?_⟩
  rw [ps_debts]
  have e1 := s1 _ _ e0
  have nDr : Dd ≠ r := ne_of eU e1 (by intro y; cases y)
  have e2 : upd H1 r (.ins T.C_Moment dr (mf o h f q a c Dd m.wet m.dry)) r = some (.ins T.C_Moment dr (mf o h f q a c Dd m.wet m.dry)) := upd_same
  have s2 : Same H (upd H1 r (.ins T.C_Moment dr (mf o h f q a c Dd m.wet m.dry))) := same_at nr (s0.trans s1)
  have eD2 : upd H1 r (.ins T.C_Moment dr (mf o h f q a c Dd m.wet m.dry)) Dd = some (.lst us) := by rw [upd_ne nDr]; exact eU
  have hU2 : Dbts K (upd H1 r (.ins T.C_Moment dr (mf o h f q a c Dd m.wet m.dry))) us (decD m.debts) := hU.off e1 (fun _ _ p => p.offI e1) (fun _ z => nomatch z)
  generalize upd H1 r (.ins T.C_Moment dr (mf o h f q a c Dd m.wet m.dry)) = H2 at e2 s2 eD2 hU2 ⊢
  have l2 := ls.same s2
  have m2 : MoAt K T.C_Moment H2 r { m with debts := decD m.debts } := ⟨o, h, f, q, a, c, Dd, ⟨dr, e2⟩, l2.ord, l2.hol, l2.fre, l2.por, l2.arr, l2.cou, us, eD2, hU2⟩
  refine ⟨_, rfl, p, _, dp, _, _, rfl, s2 _ _ ep, T.cl_Moment, T.n_Moment_debts, mf_debts, d, rfl, ⟨_, SqL.of (s2 _ _ ev)⟩, ?_⟩
  refine for_list (xs := vs) (fun i σ H' => ∃ (r : Addr) (y2 y3 y4 y5 : Option V), σ = [some (.ref p), some (.ref r), y2, y3, y4, y5] ∧ MoAt K T.C_Moment H' r (retM m.order { m with debts := decD m.debts } (m.debts.take i)) ∧ H r = none ∧ Same H H')
    ⟨r, _, _, _, _, rfl, m2, nr, s2⟩ (fun i σ H' _ hW => ?_) (fun i x σ H' hx hW => ?_) (fun σ H' hW => ?_)
  · obtain ⟨_, _, _, _, _, _, _, _, sm⟩ := hW
    exact SqL.of (sm _ _ ev)
  · obtain ⟨r, y2, y3, y4, y5, rfl, mr, nr, sm⟩ := hW
    obtain ⟨⟨g, tk, x, l⟩, ex, t, vp, rfl, et, px⟩ := hv.get hx
    have hi := (List.getElem?_eq_some_iff.1 ex).1
    obtain ⟨hg, ht, ox, lx⟩ := dok _ (List.mem_of_getElem? ex)
    have er : retM m.order { m with debts := decD m.debts } (m.debts.take (i + 1)) = if l = 1 then trustM (retM m.order { m with debts := decD m.debts } (m.debts.take i)) (idxS m.order g) (idxS m.order tk) (negP x) else retM m.order { m with debts := decD m.debts } (m.debts.take i) := by
      rw [List.take_add_one, ex]
      exact retM_snoc _ _ _ _
    obtain ⟨_, _, _, _, _, _, _, k8, k9⟩ := retM_keeps m.order (m.debts.take i) { m with debts := decD m.debts }
    have k8 : (retM m.order { m with debts := decD m.debts } (m.debts.take i)).free.length = m.order.length := by rw [k8]; exact wf.f
    have k9 : (retM m.order { m with debts := decD m.debts } (m.debts.take i)).port.length = m.order.length := by rw [k9]; exact wf.q
    have szi := sz i (by omega)
    refine ⟨t, _, rfl, SqT.of (sm _ _ et), rfl, _, _, rfl, _, _, rfl, _, _, rfl, _, _, rfl, rfl, ?_⟩
    refine ⟨_, rfl, rfl, _, rfl, ?_⟩
    by_cases h1 : l = 1
    · subst h1
      rw [decide_eq_true rfl]
      refine iteT ?_
      refine ⟨_, rfl, _, rfl, _, rfl, p, m, g, rfl, mo.same sm, wf.nl g hg, fun _ ig => ?_, fun z => absurd hg z⟩
      refine ⟨_, rfl, _, rfl, p, m, tk, rfl, mo.same sm, wf.nl tk ht, fun _ it => ?_, fun z => absurd ht z⟩
      refine ⟨_, rfl, vp, x, rfl, px.same sm, fun H6 v6 s6 p6 => ?_⟩
      refine ⟨r, _, idxS m.order g, idxS m.order tk, v6, negP x, N, N, rfl, mr.same s6, p6, by rw [k8]; exact ig, by rw [k9]; exact ig, by rw [k9]; exact it, szi.1, szi.2, negP_ok ox, negP_low lx, by omega, fun H7 r7 s7 n7 m7 => ?_⟩
      refine ⟨r7, _, _, _, _, rfl, ?_, (sm.trans s6).free n7, sm.trans (s6.trans s7)⟩
      rw [er, if_pos rfl]
      exact m7
    · rw [decide_eq_false (fun z => h1 (by injection z))]
      refine iteF ?_
      refine ⟨r, _, _, _, _, rfl, ?_, nr, sm⟩
      rw [er, if_neg h1]
      exact mr
  · obtain ⟨r, y2, y3, y4, y5, rfl, ⟨o3, h3, f3, q3, a3, c3, d3, ⟨dr3, e3⟩, l3⟩, nr, sm⟩ := hW
    rw [vl, List.take_of_length_le (Nat.le_refl _)] at e3 l3
    obtain ⟨_, _, _, _, _, k6, k7, _, _⟩ := retM_keeps m.order m.debts { m with debts := decD m.debts }
    rw [k6, k7] at e3
    exact ⟨_, rfl, qq _ r dr3 o3 h3 f3 q3 a3 c3 d3 sm nr e3 l3⟩

end
-- END passed
abbrev N_raised : List Str := ["lags", "shares", "lag", "share"]
theorem sc_raised : FnScope N_raised ["lags", "shares"] (defScope s_raised) := ⟨rfl, rfl, rfl, by decide +kernel, rfl, by decide +kernel, by decide +kernel⟩
section
variable {P : Program} {w : World} {K : PySem.W.Frag} {mg : Str → Option Value} {base : Heap}
theorem ok_raised {k : Nat} (D : Df K mg "raised" s_raised ["lags", "shares"]) (D_common : Df K mg "common" s_common ["a", "b"]) (D_plus : Df K mg "plus" s_plus ["a", "b"]) (m_zip : mg "zip" = none) : FnOk P w K mg base CX0 (k + 3) D.f D.fd ["lags", "shares"] (sp_raised K) := by
  have G_plus : FnOk P w K mg base CX0 2 D_plus.f D_plus.fd ["a", "b"] (sp_two K lowC addP) := ok_plus D_plus D_common
  refine D.F.ok sc_raised (fun vs H Q E h => ?_) (fun cdv A outer s H vs Q E hr h => ?_)
  · obtain ⟨p, q, xs, ys, rfl, _⟩ := h
    rfl
  obtain ⟨p, r, xs, ys, rfl, ⟨us, ep, hP⟩, ⟨ws, er, hR⟩, hl, hn, hx, hy, q⟩ := h
  refine ⟨_, (pss_one (ps_ret (pe_lc (own := [("lag", 2), ("share", 3)]) (g := gTup K 2 (gCons (gName 2) (gCons (gName 3) gNil))) (tt := tYes) rfl sc_raised.nd (pi_zip (by rfl) m_zip (pa_cons (pv 0) (pa_cons (pv 1) pa_nil))) (blkOk_by (N := N_raised) (sc := defScope s_raised) (by decide +kernel)) (fun _ _ _ _ _ => pg_tup rfl (pgs_cons (pg_name (i := 2) sc_raised.nd rfl (Or.inl rfl)) (pgs_cons (pg_name (i := 3) sc_raised.nd rfl (Or.inl rfl)) pgs_nil))) (fun _ _ _ _ _ => pts_nil) (fun _ _ _ _ _ => (pe_call G_plus (hr.mono (by omega)) (by rfl) D_plus.g D_plus.F.kp D_plus.b .nil pass0 (pa_cons (pv 2) (pa_cons (pv 3) pa_nil))))))), ?_⟩
  refine ⟨_, rfl, _, rfl, p, r, us, ws, rfl, SqL.of ep, SqL.of er, fun Dd hD => ?_⟩
  refine lc_it (walk_zip (xs := us) (ys := ws) (n := xs.length) (by rw [hP.len, hR.len, hl, Nat.min_self])) (fun i H' => ∃ vs, H' Dd = some (.lst vs) ∧ Pps K H' vs ((List.zipWith addP xs ys).take i) ∧ Same H H') ⟨[], upd_same, .nil, same_upd hD⟩ (fun i H' _ hW => ?_) (fun i x H' H'' hi hW hy' => ?_) (fun H' hW => ?_)
  · obtain ⟨vs, _, _, sm⟩ := hW
    exact ⟨SqL.of (sm _ _ ep), SqL.of (sm _ _ er)⟩
  · obtain ⟨vs, eD, hV, sm⟩ := hW
    obtain ⟨T, x1, x2, rfl, nT, rfl, f1, f2⟩ := hy'
    obtain ⟨a, ha, pa⟩ := pps_get hP f1
    obtain ⟨b, hb, pb⟩ := pps_get hR f2
    have oa := hx a (List.mem_of_getElem? ha)
    have ob := hy b (List.mem_of_getElem? hb)
    have st := same_upd (o := .tup [x1, x2]) nT
    have sm2 := sm.trans st
    refine ⟨T, [x1, x2], rfl, SqT.of upd_same, rfl, x1, [x2], rfl, x2, [], rfl, rfl, ?_⟩
    refine ⟨rfl, ?_⟩
    dsimp only [tYes]
    rw [if_pos rfl]
    refine ⟨_, rfl, _, rfl, x1, x2, a, b, 3800, 3800, rfl, pa.same sm2, pb.same sm2, oa.1, ob.1, by decide, ⟨oa.2, ob.2⟩, fun H4 v4 s4 p4 => ?_⟩
    have eD4 := s4 _ _ (st _ _ eD)
    refine ⟨vs, eD4, small1000 ?_, vs ++ [v4], upd_same, ?_, same_at hD (sm2.trans s4)⟩
    · rw [hV.len, List.length_take]
      omega
    · rw [zip_at ha hb]
      exact pps_grow eD4 ((hV.same st).same s4) p4
  · obtain ⟨vs, eD, hV, sm⟩ := hW
    rw [List.take_of_length_le (by rw [List.length_zipWith]; omega)] at hV
    exact q _ _ sm hD ⟨vs, eD, hV⟩

end
-- END raised
abbrev N_turn_of : List Str := ["row", "place", "at", "part"]
theorem sc_turn_of : FnScope N_turn_of ["row"] (defScope s_turn_of) := ⟨rfl, rfl, rfl, by decide +kernel, rfl, by decide +kernel, by decide +kernel⟩
section
variable {P : Program} {w : World} {K : PySem.W.Frag} {mg : Str → Option Value} {base : Heap}
def sp_turn (K : PySem.W.Frag) : Sp := fun vs H Q _ => ∃ (p : Addr) (xs : List Q2), vs = [.ref p] ∧ LP K H p xs ∧ 0 < xs.length ∧ xs.length ≤ 1000 ∧ AllOk 4000 xs ∧ ∀ H', Same H H' → Q (.int (firstM xs : Int)) H'
theorem ok_turn_of {k : Nat} (D : Df K mg "turn_of" s_turn_of ["row"]) (D_below : Df K mg "below" s_below ["a", "b"]) (m_enumerate : mg "enumerate" = none) : FnOk P w K mg base CX0 (k + 2) D.f D.fd ["row"] (sp_turn K) := by
  have G_below : FnOk P w K mg base CX0 1 D_below.f D_below.fd ["a", "b"] (sp_below K) := ok_below D_below
  refine D.F.ok sc_turn_of (fun vs H Q E h => ?_) (fun cdv A outer s H vs Q E hr h => ?_)
  · obtain ⟨p, xs, rfl, _⟩ := h
    rfl
  obtain ⟨p, xs, rfl, ⟨us, ep, hP⟩, h0, hn, hx, q⟩ := h
  refine ⟨_, (pss_cons (ps_set (i := 1) sc_turn_of.nd rfl (.inl rfl) pe_int)
      (pss_cons (ps_for PassesOwn.never rfl (pi_enum (by rfl) m_enumerate (pa_cons (pv 0) pa_nil)) (pg_tup rfl (pgs_cons (pg_name (i := 2) sc_turn_of.nd rfl (.inl rfl)) (pgs_cons (pg_name (i := 3) sc_turn_of.nd rfl (.inl rfl)) pgs_nil))) (pss_one (ps_if (pt_val (pe_call G_below (hr.mono (by omega)) (by rfl) D_below.g D_below.F.kp D_below.b .nil pass0 (pa_cons (pe_ix ix_list (pv 0) (pv 1) (fun _ _ => rfl)) (pa_cons (pv 3) pa_nil)))) (pss_one (ps_set (i := 1) sc_turn_of.nd rfl (.inl rfl) (pv 2))) pss_nil)))
      (pss_one (ps_ret (pv 1))))), ?_⟩
  have hul := hP.len
  refine ⟨_, rfl, p, us, rfl, SqL.of ep, ?_⟩
  refine for_it (walk_enum (xs := us)) (fun i σ H3 => ∃ y2 y3, σ = [some (.ref p), some (.int (firstF xs i : Int)), y2, y3] ∧ Same H H3) ⟨_, _, rfl, Same.refl _⟩ (fun i σ H3 _ hW => ?_) (fun i x σ H3 H4 hi hW hy => ?_) (fun σ H3 hW => ?_)
  · obtain ⟨_, _, _, sm⟩ := hW
    exact SqL.of (sm _ _ ep)
  · obtain ⟨y2, y3, rfl, sm⟩ := hW
    obtain ⟨T, x1, x2, rfl, nT, rfl, f1, f2⟩ := hy
    cases f1
    have hf := firstF_lt xs i
    have hfl : firstF xs i < xs.length := by omega
    have hil : i < xs.length := by omega
    obtain ⟨v1, g1, p1⟩ := pps_at hP (item_some hfl)
    obtain ⟨v2, g2, p2⟩ := pps_at hP (item_some hil)
    obtain rfl : x2 = v2 := Option.some.inj (f2.symm.trans g2)
    have st := same_upd (o := .tup [.int ((i : Nat) : Int), x2]) nT
    have sm2 := sm.trans st
    have o1 := (item_ok hx hfl).1
    have o2 := (item_ok hx hil).1
    refine ⟨T, _, rfl, SqT.of upd_same, rfl, _, _, rfl, _, _, rfl, rfl, ?_⟩
    refine ⟨_, rfl, _, rfl, p, us, _, v1, rfl, rfl, SqL.of (sm2 _ _ ep), atI_nat g1, _, rfl, v1, x2, _, _, _, _, 4000, rfl, p1.same sm2, p2.same sm2, ⟨o1.top, o1.bot, o2.top, o2.bot⟩, by decide, _, rfl, ite2 (fun e => ?_) (fun e => ?_)⟩
    · refine ⟨_, rfl, some (.int ((i : Nat) : Int)), some x2, ?_, sm2⟩
      have : firstF xs (i + 1) = i := by
        unfold firstF
        exact if_pos e
      rw [this]
      rfl
    · refine ⟨some (.int ((i : Nat) : Int)), some x2, ?_, sm2⟩
      have : firstF xs (i + 1) = firstF xs i := by
        show (if lessP (itemP xs (firstF xs i)) (itemP xs i) = true then i else firstF xs i) = _
        exact if_neg e
      rw [this]
      rfl
  · obtain ⟨y2, y3, rfl, sm⟩ := hW
    rw [hul]
    exact ⟨_, rfl, q _ sm⟩

end
-- END turn_of
abbrev N_dealt : List Str := ["lags", "shares", "row", "place"]
theorem sc_dealt : FnScope N_dealt ["lags", "shares"] (defScope s_dealt) := ⟨rfl, rfl, rfl, by decide +kernel, rfl, by decide +kernel, by decide +kernel⟩
section
variable {P : Program} {w : World} {K : PySem.W.Frag} {mg : Str → Option Value} {base : Heap}
theorem ok_dealt {k : Nat} (D : Df K mg "dealt" s_dealt ["lags", "shares"]) (D_common : Df K mg "common" s_common ["a", "b"]) (D_plus : Df K mg "plus" s_plus ["a", "b"]) (D_minus : Df K mg "minus" s_minus ["a", "b"]) (D_below : Df K mg "below" s_below ["a", "b"]) (D_raised : Df K mg "raised" s_raised ["lags", "shares"]) (D_turn_of : Df K mg "turn_of" s_turn_of ["row"]) (m_enumerate : mg "enumerate" = none) (m_zip : mg "zip" = none) :
    FnOk P w K mg base CX0 (k + 4) D.f D.fd ["lags", "shares"] (sp_hourG K) := by
  have G_raised : FnOk P w K mg base CX0 3 D_raised.f D_raised.fd ["lags", "shares"] (sp_raised K) := ok_raised D_raised D_common D_plus m_zip
  have G_turn_of : FnOk P w K mg base CX0 3 D_turn_of.f D_turn_of.fd ["row"] (sp_turn K) := ok_turn_of D_turn_of D_below m_enumerate
  have G_minus : FnOk P w K mg base CX0 3 D_minus.f D_minus.fd ["a", "b"] (sp_two K lowC subP) := ok_minus D_minus D_common D_plus
  refine D.F.ok sc_dealt (fun vs H Q E h => ?_) (fun cdv A outer s H vs Q E hr h => ?_)
  · obtain ⟨p, q, xs, ys, N, M, rfl, _⟩ := h
    rfl
  obtain ⟨p, r, xs, ys, N, M, rfl, hp, hr', hl, h0, hn, hx, hy, hN, q⟩ := h
  refine ⟨_, (pss_cons (ps_set (i := 2) sc_dealt.nd rfl (.inl rfl) (pe_call G_raised (hr.mono (by omega)) (by rfl) D_raised.g D_raised.F.kp D_raised.b .nil pass0 (pa_cons (pv 0) (pa_cons (pv 1) pa_nil))))
      (pss_cons (ps_set (i := 3) sc_dealt.nd rfl (.inl rfl) (pe_call G_turn_of (hr.mono (by omega)) (by rfl) D_turn_of.g D_turn_of.F.kp D_turn_of.b .nil pass0 (pa_cons (pv 2) pa_nil)))
      (pss_cons (ps_asg (pe_call G_minus (hr.mono (by omega)) (by rfl) D_minus.g D_minus.F.kp D_minus.b .nil pass0 (pa_cons (pe_ix ix_list (pv 2) (pv 3) (fun _ _ => rfl)) (pa_cons (pe_tup (pa_cons pe_int (pa_cons pe_int pa_nil))) pa_nil))) (pg_sub (pv 2) (pv 3) set_list))
      (pss_one (ps_ret (pe_tup (pa_cons (pv 3) (pa_cons (pv 2) pa_nil)))))))), ?_⟩
  refine ⟨_, rfl, _, rfl, p, r, xs, ys, rfl, hp, hr', hl, hn, hx.mono (by omega), hy.mono (by omega), fun H1 Dd sm hD lp1 => ?_⟩
  have lz : (List.zipWith addP xs ys).length = xs.length := by rw [List.length_zipWith]; omega
  have oz := zip_ok hx hy
  have hf := firstM_lt (xs := List.zipWith addP xs ys) (by omega)
  have oi := item_ok oz hf
  refine ⟨_, rfl, Dd, _, rfl, lp1, by omega, by omega, oz.mono (by omega), fun H1 sm' => ?_⟩
  replace lp1 := lp1.same sm'
  replace sm := sm.trans sm'
  obtain ⟨vs, eD, hV⟩ := lp1
  obtain ⟨v1, g1, p1⟩ := pps_at hV (item_some hf)
  have hvl := hV.len
  refine ⟨_, rfl, _, rfl, Dd, vs, _, v1, rfl, rfl, SqL.of eD, atI_nat g1, (by show 2 ≤ sizeLine; decide), fun t ht => ?_⟩
  have st := same_upd (o := .tup [.int 1, .int 1]) ht
  refine ⟨v1, .ref t, _, (1, 1), N + M + 1, 1, rfl, p1.same st, Pr.new, oi.1, ok11, by omega, ⟨oi.2, ⟨by decide, rfl⟩⟩, fun H5 v5 s5 p5 => ?_⟩
  have eD5 := s5 _ _ (st _ _ eD)
  refine ⟨_, rfl, _, rfl, Dd, vs, _, firstM (List.zipWith addP xs ys), rfl, rfl, eD5, ix_nat (by omega), ?_⟩
  have lp := LP.put eD5 ((hV.same st).same s5) p5 (firstM (List.zipWith addP xs ys))
  have s6 : Same H (upd H5 Dd (.lst (vs.set (firstM (List.zipWith addP xs ys)) v5))) := same_at hD (sm.trans (st.trans s5))
  refine ⟨_, rfl, _, rfl, (by show 2 ≤ sizeLine; decide), fun t2 ht2 => ?_⟩
  have st2 := same_upd (o := .tup [.int (firstM (List.zipWith addP xs ys) : Int), .ref Dd]) ht2
  exact q _ t2 Dd (s6.trans st2) hD (SqT.of upd_same) (lp.same st2)

end
-- END dealt
abbrev N_watered : List Str := ["moment", "place", "lags", "other"]
theorem sc_watered : FnScope N_watered ["moment"] (defScope s_watered) := ⟨rfl, rfl, rfl, by decide +kernel, rfl, by decide +kernel, by decide +kernel⟩
section
variable {P : Program} {w : World} {K : PySem.W.Frag} {mg : Str → Option Value} {base : Heap}
theorem ok_watered {k : Nat} (T : Env K w mg) : FnOk P w K mg base CX0 (k + 6) T.D_watered.f T.D_watered.fd ["moment"] (sp_water K T.C_Moment) := by
  have G_dealt : FnOk P w K mg base CX0 5 T.D_dealt.f T.D_dealt.fd ["lags", "shares"] (sp_hourG K) := ok_dealt T.D_dealt T.D_common T.D_plus T.D_minus T.D_below T.D_raised T.D_turn_of T.m_enumerate T.m_zip
  have G_passed : FnOk P w K mg base CX0 5 T.D_passed.f T.D_passed.fd ["moment"] (sp_pass K T.C_Moment) := ok_passed T
  refine T.D_watered.F.ok sc_watered (fun vs H Q E h => ?_) (fun cdv A outer s H vs Q E hr h => ?_)
  · obtain ⟨p, m, N, rfl, _⟩ := h
    rfl
  obtain ⟨p, m, N, rfl, mo, wf, hp, l0, oa, op, hN, qq⟩ := h
  have l1 : m.order.length = m.arr.length := wf.a.symm
  have l2 : m.port.length = m.arr.length := by rw [wf.q, wf.a]
  have l3 : m.cnt.length = m.arr.length := by rw [wf.c, wf.a]
  have l24 : m.arr.length ≤ 24 := by rw [wf.a]; exact wf.few
  have l0 : 0 < m.arr.length := by omega
  refine ⟨_, (pss_cons (ps_asg (pe_call G_dealt (hr.mono (by omega)) (by rfl) T.D_dealt.g T.D_dealt.F.kp T.D_dealt.b .nil pass0 (pa_cons (pe_fld (pv 0) rfl) (pa_cons (pe_fld (pv 0) rfl) pa_nil))) (pg_tup rfl (pgs_cons (pg_name (i := 1) sc_watered.nd rfl (.inl rfl)) (pgs_cons (pg_name (i := 2) sc_watered.nd rfl (.inl rfl)) pgs_nil))))
      (pss_cons (ps_set (i := 3) sc_watered.nd rfl (.inl rfl) (pe_call G_passed (hr.mono (by omega)) (by rfl) T.D_passed.g T.D_passed.F.kp T.D_passed.b .nil pass0 (pa_cons (pv 0) pa_nil)))
      (pss_cons (ps_fld (pv 3) (pv 2) rfl)
      (pss_cons (ps_fld (pv 3) (pe_callTy call_list_of (by rfl) T.m_list PyProof.Rows.boot_list (pa_cons (pe_fld (pv 0) rfl) pa_nil)) rfl)
      (pss_cons (ps_augS (pe_fld (pv 3) rfl) (pv 1) get_list pe_int ip_add set_list)
      (pss_cons (ps_fldaug (pv 3) pe_int in_add)
      (pss_one (ps_ret (pe_tup (pa_cons (pe_ix ix_list (pe_fld (pv 0) rfl) (pv 1) (fun _ _ => rfl)) (pa_cons (pv 3) pa_nil))))))))))), ?_⟩
  obtain ⟨o, h, f, q, a, c, d, ⟨dp, ep⟩, ls⟩ := id mo
  refine ⟨_, rfl, p, _, dp, _, _, rfl, ep, T.cl_Moment, T.n_Moment_arrears, mf_arrears, _, rfl, p, _, dp, _, _, rfl, ep, T.cl_Moment, T.n_Moment_portions, mf_portions, a, q, m.arr, m.port, N, N, rfl, ls.arr, ls.por, by omega, by omega, by omega, oa, op, hN, fun H1 t1 r1 s1 nr1 ht1 lr1 => ?_⟩
  refine ⟨t1, _, rfl, ht1, rfl, _, _, rfl, _, _, rfl, rfl, ?_⟩
  have mo1 := mo.same s1
  refine ⟨_, rfl, p, m, N, rfl, mo1, wf, hp, fun H2 r dr o2 h2 f2 q2 a2 c2 d2 s2 nr e2 ls2 => ?_⟩
  have hho := hour_ok oa op (by omega) l0
  obtain ⟨j, ej⟩ : ∃ j, j = (hourM m.arr m.port).1 := ⟨_, rfl⟩
  have hj : j < m.arr.length := by rw [ej]; exact hho.2.2
  rw [← ej]
  have S2 := s1.trans s2
  have nrH : H r = none := s1.free nr
  have lr2 := lr1.same s2
  -- other.arrears = lags
  refine ⟨_, rfl, _, rfl, r, _, dr, _, rfl, e2, T.cl_Moment, T.n_Moment_arrears, few9, ?_⟩
  rw [ps_arrears]
  have e3 : upd H2 r (.ins T.C_Moment dr (mf o2 h2 f2 q2 r1 c2 d2 m.wet m.dry)) r = some (.ins T.C_Moment dr (mf o2 h2 f2 q2 r1 c2 d2 m.wet m.dry)) := upd_same
  have s3 : Same H (upd H2 r (.ins T.C_Moment dr (mf o2 h2 f2 q2 r1 c2 d2 m.wet m.dry))) := same_at nrH S2
  have lr3 := lr2.offI (o := .ins T.C_Moment dr (mf o2 h2 f2 q2 r1 c2 d2 m.wet m.dry)) e2
  have k3 : ∀ b x, H2 b = some x → b ≠ r → upd H2 r (.ins T.C_Moment dr (mf o2 h2 f2 q2 r1 c2 d2 m.wet m.dry)) b = some x := fun b x eb nb => by rw [upd_ne nb]; exact eb
  have ls3 : Lsts K (upd H2 r (.ins T.C_Moment dr (mf o2 h2 f2 q2 r1 c2 d2 m.wet m.dry))) (passM m) o2 h2 f2 q2 a2 c2 d2 := ls2.offI e2
  generalize upd H2 r (.ins T.C_Moment dr (mf o2 h2 f2 q2 r1 c2 d2 m.wet m.dry)) = H3 at e3 s3 lr3 ls3 ⊢
  -- other.counts = list(moment.counts)
  have ec := (ls.same s3).cou
  refine ⟨_, rfl, p, _, dp, _, _, rfl, s3 _ _ ep, T.cl_Moment, T.n_Moment_counts, mf_counts, c, _, rfl, .inl (SqL.of ec), fun nc hnc => ?_⟩
  have s4 := same_upd (o := .lst (m.cnt.map V.int)) hnc
  have nrc : r ≠ nc := ne_of_none e3 hnc
  refine ⟨_, rfl, r, _, dr, _, rfl, s4 _ _ e3, T.cl_Moment, T.n_Moment_counts, few9, ?_⟩
  rw [ps_counts]
  have e5 : upd (upd H3 nc (.lst (m.cnt.map V.int))) r (.ins T.C_Moment dr (mf o2 h2 f2 q2 r1 nc d2 m.wet m.dry)) r = some (.ins T.C_Moment dr (mf o2 h2 f2 q2 r1 nc d2 m.wet m.dry)) := upd_same
  have s5 : Same H (upd (upd H3 nc (.lst (m.cnt.map V.int))) r (.ins T.C_Moment dr (mf o2 h2 f2 q2 r1 nc d2 m.wet m.dry))) := same_at nrH (s3.trans s4)
  have c5 : upd (upd H3 nc (.lst (m.cnt.map V.int))) r (.ins T.C_Moment dr (mf o2 h2 f2 q2 r1 nc d2 m.wet m.dry)) nc = some (.lst (m.cnt.map V.int)) := by rw [upd_ne (Ne.symm nrc)]; exact upd_same
  have lr5 := (lr3.same s4).offI (o := .ins T.C_Moment dr (mf o2 h2 f2 q2 r1 nc d2 m.wet m.dry)) (s4 _ _ e3)
  have ls5 := (ls3.same s4).offI (x := .ins T.C_Moment dr (mf o2 h2 f2 q2 r1 nc d2 m.wet m.dry)) (s4 _ _ e3)
  have nnc : H3 nc = none := hnc
  have no5 : ∀ b x, H3 b = some x → b ≠ nc := fun b x eb => ne_of_none eb hnc
  generalize upd (upd H3 nc (.lst (m.cnt.map V.int))) r (.ins T.C_Moment dr (mf o2 h2 f2 q2 r1 nc d2 m.wet m.dry)) = H5 at e5 s5 c5 lr5 ls5 ⊢
  -- other.counts[place] += 1
  refine ⟨_, rfl, r, _, dr, _, _, rfl, e5, T.cl_Moment, T.n_Moment_counts, mf_counts, _, rfl, nc, _, j, .int (m.cnt.getD j 0), rfl, rfl, SqL.of c5, ?_, _, _, rfl, rfl, nc, _, _, j, rfl, rfl, c5, ?_, ?_⟩
  · rw [List.getElem?_map, List.getElem?_eq_getElem (by omega)]
    simp [List.getD, List.getElem?_eq_getElem (show j < m.cnt.length by omega)]
  · rw [List.length_map]
    exact ix_nat (by omega)
  rw [show (m.cnt.map V.int).set j (V.int (m.cnt.getD j 0 + 1)) = (m.cnt.set j (m.cnt.getD j 0 + 1)).map V.int from by rw [List.map_set]]
  have e6 : upd H5 nc (.lst ((m.cnt.set j (m.cnt.getD j 0 + 1)).map V.int)) r = some (.ins T.C_Moment dr (mf o2 h2 f2 q2 r1 nc d2 m.wet m.dry)) := by rw [upd_ne nrc]; exact e5
  have c6 : upd H5 nc (.lst ((m.cnt.set j (m.cnt.getD j 0 + 1)).map V.int)) nc = some (.lst ((m.cnt.set j (m.cnt.getD j 0 + 1)).map V.int)) := upd_same
  have s6 : Same H (upd H5 nc (.lst ((m.cnt.set j (m.cnt.getD j 0 + 1)).map V.int))) := same_at (s3.free nnc) s5
  have lr6 : LP K (upd H5 nc (.lst ((m.cnt.set j (m.cnt.getD j 0 + 1)).map V.int))) r1 (hourM m.arr m.port).2 := lr5.off c5 (by
    obtain ⟨_, er, _⟩ := lr3
    exact no5 _ _ er)
  have ls6 := ls5.offL (ys := (m.cnt.set j (m.cnt.getD j 0 + 1)).map V.int) c5 (no5 _ _ ls3.ord) (by obtain ⟨_, er, _⟩ := ls3.hol; exact no5 _ _ er) (by obtain ⟨_, er, _⟩ := ls3.fre; exact no5 _ _ er) (by obtain ⟨_, er, _⟩ := ls3.por; exact no5 _ _ er) (by obtain ⟨_, er, _⟩ := ls3.deb; exact no5 _ _ er)
  generalize upd H5 nc (.lst ((m.cnt.set j (m.cnt.getD j 0 + 1)).map V.int)) = H6 at e6 c6 s6 lr6 ls6 ⊢
  -- other.wet += 1
  refine ⟨_, rfl, r, _, dr, _, _, rfl, e6, T.cl_Moment, T.n_Moment_wet, mf_wet, _, _, rfl, rfl, dr, _, e6, few9, ?_⟩
  rw [ps_wet]
  have e7 : upd H6 r (.ins T.C_Moment dr (mf o2 h2 f2 q2 r1 nc d2 (m.wet + 1) m.dry)) r = some (.ins T.C_Moment dr (mf o2 h2 f2 q2 r1 nc d2 (m.wet + 1) m.dry)) := upd_same
  have s7 : Same H (upd H6 r (.ins T.C_Moment dr (mf o2 h2 f2 q2 r1 nc d2 (m.wet + 1) m.dry))) := same_at nrH s6
  have c7 : upd H6 r (.ins T.C_Moment dr (mf o2 h2 f2 q2 r1 nc d2 (m.wet + 1) m.dry)) nc = some (.lst ((m.cnt.set j (m.cnt.getD j 0 + 1)).map V.int)) := by rw [upd_ne (Ne.symm nrc)]; exact c6
  have lr7 := lr6.offI (o := .ins T.C_Moment dr (mf o2 h2 f2 q2 r1 nc d2 (m.wet + 1) m.dry)) e6
  have ls7 := ls6.offI (x := .ins T.C_Moment dr (mf o2 h2 f2 q2 r1 nc d2 (m.wet + 1) m.dry)) e6
  generalize upd H6 r (.ins T.C_Moment dr (mf o2 h2 f2 q2 r1 nc d2 (m.wet + 1) m.dry)) = H7 at e7 s7 c7 lr7 ls7 ⊢
  -- the end
  have eo := (ls.same s7).ord
  obtain ⟨z, hz⟩ : ∃ z, m.order[j]? = some z := ⟨_, List.getElem?_eq_getElem (by omega)⟩
  refine ⟨_, rfl, p, _, dp, _, _, rfl, s7 _ _ ep, T.cl_Moment, T.n_Moment_order, mf_order, _, rfl, o, _, _, .str z, rfl, rfl, SqL.of eo, atI_nat (by rw [List.getElem?_map, hz]; rfl), _, rfl, (by show 2 ≤ sizeLine; decide), fun t ht => ?_⟩
  have st := same_upd (o := .tup [.str z, .ref r]) ht
  have ky : (wateredM m).dry = m.dry := (retM_keeps m.order m.debts { m with debts := decD m.debts }).2.2.2.2.2.2.1
  refine qq _ t r z (s7.trans st) nrH (by rw [← ej]; exact hz) upd_same ⟨o2, h2, f2, q2, r1, nc, d2, ⟨dr, by rw [ky]; exact st _ _ e7⟩, ?_⟩
  have l8 := ls7.same st
  refine ⟨l8.ord, l8.hol, l8.fre, l8.por, lr7.same st, ?_, l8.deb⟩
  have ew : (wateredM m).cnt = m.cnt.set j (m.cnt.getD j 0 + 1) := by
    rw [ej]
    rfl
  rw [ew]
  exact st _ _ c7

end
-- END watered
abbrev N_dried : List Str := ["moment", "other"]
theorem sc_dried : FnScope N_dried ["moment"] (defScope s_dried) := ⟨rfl, rfl, rfl, by decide +kernel, rfl, by decide +kernel, by decide +kernel⟩
section
variable {P : Program} {w : World} {K : PySem.W.Frag} {mg : Str → Option Value} {base : Heap}
theorem ok_dried {k : Nat} (T : Env K w mg) : FnOk P w K mg base CX0 (k + 6) T.D_dried.f T.D_dried.fd ["moment"] (sp_dried K T.C_Moment) := by
  have G_passed : FnOk P w K mg base CX0 5 T.D_passed.f T.D_passed.fd ["moment"] (sp_pass K T.C_Moment) := ok_passed T
  refine T.D_dried.F.ok sc_dried (fun vs H Q E h => ?_) (fun cdv A outer s H vs Q E hr h => ?_)
  · obtain ⟨p, m, N, rfl, _⟩ := h
    rfl
  obtain ⟨p, m, N, rfl, mo, wf, hp, qq⟩ := h
  refine ⟨_, (pss_cons (ps_set (i := 1) sc_dried.nd rfl (.inl rfl) (pe_call G_passed (hr.mono (by omega)) (by rfl) T.D_passed.g T.D_passed.F.kp T.D_passed.b .nil pass0 (pa_cons (pv 0) pa_nil)))
      (pss_cons (ps_fldaug (pv 1) pe_int in_add)
      (pss_one (ps_ret (pv 1))))), ?_⟩
  refine ⟨_, rfl, p, m, N, rfl, mo, wf, hp, fun H2 r dr o2 h2 f2 q2 a2 c2 d2 s2 nr e2 ls2 => ?_⟩
  refine ⟨_, rfl, r, _, dr, _, _, rfl, e2, T.cl_Moment, T.n_Moment_dry, mf_dry, _, _, rfl, rfl, dr, _, e2, few9, ?_⟩
  rw [ps_dry]
  have s3 : Same H (upd H2 r (.ins T.C_Moment dr (mf o2 h2 f2 q2 a2 c2 d2 m.wet (m.dry + 1)))) := same_at nr s2
  have ls3 := ls2.offI (x := .ins T.C_Moment dr (mf o2 h2 f2 q2 a2 c2 d2 m.wet (m.dry + 1))) e2
  have kw : (driedM m).wet = m.wet := (retM_keeps m.order m.debts { m with debts := decD m.debts }).2.2.2.2.2.1
  exact ⟨_, rfl, qq _ r s3 nr ⟨o2, h2, f2, q2, a2, c2, d2, ⟨dr, by rw [kw]; exact upd_same⟩, ls3.ord, ls3.hol, ls3.fre, ls3.por, ls3.arr, ls3.cou, ls3.deb⟩⟩

end
-- END dried
abbrev N_behind_deed : List Str := ["moment", "deed", "word", "rest", "way"]
theorem sc_behind_deed : FnScope N_behind_deed ["moment", "deed"] (defScope s_behind_deed) := ⟨rfl, rfl, rfl, by decide +kernel, rfl, by decide +kernel, by decide +kernel⟩
section
variable {P : Program} {w : World} {K : PySem.W.Frag} {mg : Str → Option Value} {base : Heap}
def Env.ca (T : Env K w mg) : Rf → Addr
  | .badName => T.A_BadName
  | .taken => T.A_Taken
  | .full => T.A_Full
  | .noField => T.A_NoField
  | .same => T.A_Same
  | .noPart => T.A_NoPart
  | .noHours => T.A_NoHours
  | .tooMuch => T.A_TooMuch
  | .noHeirs => T.A_NoHeirs
  | .noWeight => T.A_NoWeight
theorem ok_behind_deed {k : Nat} (T : Env K w mg) : FnOk P w K mg base (L2N.CX P w) (k + 9) T.D_behind_deed.f T.D_behind_deed.fd ["moment", "deed"] (sp_behind K (ways20 K T.C_Moment T.ca)) := by
  have G_settled : FnOk P w K mg base (L2N.CX P w) 8 T.D_settled.f T.D_settled.fd ["moment", "name"] (sp_settled K T.C_Moment T.A_BadName T.A_Taken T.A_Full) := ok_settled T
  have G_sold : FnOk P w K mg base (L2N.CX P w) 8 T.D_sold.f T.D_sold.fd ["moment", "giver", "taker", "part"] (sp_sold K T.C_Moment T.A_NoField T.A_Same T.A_NoPart T.A_TooMuch) := ok_sold T
  have G_lent : FnOk P w K mg base (L2N.CX P w) 8 T.D_lent.f T.D_lent.fd ["moment", "giver", "taker", "part", "hours"] (sp_lent K T.C_Moment T.A_NoField T.A_Same T.A_NoPart T.A_NoHours T.A_TooMuch) := ok_lent T
  have G_left : FnOk P w K mg base (L2N.CX P w) 8 T.D_left.f T.D_left.fd ["moment", "name", "heirs"] (sp_left K T.C_Moment T.A_NoField T.A_NoHeirs T.A_BadName T.A_Taken T.A_NoWeight T.A_Full) := ok_left T
  have G_dried : FnOk P w K mg base (L2N.CX P w) 8 T.D_dried.f T.D_dried.fd ["moment"] (sp_dried K T.C_Moment) := toXN (ok_dried T)
  obtain ⟨es, n, kd⟩ := T.k_WAYS
  refine okN_of T.D_behind_deed.F sc_behind_deed (fun vs H Q E h => ?_) (fun cdv A outer s H vs Q E hr h => ?_)
  · obtain ⟨v, t, wd, zs, sp, rfl, _⟩ := h
    rfl
  obtain ⟨v, t, wd, zs, sp, rfl, ht, hl, hw, q⟩ := h
  refine ⟨_, (pss_cons (ps_asg (pv 1) (pg_star rfl (pgs_cons (pg_name (i := 2) sc_behind_deed.nd rfl (.inl rfl)) (pgs_cons (pg_name (i := 3) sc_behind_deed.nd rfl (.inl rfl)) pgs_nil))))
      (pss_cons (ps_set (i := 4) sc_behind_deed.nd rfl (.inl rfl) (pe_ix (ix_kd kd) (pe_glob (v := .ref T.a_WAYS) (by rfl) T.m_WAYS rfl) (pv 2) (fun _ _ => rfl)))
      (pss_one (ps_ret (pe_callV (CX := L2N.CX P w) (k := 8) (i := 4) (hr.mono (by omega)) rfl (.inl rfl) (L2N.passes_call (L2N.takes_of rfl rfl rfl rfl) (fun _ _ _ _ z => z)) (pa_cons (pv 0) (StX.pa_star (pv 3) pa_nil))))))), ?_⟩
  refine ⟨_, rfl, t, .str wd, zs, rfl, ht, hl, fun D nD => ?_⟩
  have eD : upd H D (.lst zs) D = some (.lst zs) := upd_same
  refine ⟨_, _, rfl, _, _, rfl, rfl, ?_⟩
  unfold ways20 at hw
  by_cases h_settle : wd = "settle"
  · subst h_settle
    rw [if_pos rfl] at hw
    cases hw
    refine ⟨_, rfl, "settle", _, .ref T.D_settled.f, rfl, rfl, T.w_settled, rfl, ?_⟩
    refine ⟨T.D_settled.f, _, _, _, rfl, G_settled, T.D_settled.F.kp, T.D_settled.b, _, rfl, _, rfl, D, zs, rfl, .inr (SqL.of eD), ?_⟩
    show sp_settled _ _ _ _ _ (v :: (zs ++ [])) _ _ _
    rw [List.append_nil]
    exact q D nD
  rw [if_neg h_settle] at hw
  by_cases h_sell : wd = "sell"
  · subst h_sell
    rw [if_pos rfl] at hw
    cases hw
    refine ⟨_, rfl, "sell", _, .ref T.D_sold.f, rfl, rfl, T.w_sold, rfl, ?_⟩
    refine ⟨T.D_sold.f, _, _, _, rfl, G_sold, T.D_sold.F.kp, T.D_sold.b, _, rfl, _, rfl, D, zs, rfl, .inr (SqL.of eD), ?_⟩
    show sp_sold _ _ _ _ _ _ (v :: (zs ++ [])) _ _ _
    rw [List.append_nil]
    exact q D nD
  rw [if_neg h_sell] at hw
  by_cases h_lend : wd = "lend"
  · subst h_lend
    rw [if_pos rfl] at hw
    cases hw
    refine ⟨_, rfl, "lend", _, .ref T.D_lent.f, rfl, rfl, T.w_lent, rfl, ?_⟩
    refine ⟨T.D_lent.f, _, _, _, rfl, G_lent, T.D_lent.F.kp, T.D_lent.b, _, rfl, _, rfl, D, zs, rfl, .inr (SqL.of eD), ?_⟩
    show sp_lent _ _ _ _ _ _ _ (v :: (zs ++ [])) _ _ _
    rw [List.append_nil]
    exact q D nD
  rw [if_neg h_lend] at hw
  by_cases h_leave : wd = "leave"
  · subst h_leave
    rw [if_pos rfl] at hw
    cases hw
    refine ⟨_, rfl, "leave", _, .ref T.D_left.f, rfl, rfl, T.w_left, rfl, ?_⟩
    refine ⟨T.D_left.f, _, _, _, rfl, G_left, T.D_left.F.kp, T.D_left.b, _, rfl, _, rfl, D, zs, rfl, .inr (SqL.of eD), ?_⟩
    show sp_left _ _ _ _ _ _ _ _ (v :: (zs ++ [])) _ _ _
    rw [List.append_nil]
    exact q D nD
  rw [if_neg h_leave] at hw
  by_cases h_lose : wd = "lose"
  · subst h_lose
    rw [if_pos rfl] at hw
    cases hw
    refine ⟨_, rfl, "lose", _, .ref T.D_dried.f, rfl, rfl, T.w_dried, rfl, ?_⟩
    refine ⟨T.D_dried.f, _, _, _, rfl, G_dried, T.D_dried.F.kp, T.D_dried.b, _, rfl, _, rfl, D, zs, rfl, .inr (SqL.of eD), ?_⟩
    show sp_dried _ _ (v :: (zs ++ [])) _ _ E
    rw [List.append_nil]
    exact q D nD
  rw [if_neg h_lose] at hw
  cases hw

end
-- END behind_deed
abbrev N_Ditch_enter : List Str := ["self", "deed", "moment"]
theorem sc_Ditch_enter : FnScope N_Ditch_enter ["self", "deed", "moment"] (defScope s_Ditch_enter) := ⟨rfl, rfl, rfl, by decide +kernel, rfl, by decide +kernel, by decide +kernel⟩
section
variable {P : Program} {w : World} {K : PySem.W.Frag} {mg : Str → Option Value} {base : Heap}
theorem ok_Ditch_enter {k : Nat} (T : Env K w mg) : FnOk P w K mg base CX0 (k + 1) T.D_Ditch_enter.f T.D_Ditch_enter.fd ["self", "deed", "moment"] (sp_enter K T.C_Moment T.C_Ditch) := by
  refine T.D_Ditch_enter.F.ok sc_Ditch_enter (fun vs H Q E h => ?_) (fun cdv A outer s H vs Q E hr h => ?_)
  · obtain ⟨d, dx, n, p, u, r, m, m', ps, us, v, rfl, _⟩ := h
    rfl
  obtain ⟨d, dx, n, p, u, r, m, m', ps, us, v, rfl, di, mr, hl, q⟩ := h
  refine ⟨_, (pss_cons (ps_expr (pe_bm PySem.F.plainAttrs_list PySem.F.slot_list_append PySem.F.type_list_append mt_append (pe_fld (pv 0) rfl) (pa_cons (pe_tup (pa_cons (pv 1) (pa_cons (pe_fld (pv 0) rfl) pa_nil))) pa_nil)))
      (pss_cons (ps_fld (pv 0) (pv 2) rfl)
      (pss_one (ps_fld (pv 0) (pe_lst pa_nil) rfl)))), ?_⟩
  have npd : p ≠ d := ne_of di.pas di.raw (by intro z; cases z)
  have npx : p ≠ dx := ne_of di.pas di.own (by intro z; cases z)
  have ndx : d ≠ dx := ne_of di.raw di.own (by intro z; cases z)
  refine ⟨_, rfl, d, _, dx, _, _, rfl, di.raw, T.cl_Ditch, T.n_Ditch_past, df_past, .inl ⟨rfl, _, SqL.of di.pas⟩, _, rfl, _, rfl, d, _, dx, _, _, rfl, di.raw, T.cl_Ditch, T.n_Ditch_now, df_now, (by show 2 ≤ sizeLine; decide), fun t nt => ?_⟩
  have st := same_upd (o := .tup [v, .ref n]) nt
  refine ⟨p, ps, _, rfl, rfl, st _ _ di.pas, small1000 (by omega), ?_⟩
  have e2 : upd (upd H t (.tup [v, .ref n])) p (.lst (ps ++ [.ref t])) d = some (.ins T.C_Ditch dx (df n p u)) := by rw [upd_ne (Ne.symm npd)]; exact st _ _ di.raw
  refine ⟨_, rfl, _, rfl, d, _, dx, _, rfl, e2, T.cl_Ditch, T.n_Ditch_now, few3, ?_⟩
  rw [ds_now]
  refine ⟨Nat.zero_le _, fun u' nu => ?_⟩
  have nud : u' ≠ d := fun z => by rw [z, upd_same] at nu; cases nu
  rw [upd_ne nud] at nu
  have nup : u' ≠ p := fun z => by rw [z, upd_same] at nu; cases nu
  rw [upd_ne nup] at nu
  have nut : u' ≠ t := fun z => by rw [z, upd_same] at nu; cases nu
  rw [upd_ne nut] at nu
  have nudx : u' ≠ dx := fun z => by rw [z, di.own] at nu; cases nu
  have ntd : t ≠ d := Ne.symm (ne_of_none di.raw nt)
  have ntx : t ≠ dx := Ne.symm (ne_of_none di.own nt)
  have ntp : t ≠ p := Ne.symm (ne_of_none di.pas nt)
  refine ⟨_, rfl, d, _, dx, _, rfl, (by rw [upd_ne (Ne.symm nud)]; exact upd_same), T.cl_Ditch, T.n_Ditch_undone, few3, ?_⟩
  rw [ds_undone]
  have fin : ∀ b x, H b = some x → b ≠ d → b ≠ p → upd (upd (upd (upd (upd H t (.tup [v, .ref n])) p (.lst (ps ++ [.ref t]))) d (.ins T.C_Ditch dx (df r p u))) u' (.lst [])) d (.ins T.C_Ditch dx (df r p u')) b = some x := fun b x eb h1 h2 => by
    rw [upd_ne h1, upd_ne (ne_of_none eb nu), upd_ne h1, upd_ne h2]
    exact st _ _ eb
  have ft : upd (upd (upd (upd (upd H t (.tup [v, .ref n])) p (.lst (ps ++ [.ref t]))) d (.ins T.C_Ditch dx (df r p u))) u' (.lst [])) d (.ins T.C_Ditch dx (df r p u')) t = some (.tup [v, .ref n]) := by
    rw [upd_ne ntd, upd_ne (Ne.symm nut), upd_ne ntd, upd_ne ntp]
    exact upd_same
  have fp : upd (upd (upd (upd (upd H t (.tup [v, .ref n])) p (.lst (ps ++ [.ref t]))) d (.ins T.C_Ditch dx (df r p u))) u' (.lst [])) d (.ins T.C_Ditch dx (df r p u')) p = some (.lst (ps ++ [.ref t])) := by
    rw [upd_ne npd, upd_ne (Ne.symm nup), upd_ne npd]
    exact upd_same
  have fu : upd (upd (upd (upd (upd H t (.tup [v, .ref n])) p (.lst (ps ++ [.ref t]))) d (.ins T.C_Ditch dx (df r p u))) u' (.lst [])) d (.ins T.C_Ditch dx (df r p u')) u' = some (.lst []) := by
    rw [upd_ne nud]
    exact upd_same
  have fd' : upd (upd (upd (upd (upd H t (.tup [v, .ref n])) p (.lst (ps ++ [.ref t]))) d (.ins T.C_Ditch dx (df r p u))) u' (.lst [])) d (.ins T.C_Ditch dx (df r p u')) d = some (.ins T.C_Ditch dx (df r p u')) := upd_same
  generalize upd (upd (upd (upd (upd H t (.tup [v, .ref n])) p (.lst (ps ++ [.ref t]))) d (.ins T.C_Ditch dx (df r p u))) u' (.lst [])) d (.ins T.C_Ditch dx (df r p u')) = H' at fin ft fp fu fd' ⊢
  have sD : Same (del (mu d dx p u) H) (del (mu d dx p u') H') := fun b x eb => by
    obtain ⟨hb, eb⟩ := del_some eb
    simp only [mu, List.mem_cons, List.not_mem_nil, or_false, not_or] at hb
    obtain ⟨h1, h2, h3, h4⟩ := hb
    have h5 : b ≠ u' := ne_of_none eb nu
    rw [del_out (by simp [h1, h2, h3, h5])]
    exact fin b x eb h1 h3
  refine q H' t u' sD ?_ ⟨fd', fin _ _ di.own (Ne.symm ndx) (Ne.symm npx), fp, fu, Ne.symm nup, mr.same sD⟩ nu
  rw [del_out (by simp [ntd, ntx, ntp, Ne.symm nut])]
  exact ft

end
-- END Ditch_enter
abbrev N_Ditch_do : List Str := ["self", "deed"]
theorem sc_Ditch_do : FnScope N_Ditch_do ["self", "deed"] (defScope s_Ditch_do) := ⟨rfl, rfl, rfl, by decide +kernel, rfl, by decide +kernel, by decide +kernel⟩
section
variable {P : Program} {w : World} {K : PySem.W.Frag} {mg : Str → Option Value} {base : Heap}
theorem ok_Ditch_do {k : Nat} (T : Env K w mg) : FnOk P w K mg base (L2N.CX P w) (k + 10) T.D_Ditch_do.f T.D_Ditch_do.fd ["self", "deed"] (sp_do K T.C_Moment T.C_Ditch (ways20 K T.C_Moment T.ca)) := by
  have G_behind_deed : FnOk P w K mg base (L2N.CX P w) 9 T.D_behind_deed.f T.D_behind_deed.fd ["moment", "deed"] (frm (sp_behind K (ways20 K T.C_Moment T.ca))) := fn_frameXN (ok_behind_deed T)
  have G_Ditch_enter : FnOk P w K mg base CX0 9 T.D_Ditch_enter.f T.D_Ditch_enter.fd ["self", "deed", "moment"] (sp_enter K T.C_Moment T.C_Ditch) := ok_Ditch_enter T
  refine okN_of T.D_Ditch_do.F sc_Ditch_do (fun vs H Q E h => ?_) (fun cdv A outer s H vs Q E hr h => ?_)
  · obtain ⟨d, dx, n, p, u, t, m, ps, us, zs, wd, sp, res, rfl, _⟩ := h
    rfl
  obtain ⟨d, dx, n, p, u, t, m, ps, us, zs, wd, sp, res, rfl, di, hl, ht, hz, hw, nh, tu, q⟩ := h
  refine ⟨_, (pss_cons (ps_expr (pe_meth (pv 0) T.cl_Ditch T.D_Ditch_enter.at_ G_Ditch_enter (hr.mono (by omega)) T.D_Ditch_enter.b .nil pass0 (pa_cons (pv 1) (pa_cons (pe_call G_behind_deed (hr.mono (by omega)) (by rfl) T.D_behind_deed.g T.D_behind_deed.F.kp T.D_behind_deed.b .nil (L2N.passes_call (L2N.takes_of rfl rfl rfl rfl) (fun _ _ _ _ z => z)) (pa_cons (pe_fld (pv 0) rfl) (pa_cons (pv 1) pa_nil))) pa_nil))))
      (pss_one (ps_ret (pe_ifExp (pt_cmpR op_eq (pe_ix ix_tup (pv 1) pe_int (fun _ _ => rfl)) pe_str (nomark _)) (pe_ix ix_tup (pv 1) pe_int (fun _ _ => rfl)) pe_non)))), ?_⟩
  refine ⟨_, rfl, d, dx, _, rfl, di.raw, rfl, _, rfl, ?_⟩
  refine ⟨_, rfl, d, _, dx, _, _, rfl, di.raw, T.cl_Ditch, T.n_Ditch_now, df_now, _, rfl, mu d dx p u, di.aside, .ref n, t, wd, zs, sp, rfl, ht, hz, hw, fun D nD => ?_⟩
  have sD := same_upd (o := .lst zs) nD
  refine tu D nD _ _ ?_
  cases res with
  | inl m' =>
    intro G r s1 nr mr hn
    have s1 := sD.trans s1
    have sG := glue_same (H := H) hn
    have di1 : DiAt K T.C_Moment T.C_Ditch (glue (mu d dx p u) H G) d dx n p u m ps us := ⟨by rw [glue_in (by simp)]; exact di.raw, by rw [glue_in (by simp)]; exact di.own, by rw [glue_in (by simp)]; exact di.pas, by rw [glue_in (by simp)]; exact di.und, di.pu, di.now.same (s1.trans sG)⟩
    have sA : Same (del (mu d dx p u) H) (del (mu d dx p u) (glue (mu d dx p u) H G)) := s1.trans sG
    have fr : ∀ b, glue (mu d dx p u) H G b = none → H b = none := fun b hb => by
      by_cases hm : b ∈ mu d dx p u
      · rw [glue_in hm] at hb; exact hb
      · rw [glue_out hm] at hb
        have := s1.free hb
        rw [del_out hm] at this
        exact this
    have mr1 := mr.same sG
    generalize glue (mu d dx p u) H G = H1 at di1 sA fr mr1 ⊢
    refine ⟨d, dx, n, p, u, r, m, m', ps, us, .ref t, rfl, di1, mr1, hl, fun H2 t2 u' s2 e2 di2 nu => ?_⟩
    have ht2 := same_seqT del_same (same_seqT s2 (same_seqT sA ht))
    refine ⟨_, rfl, t, _, 0, .str wd, rfl, rfl, ht2, atI_nat (j := 0) rfl, rfl, _, rfl, ?_⟩
    rw [decide_eq_false (fun z => nh (by injection z))]
    exact iteF (q H2 ⟨t2, u', r, sA.trans s2, e2, di2, fr _ nu⟩)
  | inr c =>
    intro G s1 hn
    refine q _ fun b o e => ?_
    by_cases hb : b ∈ mu d dx p u
    · rw [glue_in hb]; exact e
    · rw [glue_out hb]
      exact (sD.trans s1) _ _ (by rw [del_out hb]; exact e)

end
-- END Ditch_do
abbrev N_Ditch_settle : List Str := ["self", "name"]
theorem sc_Ditch_settle : FnScope N_Ditch_settle ["self", "name"] (defScope s_Ditch_settle) := ⟨rfl, rfl, rfl, by decide +kernel, rfl, by decide +kernel, by decide +kernel⟩
section
variable {P : Program} {w : World} {K : PySem.W.Frag} {mg : Str → Option Value} {base : Heap}
theorem ok_Ditch_settle {k : Nat} (T : Env K w mg) : FnOk P w K mg base (L2N.CX P w) (k + 11) T.D_Ditch_settle.f T.D_Ditch_settle.fd ["self", "name"] (sp_meth K T.C_Moment T.C_Ditch T.ca isSettle) := by
  have G_Ditch_do : FnOk P w K mg base (L2N.CX P w) 10 T.D_Ditch_do.f T.D_Ditch_do.fd ["self", "deed"] (sp_do K T.C_Moment T.C_Ditch (ways20 K T.C_Moment T.ca)) := ok_Ditch_do T
  refine okN_of T.D_Ditch_settle.F sc_Ditch_settle (fun vs H Q E h => ?_) (fun cdv A outer s H vs Q E hr h => ?_)
  · obtain ⟨d, dx, n, p, u, m, ps, us, dd, N, as, rfl, kd, di, hl, wf, da, ok, q⟩ := h
    cases dd with
    | settle z =>
      cases da
      rfl
    | _ => exact kd.elim
  obtain ⟨d, dx, n, p, u, m, ps, us, dd, N, as, rfl, kd, di, hl, wf, da, ok, q⟩ := h
  cases dd with
  | settle z =>
    cases da
    have lz : z.length ≤ 1000 := ok
    refine ⟨_, (pss_one (ps_expr (pe_meth (pv 0) T.cl_Ditch T.D_Ditch_do.at_ G_Ditch_do (hr.mono (by omega)) T.D_Ditch_do.b .nil (L2N.passes_call (L2N.takes_of rfl rfl rfl rfl) (fun _ _ _ _ z => z)) (pa_cons (pe_tup (pa_cons pe_str (pa_cons (pv 1) pa_nil))) pa_nil)))), ?_⟩
    refine ⟨_, rfl, d, dx, _, rfl, di.raw, rfl, _, rfl, (by show 2 ≤ sizeLine; decide), fun t nt => ?_⟩
    have st := same_upd (o := .tup [.str ("settle" : Str), .str z]) nt
    have di1 := di.same st
    have ds : SqT K (del (mu d dx p u) (upd H t (.tup [.str ("settle" : Str), .str z]))) t [.str ("settle" : Str), .str z] := sqT_del di1.aside (SqT.of upd_same)
    refine ⟨d, dx, n, p, u, t, m, ps, us, [.str z], "settle", _, rsE T.ca m _, rfl, di1, hl, ds, by show 1 ≤ 1000; decide, (by unfold ways20; rw [if_pos rfl]), by decide, fun D nD Q1 E1 h1 => ?_, res_do q rfl rfl st ⟨t, rfl, ds⟩⟩
    have sD := same_upd (o := .lst [.str z]) nD
    have h1 : TurnK K T.C_Moment _ Q1 E1 _ := h1
    refine ⟨n, m, z, rfl, di1.now.same sD, wf, lz, fun a b c => h1.no (by rw [judge, judgeG, if_neg (by rw [a]; decide), if_neg b, if_neg (by omega)]), fun a => h1.yes (c := .badName) (by rw [judge, judgeG, if_pos a]), fun a b => h1.yes (c := .taken) (by rw [judge, judgeG, if_neg (by rw [a]; decide), if_pos b]), fun a b c => h1.yes (c := .full) (by rw [judge, judgeG, if_neg (by rw [a]; decide), if_neg b, if_pos c])⟩
  | _ => exact kd.elim

end
-- END Ditch_settle
abbrev N_Ditch_sell : List Str := ["self", "giver", "taker", "part"]
theorem sc_Ditch_sell : FnScope N_Ditch_sell ["self", "giver", "taker", "part"] (defScope s_Ditch_sell) := ⟨rfl, rfl, rfl, by decide +kernel, rfl, by decide +kernel, by decide +kernel⟩
section
variable {P : Program} {w : World} {K : PySem.W.Frag} {mg : Str → Option Value} {base : Heap}
theorem ok_Ditch_sell {k : Nat} (T : Env K w mg) : FnOk P w K mg base (L2N.CX P w) (k + 11) T.D_Ditch_sell.f T.D_Ditch_sell.fd ["self", "giver", "taker", "part"] (sp_meth K T.C_Moment T.C_Ditch T.ca isSell) := by
  have G_Ditch_do : FnOk P w K mg base (L2N.CX P w) 10 T.D_Ditch_do.f T.D_Ditch_do.fd ["self", "deed"] (sp_do K T.C_Moment T.C_Ditch (ways20 K T.C_Moment T.ca)) := ok_Ditch_do T
  refine okN_of T.D_Ditch_sell.F sc_Ditch_sell (fun vs H Q E h => ?_) (fun cdv A outer s H vs Q E hr h => ?_)
  · obtain ⟨d, dx, n, p, u, m, ps, us, dd, N, as, rfl, kd, di, hl, wf, da, ok, q⟩ := h
    cases dd with
    | sell a b x =>
      obtain ⟨v, rfl, px⟩ := da
      rfl
    | _ => exact kd.elim
  obtain ⟨d, dx, n, p, u, m, ps, us, dd, N, as, rfl, kd, di, hl, wf, da, ok, q⟩ := h
  cases dd with
  | sell a b x =>
    obtain ⟨v, rfl, px⟩ := da
    obtain ⟨la, lb, ox, lx, oh, of, oq, hN⟩ := ok
    refine ⟨_, (pss_one (ps_expr (pe_meth (pv 0) T.cl_Ditch T.D_Ditch_do.at_ G_Ditch_do (hr.mono (by omega)) T.D_Ditch_do.b .nil (L2N.passes_call (L2N.takes_of rfl rfl rfl rfl) (fun _ _ _ _ z => z)) (pa_cons (pe_tup (pa_cons pe_str (pa_cons (pv 1) (pa_cons (pv 2) (pa_cons (pv 3) pa_nil))))) pa_nil)))), ?_⟩
    refine ⟨_, rfl, d, dx, _, rfl, di.raw, rfl, _, rfl, _, rfl, _, rfl, (by show 4 ≤ sizeLine; decide), fun t nt => ?_⟩
    have st := same_upd (o := .tup [.str ("sell" : Str), .str a, .str b, v]) nt
    have di1 := di.same st
    have ds : SqT K (del (mu d dx p u) (upd H t (.tup [.str ("sell" : Str), .str a, .str b, v]))) t [.str ("sell" : Str), .str a, .str b, v] := sqT_del di1.aside (SqT.of upd_same)
    refine ⟨d, dx, n, p, u, t, m, ps, us, [.str a, .str b, v], "sell", _, rsE T.ca m _, rfl, di1, hl, ds, by show 3 ≤ 1000; decide, (by unfold ways20; rw [if_neg (by decide)]; rw [if_pos rfl]), by decide, fun D nD Q1 E1 h1 => ?_, res_do q rfl rfl st ⟨t, v, rfl, ds, pp_del di1.aside (px.same st)⟩⟩
    have sD := same_upd (o := .lst [.str a, .str b, v]) nD
    have h1 : TurnK K T.C_Moment _ Q1 E1 _ := h1
    exact ⟨n, m, a, b, v, x, N, rfl, di1.now.same sD, wf, la, lb, (pp_del di1.aside (px.same st)).same sD, ox, lx, oh, of, oq, hN, fun a b c e f => h1.no (by rw [judge, judgeG, if_neg (fun z => z ⟨a, b⟩), if_neg c, if_neg (fun z => z e), if_neg (by rw [f]; decide)]), fun a => h1.yes (c := .noField) (by rw [judge, judgeG, if_pos a]), fun a b c => h1.yes (c := .same) (by rw [judge, judgeG, if_neg (fun z => z ⟨a, b⟩), if_pos c]), fun a b c e => h1.yes (c := .noPart) (by rw [judge, judgeG, if_neg (fun z => z ⟨a, b⟩), if_neg c, if_pos e]), fun a b c e f => h1.yes (c := .tooMuch) (by rw [judge, judgeG, if_neg (fun z => z ⟨a, b⟩), if_neg c, if_neg (fun z => z e), if_pos f])⟩
  | _ => exact kd.elim

end
-- END Ditch_sell
abbrev N_Ditch_lend : List Str := ["self", "giver", "taker", "part", "hours"]
theorem sc_Ditch_lend : FnScope N_Ditch_lend ["self", "giver", "taker", "part", "hours"] (defScope s_Ditch_lend) := ⟨rfl, rfl, rfl, by decide +kernel, rfl, by decide +kernel, by decide +kernel⟩
section
variable {P : Program} {w : World} {K : PySem.W.Frag} {mg : Str → Option Value} {base : Heap}
theorem ok_Ditch_lend {k : Nat} (T : Env K w mg) : FnOk P w K mg base (L2N.CX P w) (k + 11) T.D_Ditch_lend.f T.D_Ditch_lend.fd ["self", "giver", "taker", "part", "hours"] (sp_meth K T.C_Moment T.C_Ditch T.ca isLend) := by
  have G_Ditch_do : FnOk P w K mg base (L2N.CX P w) 10 T.D_Ditch_do.f T.D_Ditch_do.fd ["self", "deed"] (sp_do K T.C_Moment T.C_Ditch (ways20 K T.C_Moment T.ca)) := ok_Ditch_do T
  refine okN_of T.D_Ditch_lend.F sc_Ditch_lend (fun vs H Q E h => ?_) (fun cdv A outer s H vs Q E hr h => ?_)
  · obtain ⟨d, dx, n, p, u, m, ps, us, dd, N, as, rfl, kd, di, hl, wf, da, ok, q⟩ := h
    cases dd with
    | lend a b x h =>
      obtain ⟨v, rfl, px⟩ := da
      rfl
    | _ => exact kd.elim
  obtain ⟨d, dx, n, p, u, m, ps, us, dd, N, as, rfl, kd, di, hl, wf, da, ok, q⟩ := h
  cases dd with
  | lend a b x h =>
    obtain ⟨v, rfl, px⟩ := da
    obtain ⟨la, lb, ox, lx, of, oq, dl, hN⟩ := ok
    refine ⟨_, (pss_one (ps_expr (pe_meth (pv 0) T.cl_Ditch T.D_Ditch_do.at_ G_Ditch_do (hr.mono (by omega)) T.D_Ditch_do.b .nil (L2N.passes_call (L2N.takes_of rfl rfl rfl rfl) (fun _ _ _ _ z => z)) (pa_cons (pe_tup (pa_cons pe_str (pa_cons (pv 1) (pa_cons (pv 2) (pa_cons (pv 3) (pa_cons (pv 4) pa_nil)))))) pa_nil)))), ?_⟩
    refine ⟨_, rfl, d, dx, _, rfl, di.raw, rfl, _, rfl, _, rfl, _, rfl, _, rfl, (by show 5 ≤ sizeLine; decide), fun t nt => ?_⟩
    have st := same_upd (o := .tup [.str ("lend" : Str), .str a, .str b, v, .int h]) nt
    have di1 := di.same st
    have ds : SqT K (del (mu d dx p u) (upd H t (.tup [.str ("lend" : Str), .str a, .str b, v, .int h]))) t [.str ("lend" : Str), .str a, .str b, v, .int h] := sqT_del di1.aside (SqT.of upd_same)
    refine ⟨d, dx, n, p, u, t, m, ps, us, [.str a, .str b, v, .int h], "lend", _, rsE T.ca m _, rfl, di1, hl, ds, by show 4 ≤ 1000; decide, (by unfold ways20; rw [if_neg (by decide)]; rw [if_neg (by decide)]; rw [if_pos rfl]), by decide, fun D nD Q1 E1 h1 => ?_, res_do q rfl rfl st ⟨t, v, rfl, ds, pp_del di1.aside (px.same st)⟩⟩
    have sD := same_upd (o := .lst [.str a, .str b, v, .int h]) nD
    have h1 : TurnK K T.C_Moment _ Q1 E1 _ := h1
    exact ⟨n, m, a, b, v, x, h, N, rfl, di1.now.same sD, wf, la, lb, (pp_del di1.aside (px.same st)).same sD, ox, lx, of, oq, dl, hN, fun a b c e g i f => h1.no (by rw [judge, judgeG, if_neg (fun z => z ⟨a, b⟩), if_neg c, if_neg (fun z => z e), if_neg (fun z => z ⟨g, i⟩), if_neg (by rw [f]; decide)]), fun a => h1.yes (c := .noField) (by rw [judge, judgeG, if_pos a]), fun a b c => h1.yes (c := .same) (by rw [judge, judgeG, if_neg (fun z => z ⟨a, b⟩), if_pos c]), fun a b c e => h1.yes (c := .noPart) (by rw [judge, judgeG, if_neg (fun z => z ⟨a, b⟩), if_neg c, if_pos e]), fun a b c e g => h1.yes (c := .noHours) (by rw [judge, judgeG, if_neg (fun z => z ⟨a, b⟩), if_neg c, if_neg (fun z => z e), if_pos g]), fun a b c e g i f => h1.yes (c := .tooMuch) (by rw [judge, judgeG, if_neg (fun z => z ⟨a, b⟩), if_neg c, if_neg (fun z => z e), if_neg (fun z => z ⟨g, i⟩), if_pos f])⟩
  | _ => exact kd.elim

end
-- END Ditch_lend
abbrev N_Ditch_leave : List Str := ["self", "name", "heirs"]
theorem sc_Ditch_leave : FnScope N_Ditch_leave ["self", "name", "heirs"] (defScope s_Ditch_leave) := ⟨rfl, rfl, rfl, by decide +kernel, rfl, by decide +kernel, by decide +kernel⟩
section
variable {P : Program} {w : World} {K : PySem.W.Frag} {mg : Str → Option Value} {base : Heap}
theorem ok_Ditch_leave {k : Nat} (T : Env K w mg) : FnOk P w K mg base (L2N.CX P w) (k + 11) T.D_Ditch_leave.f T.D_Ditch_leave.fd ["self", "name", "heirs"] (sp_meth K T.C_Moment T.C_Ditch T.ca isLeave) := by
  have G_Ditch_do : FnOk P w K mg base (L2N.CX P w) 10 T.D_Ditch_do.f T.D_Ditch_do.fd ["self", "deed"] (sp_do K T.C_Moment T.C_Ditch (ways20 K T.C_Moment T.ca)) := ok_Ditch_do T
  refine okN_of T.D_Ditch_leave.F sc_Ditch_leave (fun vs H Q E h => ?_) (fun cdv A outer s H vs Q E hr h => ?_)
  · obtain ⟨d, dx, n, p, u, m, ps, us, dd, N, as, rfl, kd, di, hl, wf, da, ok, q⟩ := h
    cases dd with
    | leave z hs =>
      obtain ⟨pl, hv, rfl, el, ah⟩ := da
      rfl
    | _ => exact kd.elim
  obtain ⟨d, dx, n, p, u, m, ps, us, dd, N, as, rfl, kd, di, hl, wf, da, ok, q⟩ := h
  cases dd with
  | leave z hs =>
    obtain ⟨pl, hv, rfl, el, ah⟩ := da
    obtain ⟨lz, lh, ln, oh, of, oq, hN⟩ := ok
    refine ⟨_, (pss_one (ps_expr (pe_meth (pv 0) T.cl_Ditch T.D_Ditch_do.at_ G_Ditch_do (hr.mono (by omega)) T.D_Ditch_do.b .nil (L2N.passes_call (L2N.takes_of rfl rfl rfl rfl) (fun _ _ _ _ z => z)) (pa_cons (pe_tup (pa_cons pe_str (pa_cons (pv 1) (pa_cons (L2.pe_tupleOf (by rfl) T.m_tuple (pv 2)) pa_nil)))) pa_nil)))), ?_⟩
    refine ⟨_, rfl, d, dx, _, rfl, di.raw, rfl, _, rfl, _, rfl, .inl ⟨pl, hv, rfl, SqL.of el, fun th nth => ?_⟩⟩
    have s0 := same_upd (o := .tup hv) nth
    have eth : upd H th (.tup hv) th = some (.tup hv) := upd_same
    generalize upd H th (.tup hv) = H0 at s0 eth ⊢
    refine ⟨(by show 3 ≤ sizeLine; decide), fun t nt => ?_⟩
    have st1 := same_upd (o := .tup [.str ("leave" : Str), .str z, .ref th]) nt
    have st := s0.trans st1
    have di1 := di.same st
    have ah1 : Al (HeirV K (del (mu d dx p u) (upd H0 t (.tup [.str ("leave" : Str), .str z, .ref th])))) hv hs := ah.imp fun v h _ k => by
      obtain ⟨y, rfl, k⟩ := k
      exact ⟨y, rfl, sqT_del di1.aside (same_seqT st k)⟩
    have ds : SqT K (del (mu d dx p u) (upd H0 t (.tup [.str ("leave" : Str), .str z, .ref th]))) t [.str ("leave" : Str), .str z, .ref th] := sqT_del di1.aside (SqT.of upd_same)
    refine ⟨d, dx, n, p, u, t, m, ps, us, [.str z, .ref th], "leave", _, rsE T.ca m _, rfl, di1, hl, ds, by show 2 ≤ 1000; decide, (by unfold ways20; rw [if_neg (by decide)]; rw [if_neg (by decide)]; rw [if_neg (by decide)]; rw [if_pos rfl]), by decide, fun D nD Q1 E1 h1 => ?_, res_do q rfl rfl st ⟨t, th, hv, rfl, ds, sqT_del di1.aside (SqT.of (st1 _ _ eth)), ah1⟩⟩
    have sD := same_upd (o := .lst [.str z, .ref th]) nD
    have h1 : TurnK K T.C_Moment _ Q1 E1 _ := h1
    have hbad : ∀ c : Nat, z ∈ m.order → hs ≠ [] → heirBad m.order hs = some c → ∀ G, Same _ G → E1 (.ref (if c = 0 then T.ca .badName else if c = 1 then T.ca .taken else T.ca .noWeight)) none G := fun c a b e => by
      have k := h1.yes (c := if c = 0 then .badName else if c = 1 then .taken else .noWeight) (by rw [judge, judgeG, if_neg (fun z => z a), if_neg b, e])
      by_cases c0 : c = 0
      · rw [if_pos c0] at k ⊢
        exact k
      rw [if_neg c0] at k ⊢
      by_cases c1 : c = 1
      · rw [if_pos c1] at k ⊢
        exact k
      rw [if_neg c1] at k ⊢
      exact k
    exact ⟨n, th, m, z, hv, hs, N, rfl, di1.now.same sD, wf, lz, same_seqT sD (sqT_del di1.aside (SqT.of (st1 _ _ eth))), ah1.imp (fun v h _ k => k.same sD), lh, ln, oh, of, oq, hN, fun a => h1.yes (c := .noField) (by rw [judge, judgeG, if_pos a]), fun a b => h1.yes (c := .noHeirs) (by rw [judge, judgeG, if_neg (fun z => z a), if_pos b]), hbad, fun a b e f => h1.yes (c := .full) (by rw [judge, judgeG, if_neg (fun z => z a), if_neg b, e]; exact if_pos f), fun a b e f => h1.no (by rw [judge, judgeG, if_neg (fun z => z a), if_neg b, e]; exact if_neg (by omega))⟩
  | _ => exact kd.elim

end
-- END Ditch_leave
abbrev N_Ditch_hour : List Str := ["self", "turn", "moment"]
theorem sc_Ditch_hour : FnScope N_Ditch_hour ["self"] (defScope s_Ditch_hour) := ⟨rfl, rfl, rfl, by decide +kernel, rfl, by decide +kernel, by decide +kernel⟩
section
variable {P : Program} {w : World} {K : PySem.W.Frag} {mg : Str → Option Value} {base : Heap}
theorem ok_Ditch_hour {k : Nat} (T : Env K w mg) : FnOk P w K mg base CX0 (k + 7) T.D_Ditch_hour.f T.D_Ditch_hour.fd ["self"] (sp_meth K T.C_Moment T.C_Ditch T.ca isHour) := by
  have G_watered : FnOk P w K mg base CX0 6 T.D_watered.f T.D_watered.fd ["moment"] (frm (sp_water K T.C_Moment)) := fn_frame (ok_watered T)
  have G_Ditch_enter : FnOk P w K mg base CX0 6 T.D_Ditch_enter.f T.D_Ditch_enter.fd ["self", "deed", "moment"] (sp_enter K T.C_Moment T.C_Ditch) := ok_Ditch_enter T
  refine T.D_Ditch_hour.F.ok sc_Ditch_hour (fun vs H Q E h => ?_) (fun cdv A outer s H vs Q E hr h => ?_)
  · obtain ⟨d, dx, n, p, u, m, ps, us, dd, N, as, rfl, kd, di, hl, wf, da, ok, q⟩ := h
    cases dd with
    | hour z =>
      cases da
      rfl
    | _ => exact kd.elim
  obtain ⟨d, dx, n, p, u, m, ps, us, dd, N, as, rfl, kd, di, hl, wf, da, ok, q⟩ := h
  cases dd with
  | hour zz =>
    cases da
    obtain ⟨po, h0, oa, op, hN⟩ := ok
    refine ⟨_, (pss_cons (ps_asg (pe_call G_watered (hr.mono (by omega)) (by rfl) T.D_watered.g T.D_watered.F.kp T.D_watered.b .nil pass0 (pa_cons (pe_fld (pv 0) rfl) pa_nil)) (pg_tup rfl (pgs_cons (pg_name (i := 1) sc_Ditch_hour.nd rfl (.inl rfl)) (pgs_cons (pg_name (i := 2) sc_Ditch_hour.nd rfl (.inl rfl)) pgs_nil))))
      (pss_cons (ps_expr (pe_meth (pv 0) T.cl_Ditch T.D_Ditch_enter.at_ G_Ditch_enter (hr.mono (by omega)) T.D_Ditch_enter.b .nil pass0 (pa_cons (pe_tup (pa_cons pe_str (pa_cons (pv 1) pa_nil))) (pa_cons (pv 2) pa_nil))))
      (pss_one (ps_ret (pv 1))))), ?_⟩
    refine ⟨_, rfl, d, _, dx, _, _, rfl, di.raw, T.cl_Ditch, T.n_Ditch_now, df_now, mu d dx p u, di.aside, n, m, N, rfl, di.now, wf, po, h0, oa, op, hN, fun G t r z s1 nr hz et mr hn => ?_⟩
    have sG := glue_same (H := H) hn
    have di1 : DiAt K T.C_Moment T.C_Ditch (glue (mu d dx p u) H G) d dx n p u m ps us := ⟨by rw [glue_in (by simp)]; exact di.raw, by rw [glue_in (by simp)]; exact di.own, by rw [glue_in (by simp)]; exact di.pas, by rw [glue_in (by simp)]; exact di.und, di.pu, di.now.same (s1.trans sG)⟩
    have et1 := del_same _ _ (sG _ _ et)
    have sA : Same (del (mu d dx p u) H) (del (mu d dx p u) (glue (mu d dx p u) H G)) := s1.trans sG
    have fr : ∀ b, glue (mu d dx p u) H G b = none → H b = none := fun b hb => by
      by_cases hm : b ∈ mu d dx p u
      · rw [glue_in hm] at hb; exact hb
      · rw [glue_out hm] at hb
        have := s1.free hb
        rw [del_out hm] at this
        exact this
    have mr1 := mr.same sG
    generalize glue (mu d dx p u) H G = H1 at di1 et1 sA fr mr1 ⊢
    refine ⟨t, _, rfl, SqT.of et1, rfl, _, _, rfl, _, _, rfl, rfl, ?_⟩
    refine ⟨_, rfl, d, dx, _, rfl, di1.raw, rfl, _, rfl, (by show 2 ≤ sizeLine; decide), fun td ntd => ?_⟩
    have st := same_upd (o := .tup [.str ("hour" : Str), .str z]) ntd
    have ei : ∀ b, b ∈ mu d dx p u → b ≠ td := fun b hb e => by
      obtain ⟨o, eo⟩ := di1.aside.some hb
      rw [e, ntd] at eo
      cases eo
    refine ⟨_, rfl, d, dx, n, p, u, r, m, wateredM m, ps, us, _, rfl, di1.same st, mr1.same (del_mono st), hl, fun H2 t2 u' s2 e2 di2 nu => ?_⟩
    have ez : dueM m = z := by
      unfold dueM
      rw [List.getD_eq_getElem?_getD, hz]
      rfl
    have etd : del (mu d dx p u') H2 td = some (.tup [.str ("hour" : Str), .str z]) := s2 _ _ (by
      rw [del_out (fun hb => ei _ hb rfl)]
      exact upd_same)
    have q : ∀ H' u' r tt t, Same (del (mu d dx p u) H) (del (mu d dx p u') H') → DiAt K T.C_Moment T.C_Ditch H' d dx r p u' (wateredM m) (ps ++ [.ref tt]) [] → del (mu d dx p u') H' tt = some (.tup [.ref t, .ref n]) → DeV K (del (mu d dx p u') H') (.ref t) (.hour (dueM m)) → H u' = none → Q (.str (dueM m)) H' := q
    have q := q H2 u' r t2 td (sA.trans ((del_mono st).trans s2)) di2 e2 ⟨td, rfl, by rw [ez]; exact SqT.of etd⟩ (fr _ (st.free nu))
    rw [ez] at q
    exact ⟨_, rfl, q⟩
  | _ => exact kd.elim

end
-- END Ditch_hour
abbrev N_Ditch_lose : List Str := ["self"]
theorem sc_Ditch_lose : FnScope N_Ditch_lose ["self"] (defScope s_Ditch_lose) := ⟨rfl, rfl, rfl, by decide +kernel, rfl, by decide +kernel, by decide +kernel⟩
section
variable {P : Program} {w : World} {K : PySem.W.Frag} {mg : Str → Option Value} {base : Heap}
theorem ok_Ditch_lose {k : Nat} (T : Env K w mg) : FnOk P w K mg base (L2N.CX P w) (k + 11) T.D_Ditch_lose.f T.D_Ditch_lose.fd ["self"] (sp_meth K T.C_Moment T.C_Ditch T.ca isLose) := by
  have G_Ditch_do : FnOk P w K mg base (L2N.CX P w) 10 T.D_Ditch_do.f T.D_Ditch_do.fd ["self", "deed"] (sp_do K T.C_Moment T.C_Ditch (ways20 K T.C_Moment T.ca)) := ok_Ditch_do T
  refine okN_of T.D_Ditch_lose.F sc_Ditch_lose (fun vs H Q E h => ?_) (fun cdv A outer s H vs Q E hr h => ?_)
  · obtain ⟨d, dx, n, p, u, m, ps, us, dd, N, as, rfl, kd, di, hl, wf, da, ok, q⟩ := h
    cases dd with
    | lose =>
      cases da
      rfl
    | _ => exact kd.elim
  obtain ⟨d, dx, n, p, u, m, ps, us, dd, N, as, rfl, kd, di, hl, wf, da, ok, q⟩ := h
  cases dd with
  | lose =>
    cases da
    have po : PassOk N m := ok
    refine ⟨_, (pss_one (ps_expr (pe_meth (pv 0) T.cl_Ditch T.D_Ditch_do.at_ G_Ditch_do (hr.mono (by omega)) T.D_Ditch_do.b .nil (L2N.passes_call (L2N.takes_of rfl rfl rfl rfl) (fun _ _ _ _ z => z)) (pa_cons (pe_tup (pa_cons pe_str pa_nil)) pa_nil)))), ?_⟩
    refine ⟨_, rfl, d, dx, _, rfl, di.raw, rfl, (by show 1 ≤ sizeLine; decide), fun t nt => ?_⟩
    have st := same_upd (o := .tup [.str ("lose" : Str)]) nt
    have di1 := di.same st
    have ds : SqT K (del (mu d dx p u) (upd H t (.tup [.str ("lose" : Str)]))) t [.str ("lose" : Str)] := sqT_del di1.aside (SqT.of upd_same)
    refine ⟨d, dx, n, p, u, t, m, ps, us, [], "lose", _, rsE T.ca m _, rfl, di1, hl, ds, by show 0 ≤ 1000; decide, (by unfold ways20; rw [if_neg (by decide)]; rw [if_neg (by decide)]; rw [if_neg (by decide)]; rw [if_neg (by decide)]; rw [if_pos rfl]), by decide, fun D nD Q1 E1 h1 => ?_, res_do q rfl rfl st ⟨t, rfl, ds⟩⟩
    have sD := same_upd (o := .lst []) nD
    have h1 : TurnK K T.C_Moment _ Q1 E1 (rsE T.ca m .lose) := h1
    exact ⟨n, m, N, rfl, di1.now.same sD, wf, po, h1.no rfl⟩
  | _ => exact kd.elim

end
-- END Ditch_lose
abbrev N_Ditch_fields : List Str := ["self"]
theorem sc_Ditch_fields : FnScope N_Ditch_fields ["self"] (defScope s_Ditch_fields) := ⟨rfl, rfl, rfl, by decide +kernel, rfl, by decide +kernel, by decide +kernel⟩
section
variable {P : Program} {w : World} {K : PySem.W.Frag} {mg : Str → Option Value} {base : Heap}
theorem ok_Ditch_fields {k : Nat} (T : Env K w mg) : FnOk P w K mg base CX0 (k + 1) T.D_Ditch_fields.f T.D_Ditch_fields.fd ["self"] (sp_get K T.C_Moment T.C_Ditch (gStrs Mo.order)) := by
  refine T.D_Ditch_fields.F.ok sc_Ditch_fields (fun vs H Q E h => ?_) (fun cdv A outer s H vs Q E hr h => ?_)
  · obtain ⟨d, dx, n, p, u, m, ps, us, rfl, _⟩ := h
    rfl
  obtain ⟨d, dx, n, p, u, m, ps, us, rfl, di, q⟩ := h
  refine ⟨_, (pss_one (ps_ret (pe_callTy call_list_of (by rfl) T.m_list PyProof.Rows.boot_list (pa_cons (pe_fld (pe_fld (pv 0) rfl) rfl) pa_nil)))), ?_⟩
  obtain ⟨o, hh, f, q', a, c, b, ⟨dn, en⟩, ls⟩ := di.moH
  refine ⟨_, rfl, d, _, dx, _, _, rfl, di.raw, T.cl_Ditch, T.n_Ditch_now, df_now, n, _, dn, _, _, rfl, en, T.cl_Moment, T.n_Moment_order, mf_order, o, _, rfl, .inl (SqL.of ls.ord), fun r nr => ?_⟩
  exact q _ _ (same_upd nr) ⟨r, rfl, nr, upd_same⟩

end
-- END Ditch_fields
abbrev N_Ditch_lags : List Str := ["self"]
theorem sc_Ditch_lags : FnScope N_Ditch_lags ["self"] (defScope s_Ditch_lags) := ⟨rfl, rfl, rfl, by decide +kernel, rfl, by decide +kernel, by decide +kernel⟩
section
variable {P : Program} {w : World} {K : PySem.W.Frag} {mg : Str → Option Value} {base : Heap}
theorem ok_Ditch_lags {k : Nat} (T : Env K w mg) : FnOk P w K mg base CX0 (k + 1) T.D_Ditch_lags.f T.D_Ditch_lags.fd ["self"] (sp_get K T.C_Moment T.C_Ditch (gPs K Mo.arr)) := by
  refine T.D_Ditch_lags.F.ok sc_Ditch_lags (fun vs H Q E h => ?_) (fun cdv A outer s H vs Q E hr h => ?_)
  · obtain ⟨d, dx, n, p, u, m, ps, us, rfl, _⟩ := h
    rfl
  obtain ⟨d, dx, n, p, u, m, ps, us, rfl, di, q⟩ := h
  refine ⟨_, (pss_one (ps_ret (pe_callTy call_list_of (by rfl) T.m_list PyProof.Rows.boot_list (pa_cons (pe_fld (pe_fld (pv 0) rfl) rfl) pa_nil)))), ?_⟩
  obtain ⟨o, hh, f, q', a, c, b, ⟨dn, en⟩, ls⟩ := di.moH
  obtain ⟨us1, eu, hu⟩ := ls.arr
  refine ⟨_, rfl, d, _, dx, _, _, rfl, di.raw, T.cl_Ditch, T.n_Ditch_now, df_now, n, _, dn, _, _, rfl, en, T.cl_Moment, T.n_Moment_arrears, mf_arrears, a, _, rfl, .inl (SqL.of eu), fun r nr => ?_⟩
  exact q _ _ (same_upd nr) ⟨r, rfl, nr, us1, upd_same, hu.same (same_upd nr)⟩

end
-- END Ditch_lags
abbrev N_Ditch_loans : List Str := ["self"]
theorem sc_Ditch_loans : FnScope N_Ditch_loans ["self"] (defScope s_Ditch_loans) := ⟨rfl, rfl, rfl, by decide +kernel, rfl, by decide +kernel, by decide +kernel⟩
section
variable {P : Program} {w : World} {K : PySem.W.Frag} {mg : Str → Option Value} {base : Heap}
theorem ok_Ditch_loans {k : Nat} (T : Env K w mg) : FnOk P w K mg base CX0 (k + 1) T.D_Ditch_loans.f T.D_Ditch_loans.fd ["self"] (sp_get K T.C_Moment T.C_Ditch (gDebts K)) := by
  refine T.D_Ditch_loans.F.ok sc_Ditch_loans (fun vs H Q E h => ?_) (fun cdv A outer s H vs Q E hr h => ?_)
  · obtain ⟨d, dx, n, p, u, m, ps, us, rfl, _⟩ := h
    rfl
  obtain ⟨d, dx, n, p, u, m, ps, us, rfl, di, q⟩ := h
  refine ⟨_, (pss_one (ps_ret (pe_callTy call_list_of (by rfl) T.m_list PyProof.Rows.boot_list (pa_cons (pe_fld (pe_fld (pv 0) rfl) rfl) pa_nil)))), ?_⟩
  obtain ⟨o, hh, f, q', a, c, b, ⟨dn, en⟩, ls⟩ := di.moH
  obtain ⟨vs1, eu, hu⟩ := ls.deb
  refine ⟨_, rfl, d, _, dx, _, _, rfl, di.raw, T.cl_Ditch, T.n_Ditch_now, df_now, n, _, dn, _, _, rfl, en, T.cl_Moment, T.n_Moment_debts, mf_debts, b, _, rfl, .inl (SqL.of eu), fun r nr => ?_⟩
  exact q _ _ (same_upd nr) ⟨r, vs1, rfl, nr, upd_same, hu.same (same_upd nr)⟩

end
-- END Ditch_loans
abbrev N_Ditch_given : List Str := ["self"]
theorem sc_Ditch_given : FnScope N_Ditch_given ["self"] (defScope s_Ditch_given) := ⟨rfl, rfl, rfl, by decide +kernel, rfl, by decide +kernel, by decide +kernel⟩
section
variable {P : Program} {w : World} {K : PySem.W.Frag} {mg : Str → Option Value} {base : Heap}
theorem ok_Ditch_given {k : Nat} (T : Env K w mg) : FnOk P w K mg base CX0 (k + 1) T.D_Ditch_given.f T.D_Ditch_given.fd ["self"] (sp_get K T.C_Moment T.C_Ditch (gInt Mo.wet)) := by
  refine T.D_Ditch_given.F.ok sc_Ditch_given (fun vs H Q E h => ?_) (fun cdv A outer s H vs Q E hr h => ?_)
  · obtain ⟨d, dx, n, p, u, m, ps, us, rfl, _⟩ := h
    rfl
  obtain ⟨d, dx, n, p, u, m, ps, us, rfl, di, q⟩ := h
  refine ⟨_, (pss_one (ps_ret (pe_fld (pe_fld (pv 0) rfl) rfl))), ?_⟩
  obtain ⟨o, hh, f, q', a, c, b, ⟨dn, en⟩, ls⟩ := di.moH
  exact ⟨_, rfl, d, _, dx, _, _, rfl, di.raw, T.cl_Ditch, T.n_Ditch_now, df_now, n, _, dn, _, _, rfl, en, T.cl_Moment, T.n_Moment_wet, mf_wet, q _ _ (Same.refl _) ⟨rfl, rfl⟩⟩

end
-- END Ditch_given
abbrev N_Ditch_owned : List Str := ["self", "name"]
theorem sc_Ditch_owned : FnScope N_Ditch_owned ["self", "name"] (defScope s_Ditch_owned) := ⟨rfl, rfl, rfl, by decide +kernel, rfl, by decide +kernel, by decide +kernel⟩
section
variable {P : Program} {w : World} {K : PySem.W.Frag} {mg : Str → Option Value} {base : Heap}
theorem ok_Ditch_owned {k : Nat} (T : Env K w mg) : FnOk P w K mg base (L2N.CX P w) (k + 2) T.D_Ditch_owned.f T.D_Ditch_owned.fd ["self", "name"] (sp_field K T.C_Moment T.C_Ditch T.A_NoField (gPart K Mo.hold)) := by
  have G_place_of : FnOk P w K mg base (L2N.CX P w) 1 T.D_place_of.f T.D_place_of.fd ["moment", "name"] (sp_place K T.C_Moment T.A_NoField) := ok_place_of T
  refine okN_of T.D_Ditch_owned.F sc_Ditch_owned (fun vs H Q E h => ?_) (fun cdv A outer s H vs Q E hr h => ?_)
  · obtain ⟨d, dx, n, p, u, m, ps, us, z, rfl, _⟩ := h
    rfl
  obtain ⟨d, dx, n, p, u, m, ps, us, z, rfl, di, wf, hz, q, qe⟩ := h
  refine ⟨_, (pss_one (ps_ret (pe_ix ix_list (pe_fld (pe_fld (pv 0) rfl) rfl) (pe_call G_place_of (hr.mono (by omega)) (by rfl) T.D_place_of.g T.D_place_of.F.kp T.D_place_of.b .nil (L2N.passes_call (L2N.takes_of rfl rfl rfl rfl) (fun _ _ _ _ z => z)) (pa_cons (pe_fld (pv 0) rfl) (pa_cons (pv 1) pa_nil))) (fun _ _ => rfl)))), ?_⟩
  have mo := di.moH
  obtain ⟨o, hh, f, q', a, c, b, ⟨dn, en⟩, ls⟩ := id mo
  obtain ⟨us1, eu, hu⟩ := ls.hol
  refine ⟨_, rfl, d, _, dx, _, _, rfl, di.raw, T.cl_Ditch, T.n_Ditch_now, df_now, n, _, dn, _, _, rfl, en, T.cl_Moment, T.n_Moment_holdings, mf_holdings, _, rfl, d, _, dx, _, _, rfl, di.raw, T.cl_Ditch, T.n_Ditch_now, df_now, _, rfl, n, m, z, rfl, mo, hz, fun e hl => ?_, qe⟩
  obtain ⟨v1, g1, p1⟩ := pps_at hu (item_some (show idxS m.order z < m.hold.length by rw [wf.h]; exact hl))
  exact ⟨hh, us1, _, v1, rfl, rfl, SqL.of eu, atI_nat g1, q e _ _ (Same.refl _) p1⟩

end
-- END Ditch_owned
abbrev N_Ditch_free : List Str := ["self", "name"]
theorem sc_Ditch_free : FnScope N_Ditch_free ["self", "name"] (defScope s_Ditch_free) := ⟨rfl, rfl, rfl, by decide +kernel, rfl, by decide +kernel, by decide +kernel⟩
section
variable {P : Program} {w : World} {K : PySem.W.Frag} {mg : Str → Option Value} {base : Heap}
theorem ok_Ditch_free {k : Nat} (T : Env K w mg) : FnOk P w K mg base (L2N.CX P w) (k + 2) T.D_Ditch_free.f T.D_Ditch_free.fd ["self", "name"] (sp_field K T.C_Moment T.C_Ditch T.A_NoField (gPart K Mo.free)) := by
  have G_place_of : FnOk P w K mg base (L2N.CX P w) 1 T.D_place_of.f T.D_place_of.fd ["moment", "name"] (sp_place K T.C_Moment T.A_NoField) := ok_place_of T
  refine okN_of T.D_Ditch_free.F sc_Ditch_free (fun vs H Q E h => ?_) (fun cdv A outer s H vs Q E hr h => ?_)
  · obtain ⟨d, dx, n, p, u, m, ps, us, z, rfl, _⟩ := h
    rfl
  obtain ⟨d, dx, n, p, u, m, ps, us, z, rfl, di, wf, hz, q, qe⟩ := h
  refine ⟨_, (pss_one (ps_ret (pe_ix ix_list (pe_fld (pe_fld (pv 0) rfl) rfl) (pe_call G_place_of (hr.mono (by omega)) (by rfl) T.D_place_of.g T.D_place_of.F.kp T.D_place_of.b .nil (L2N.passes_call (L2N.takes_of rfl rfl rfl rfl) (fun _ _ _ _ z => z)) (pa_cons (pe_fld (pv 0) rfl) (pa_cons (pv 1) pa_nil))) (fun _ _ => rfl)))), ?_⟩
  have mo := di.moH
  obtain ⟨o, hh, f, q', a, c, b, ⟨dn, en⟩, ls⟩ := id mo
  obtain ⟨us1, eu, hu⟩ := ls.fre
  refine ⟨_, rfl, d, _, dx, _, _, rfl, di.raw, T.cl_Ditch, T.n_Ditch_now, df_now, n, _, dn, _, _, rfl, en, T.cl_Moment, T.n_Moment_frees, mf_frees, _, rfl, d, _, dx, _, _, rfl, di.raw, T.cl_Ditch, T.n_Ditch_now, df_now, _, rfl, n, m, z, rfl, mo, hz, fun e hl => ?_, qe⟩
  obtain ⟨v1, g1, p1⟩ := pps_at hu (item_some (show idxS m.order z < m.free.length by rw [wf.f]; exact hl))
  exact ⟨f, us1, _, v1, rfl, rfl, SqL.of eu, atI_nat g1, q e _ _ (Same.refl _) p1⟩

end
-- END Ditch_free
abbrev N_Ditch_share : List Str := ["self", "name"]
theorem sc_Ditch_share : FnScope N_Ditch_share ["self", "name"] (defScope s_Ditch_share) := ⟨rfl, rfl, rfl, by decide +kernel, rfl, by decide +kernel, by decide +kernel⟩
section
variable {P : Program} {w : World} {K : PySem.W.Frag} {mg : Str → Option Value} {base : Heap}
theorem ok_Ditch_share {k : Nat} (T : Env K w mg) : FnOk P w K mg base (L2N.CX P w) (k + 2) T.D_Ditch_share.f T.D_Ditch_share.fd ["self", "name"] (sp_field K T.C_Moment T.C_Ditch T.A_NoField (gPart K Mo.port)) := by
  have G_place_of : FnOk P w K mg base (L2N.CX P w) 1 T.D_place_of.f T.D_place_of.fd ["moment", "name"] (sp_place K T.C_Moment T.A_NoField) := ok_place_of T
  refine okN_of T.D_Ditch_share.F sc_Ditch_share (fun vs H Q E h => ?_) (fun cdv A outer s H vs Q E hr h => ?_)
  · obtain ⟨d, dx, n, p, u, m, ps, us, z, rfl, _⟩ := h
    rfl
  obtain ⟨d, dx, n, p, u, m, ps, us, z, rfl, di, wf, hz, q, qe⟩ := h
  refine ⟨_, (pss_one (ps_ret (pe_ix ix_list (pe_fld (pe_fld (pv 0) rfl) rfl) (pe_call G_place_of (hr.mono (by omega)) (by rfl) T.D_place_of.g T.D_place_of.F.kp T.D_place_of.b .nil (L2N.passes_call (L2N.takes_of rfl rfl rfl rfl) (fun _ _ _ _ z => z)) (pa_cons (pe_fld (pv 0) rfl) (pa_cons (pv 1) pa_nil))) (fun _ _ => rfl)))), ?_⟩
  have mo := di.moH
  obtain ⟨o, hh, f, q', a, c, b, ⟨dn, en⟩, ls⟩ := id mo
  obtain ⟨us1, eu, hu⟩ := ls.por
  refine ⟨_, rfl, d, _, dx, _, _, rfl, di.raw, T.cl_Ditch, T.n_Ditch_now, df_now, n, _, dn, _, _, rfl, en, T.cl_Moment, T.n_Moment_portions, mf_portions, _, rfl, d, _, dx, _, _, rfl, di.raw, T.cl_Ditch, T.n_Ditch_now, df_now, _, rfl, n, m, z, rfl, mo, hz, fun e hl => ?_, qe⟩
  obtain ⟨v1, g1, p1⟩ := pps_at hu (item_some (show idxS m.order z < m.port.length by rw [wf.q]; exact hl))
  exact ⟨q', us1, _, v1, rfl, rfl, SqL.of eu, atI_nat g1, q e _ _ (Same.refl _) p1⟩

end
-- END Ditch_share
abbrev N_Ditch_lag : List Str := ["self", "name"]
theorem sc_Ditch_lag : FnScope N_Ditch_lag ["self", "name"] (defScope s_Ditch_lag) := ⟨rfl, rfl, rfl, by decide +kernel, rfl, by decide +kernel, by decide +kernel⟩
section
variable {P : Program} {w : World} {K : PySem.W.Frag} {mg : Str → Option Value} {base : Heap}
theorem ok_Ditch_lag {k : Nat} (T : Env K w mg) : FnOk P w K mg base (L2N.CX P w) (k + 2) T.D_Ditch_lag.f T.D_Ditch_lag.fd ["self", "name"] (sp_field K T.C_Moment T.C_Ditch T.A_NoField (gPart K Mo.arr)) := by
  have G_place_of : FnOk P w K mg base (L2N.CX P w) 1 T.D_place_of.f T.D_place_of.fd ["moment", "name"] (sp_place K T.C_Moment T.A_NoField) := ok_place_of T
  refine okN_of T.D_Ditch_lag.F sc_Ditch_lag (fun vs H Q E h => ?_) (fun cdv A outer s H vs Q E hr h => ?_)
  · obtain ⟨d, dx, n, p, u, m, ps, us, z, rfl, _⟩ := h
    rfl
  obtain ⟨d, dx, n, p, u, m, ps, us, z, rfl, di, wf, hz, q, qe⟩ := h
  refine ⟨_, (pss_one (ps_ret (pe_ix ix_list (pe_fld (pe_fld (pv 0) rfl) rfl) (pe_call G_place_of (hr.mono (by omega)) (by rfl) T.D_place_of.g T.D_place_of.F.kp T.D_place_of.b .nil (L2N.passes_call (L2N.takes_of rfl rfl rfl rfl) (fun _ _ _ _ z => z)) (pa_cons (pe_fld (pv 0) rfl) (pa_cons (pv 1) pa_nil))) (fun _ _ => rfl)))), ?_⟩
  have mo := di.moH
  obtain ⟨o, hh, f, q', a, c, b, ⟨dn, en⟩, ls⟩ := id mo
  obtain ⟨us1, eu, hu⟩ := ls.arr
  refine ⟨_, rfl, d, _, dx, _, _, rfl, di.raw, T.cl_Ditch, T.n_Ditch_now, df_now, n, _, dn, _, _, rfl, en, T.cl_Moment, T.n_Moment_arrears, mf_arrears, _, rfl, d, _, dx, _, _, rfl, di.raw, T.cl_Ditch, T.n_Ditch_now, df_now, _, rfl, n, m, z, rfl, mo, hz, fun e hl => ?_, qe⟩
  obtain ⟨v1, g1, p1⟩ := pps_at hu (item_some (show idxS m.order z < m.arr.length by rw [wf.a]; exact hl))
  exact ⟨a, us1, _, v1, rfl, rfl, SqL.of eu, atI_nat g1, q e _ _ (Same.refl _) p1⟩

end
-- END Ditch_lag
end DT
namespace DT
open PySem PySem.Spec PyProof.Rows L2
/-! ### the law's own state with loans -/
def outs (st : LSt) (z : Str) : List Q2 := (st.loans.filter fun d => decide (d.1 = z)).map fun d => d.2.2.1
def inns (st : LSt) (z : Str) : List Q2 := (st.loans.filter fun d => decide (d.2.1 = z)).map fun d => d.2.2.1
def lfree (st : LSt) (z : Str) : Q2 := subP (itemP st.own (idxS st.names z)) (sumP (outs st z))
def lshare (st : LSt) (z : Str) : Q2 := addP (lfree st z) (sumP (inns st z))
def llagz (st : LSt) (z : Str) : Q2 := llag st (idxS st.names z)
def dueS (st : LSt) : Str := st.names.getD (hourM (st.names.map (llagz st)) (st.names.map (lshare st))).1 ""
/-- that all is small enough to be reckoned with -/
structure LOk (N : Nat) (st : LSt) : Prop where
  wl : Wl st
  n1 : 1 ≤ N
  n2 : N ≤ 4440
  nl : st.loans.length ≤ 900
  oo : AllOk N st.own
  og : AllOk N st.gain
  oc : ∀ x ∈ st.cnt, Bd N x
  lp : ∀ d ∈ st.loans, Ok N d.2.2.1
  so : ∀ z i, Ok N (sumP ((outs st z).take i))
  si : ∀ z i, Ok N (sumP ((inns st z).take i))
  of : ∀ z ∈ st.names, Ok N (lfree st z)
  os : ∀ z ∈ st.names, Ok N (lshare st z)
  ol : ∀ z ∈ st.names, Ok N (llagz st z)
def sp_lz (K : PySem.W.Frag) (f : LSt → Str → Q2) : Sp := fun vs H Q _ => ∃ (s : Addr) (st : LSt) (z : Str) (N : Nat), vs = [.ref s, .str z] ∧ StAt K H s st ∧ LOk N st ∧ z ∈ st.names ∧ ∀ H' v, Same H H' → Pp K H' v (f st z) → Q v H'
/-- a sum whose parts stay small -/
def sp_sumB (K : PySem.W.Frag) : Sp := fun vs H Q _ => ∃ (l : Addr) (us : List V) (xs : List Q2) (N : Nat), vs = [.ref l] ∧ SqL K H l us ∧ Pps K H us xs ∧ (∀ x ∈ xs, Ok N x) ∧ (∀ i, Ok N (sumP (xs.take i))) ∧ N + N ≤ 8890 ∧
  ∀ H' r, Same H H' → Pp K H' r (sumP xs) → Q r H'
theorem filt_snoc {ds : List Debt} {p : Debt → Bool} {i : Nat} {d : Debt} (e : ds[i]? = some d) : ((ds.take (i + 1)).filter p).map (fun d => d.2.2.1) = if p d = true then ((ds.take i).filter p).map (fun d => d.2.2.1) ++ [d.2.2.1] else ((ds.take i).filter p).map (fun d => d.2.2.1) := by
  rw [List.take_add_one, e, List.filter_append, List.map_append]
  cases h : p d with
  | true => rw [if_pos rfl]; simp [h]
  | false => rw [if_neg (by decide)]; simp [h]
theorem filt_len {ds : List Debt} {p : Debt → Bool} : ((ds.filter p).map (fun d => d.2.2.1)).length ≤ ds.length := by
  rw [List.length_map]
  exact List.length_filter_le _ _
theorem out_ok {N : Nat} {st : LSt} (h : LOk N st) {p : Debt → Bool} : ∀ x ∈ (st.loans.filter p).map (fun d => d.2.2.1), Ok N x := fun x hx => by
  obtain ⟨d, hd, rfl⟩ := List.mem_map.1 hx
  exact h.lp d ((List.mem_filter.1 hd).1)
end DT
namespace DT
open PySem PySem.Spec PyProof.Rows L2
def sp_due (K : PySem.W.Frag) : Sp := fun vs H Q _ => ∃ (s : Addr) (st : LSt) (N : Nat), vs = [.ref s] ∧ StAt K H s st ∧ LOk N st ∧ 0 < st.names.length ∧ N ≤ 1850 ∧ ∀ H', Same H H' → Q (.str (dueS st)) H'
theorem LOk.lo {N : Nat} {st : LSt} (h : LOk N st) {z : Str} (hz : z ∈ st.names) : Low (llagz st z).1 (llagz st z).2 := by
  have hi := idx_lt hz
  exact sub_low (item_ok h.og (by rw [h.wl.g]; exact hi)).1.pos (by show (0 : Int) < 1; decide)
theorem LOk.lf {N : Nat} {st : LSt} (h : LOk N st) {z : Str} (hz : z ∈ st.names) : Low (lfree st z).1 (lfree st z).2 := by
  have hi := idx_lt hz
  have os := h.so z (outs st z).length
  rw [List.take_of_length_le (Nat.le_refl _)] at os
  exact sub_low (item_ok h.oo (by rw [h.wl.o]; exact hi)).1.pos os.pos
theorem LOk.ls {N : Nat} {st : LSt} (h : LOk N st) {z : Str} (hz : z ∈ st.names) : Low (lshare st z).1 (lshare st z).2 := by
  have os := h.si z (inns st z).length
  rw [List.take_of_length_le (Nat.le_refl _)] at os
  exact addP_low (h.of z hz).pos os.pos
theorem LOk.lags {N : Nat} {st : LSt} (h : LOk N st) : AllOk N (st.names.map (llagz st)) := fun x hx => by
  obtain ⟨z, hz, rfl⟩ := List.mem_map.1 hx
  exact ⟨h.ol z hz, h.lo hz⟩
theorem LOk.shares {N : Nat} {st : LSt} (h : LOk N st) : AllOk N (st.names.map (lshare st)) := fun x hx => by
  obtain ⟨z, hz, rfl⟩ := List.mem_map.1 hx
  exact ⟨h.os z hz, h.ls hz⟩
theorem map_snoc {α β : Type} {l : List α} {f : α → β} {i : Nat} {x : α} (e : l[i]? = some x) : (l.take (i + 1)).map f = (l.take i).map f ++ [f x] := by
  rw [List.take_add_one, e, List.map_append]
  rfl
theorem due_lt {N : Nat} {st : LSt} (h : LOk N st) (h0 : 0 < st.names.length) : (hourM (st.names.map (llagz st)) (st.names.map (lshare st))).1 < st.names.length := by
  have := (hour_ok h.lags h.shares (by rw [List.length_map, List.length_map]) (by rw [List.length_map]; exact h0)).2.2
  rw [List.length_map] at this
  exact this
theorem due_at {N : Nat} {st : LSt} (h : LOk N st) (h0 : 0 < st.names.length) : st.names[(hourM (st.names.map (llagz st)) (st.names.map (lshare st))).1]? = some (dueS st) := by
  have := due_lt h h0
  unfold dueS
  rw [List.getElem?_eq_getElem this, List.getD, List.getElem?_eq_getElem this]
  rfl
theorem due_in {N : Nat} {st : LSt} (h : LOk N st) (h0 : 0 < st.names.length) : dueS st ∈ st.names := List.mem_of_getElem? (due_at h h0)
end DT

namespace DT
open PySem PySem.Spec PyProof.Rows L2 TL
-- END @loans.lean
end DT
namespace DT
open PySem PySem.Spec PyProof.Rows L2
/-! ### what the drawing of deeds looks at: names, what each owns, loans -/
structure StVi (K : PySem.W.Frag) (H : Hp) (kvs : List (Key × V)) (st : LSt) (an al ao : Addr) (ovs lvs : List V) : Prop where
  vn : valV kvs (Sum.inr ("names" : Str)) = some (.ref an)
  vl : valV kvs (Sum.inr ("loans" : Str)) = some (.ref al)
  vo : valV kvs (Sum.inr ("own" : Str)) = some (.ref ao)
  en : H an = some (.lst (st.names.map V.str))
  el : H al = some (.lst lvs)
  dl : Dbts K H lvs st.loans
  eo : H ao = some (.dK (zk st.names ovs))
  po : Pps K H ovs st.own
def StV (K : PySem.W.Frag) (H : Hp) (s : Addr) (st : LSt) : Prop := ∃ kvs an al ao ovs lvs, H s = some (.dK kvs) ∧ StVi K H kvs st an al ao ovs lvs
theorem StV.same {K : PySem.W.Frag} {H H' : Hp} {s : Addr} {st : LSt} (h : StV K H s st) (e : Same H H') : StV K H' s st := by
  obtain ⟨kvs, an, al, ao, ovs, lvs, es, k⟩ := h
  exact ⟨kvs, an, al, ao, ovs, lvs, e _ _ es, k.vn, k.vl, k.vo, e _ _ k.en, e _ _ k.el, k.dl.same e, e _ _ k.eo, k.po.same e⟩
theorem StAt.v {K : PySem.W.Frag} {H : Hp} {s : Addr} {st : LSt} (h : StAt K H s st) : StV K H s st := by
  obtain ⟨kvs, an, al, ao, ag, ac, ovs, gvs, lvs, es, k⟩ := h
  exact ⟨kvs, an, al, ao, ovs, lvs, es, k.vn, k.vl, k.vo, k.en, k.el, k.dl, k.eo, k.po⟩
structure VOk (N : Nat) (st : LSt) : Prop where
  o : st.own.length = st.names.length
  few : st.names.length ≤ 24
  n1 : 1 ≤ N
  n2 : N ≤ 4440
  nl : st.loans.length ≤ 900
  oo : AllOk N st.own
  lp : ∀ d ∈ st.loans, Ok N d.2.2.1
  so : ∀ z i, Ok N (sumP ((outs st z).take i))
theorem LOk.v {N : Nat} {st : LSt} (h : LOk N st) : VOk N st := ⟨h.wl.o, h.wl.few, h.n1, h.n2, h.nl, h.oo, h.lp, h.so⟩
theorem out_okV {N : Nat} {st : LSt} (h : VOk N st) {p : Debt → Bool} : ∀ x ∈ (st.loans.filter p).map (fun d => d.2.2.1), Ok N x := fun x hx => by
  obtain ⟨d, hd, rfl⟩ := List.mem_map.1 hx
  exact h.lp d ((List.mem_filter.1 hd).1)
def sp_freeV (K : PySem.W.Frag) : Sp := fun vs H Q _ => ∃ (s : Addr) (st : LSt) (z : Str) (N : Nat), vs = [.ref s, .str z] ∧ StV K H s st ∧ VOk N st ∧ z ∈ st.names ∧ ∀ H' v, Same H H' → Pp K H' v (lfree st z) → Q v H'
end DT

namespace DT
open PySem PySem.Spec PyProof.Rows L2 TL
-- END @view.lean
abbrev N__law_flow : List Str := ["_law_script", "_law_many", "_law_great", "_law_row", "_law_k", "_law_cell", "_law_mixed"]
theorem sc__law_flow : FnScope N__law_flow ["_law_script", "_law_many"] (defScope s__law_flow) := ⟨rfl, rfl, rfl, by decide +kernel, rfl, by decide +kernel, by decide +kernel⟩
section
variable {P : Program} {w : World} {K : PySem.W.Frag} {mg : Str → Option Value} {base : Heap}
def rs0 (rs : List Int) (z : Int) : List Int := rs ++ [z]
def sp__law_flow (K : PySem.W.Frag) : Sp := fun vs H Q _ => ∃ (a : Addr) (ns : List Int) (m : Nat), vs = [.ref a, .int m] ∧ SqL K H a (ns.map V.int) ∧ ns.length ≤ 63 ∧ m ≤ 500 ∧
  ∀ H' v rs, Same H H' → Ls H' v rs → rs.length = m → (∀ r ∈ rs, 0 ≤ r ∧ r < 1000000) → Q v H'
theorem ok__law_flow {k : Nat} (D : Df K mg "_law_flow" s__law_flow ["_law_script", "_law_many"]) (m_abs : mg "abs" = none) (m_len : mg "len" = none) (m_range : mg "range" = none) :
    FnOk P w K mg base CX0 (k + 1) D.f D.fd ["_law_script", "_law_many"] (sp__law_flow K) := by
  refine D.F.ok sc__law_flow (fun vs H Q E h => ?_) (fun cdv A outer s H vs Q E hr h => ?_)
  · obtain ⟨a, ns, m, rfl, _⟩ := h
    rfl
  · obtain ⟨a, ns, m, rfl, hS, hlen, hm, q⟩ := h
    refine ⟨_, (pss_cons (ps_set (i := 2) sc__law_flow.nd rfl (.inl rfl) pe_int)
      (pss_cons (ps_if (PW.pt (pw_and (pt_cmpR op_gt (pe_callB call_len_seq (by rfl) m_len PySem.boot_len (pa_cons (pv 0) pa_nil)) pe_int (nomark _)) (pw_and1 (pt_cmpR op_ge (pe_callB call_abs (by rfl) m_abs boot_abs (pa_cons (pe_ix ix_list (pv 0) pe_int (fun _ _ => rfl)) pa_nil)) (pe_op op_pow pe_int pe_int) (nomark _))))) (pss_one (ps_set (i := 2) sc__law_flow.nd rfl (.inl rfl) (pe_op op_sub (pe_callB call_abs (by rfl) m_abs boot_abs (pa_cons (pe_ix ix_list (pv 0) pe_int (fun _ _ => rfl)) pa_nil)) (pe_op op_pow pe_int pe_int)))) pss_nil)
      (pss_cons (ps_set (i := 3) sc__law_flow.nd rfl (.inl rfl) (pe_lst pa_nil))
      (pss_cons (ps_for PassesOwn.never rfl (pi_range1 (by rfl) m_range (pa_cons (pv 1) pa_nil)) (pg_name (i := 4) sc__law_flow.nd rfl (.inl rfl)) (pss_one (ps_if (pt_cmpR op_gt (pv 2) pe_int (nomark _)) (pss_cons (ps_expr (pe_bm PySem.F.plainAttrs_list PySem.F.slot_list_append PySem.F.type_list_append mt_append (pv 3) (pa_cons (pe_op op_mod (pv 2) pe_int) pa_nil)))
      (pss_one (ps_set (i := 2) sc__law_flow.nd rfl (.inl rfl) (pe_op op_fdivW (pv 2) pe_int)))) (pss_cons (ps_set (i := 5) sc__law_flow.nd rfl (.inl rfl) (pe_op op_add (pv 4) pe_int))
      (pss_cons (ps_if (pt_cmpR op_gt (pe_callB call_len_seq (by rfl) m_len PySem.boot_len (pa_cons (pv 0) pa_nil)) pe_int (nomark _)) (pss_one (ps_set (i := 5) sc__law_flow.nd rfl (.inl rfl) (pe_ix ix_list (pv 0) (pe_op op_mod (pv 4) (pe_callB call_len_seq (by rfl) m_len PySem.boot_len (pa_cons (pv 0) pa_nil))) (fun _ _ => rfl)))) pss_nil)
      (pss_cons (ps_set (i := 6) sc__law_flow.nd rfl (.inl rfl) (pe_op op_mod (pe_op op_add (pe_op op_add (pe_op op_mul (pv 5) pe_int) (pe_op op_mul (pv 4) pe_int)) pe_int) pe_int))
      (pss_cons (ps_set (i := 6) sc__law_flow.nd rfl (.inl rfl) (pe_op op_mod (pe_op op_add (pe_op op_add (pe_op op_mul (pv 6) pe_int) (pe_op op_mul (pv 4) pe_int)) (pe_callB call_len_seq (by rfl) m_len PySem.boot_len (pa_cons (pv 0) pa_nil))) pe_int))
      (pss_one (ps_expr (pe_bm PySem.F.plainAttrs_list PySem.F.slot_list_append PySem.F.type_list_append mt_append (pv 3) (pa_cons (pe_op op_mod (pe_op op_fdivW (pv 6) pe_int) pe_int) pa_nil)))))))))))
      (pss_one (ps_ret (pv 3))))))), ?_⟩
    -- the loop and what follows, for any great
    have c1 : ∀ x : Int, CDivW x 1000000 := fun x => bd_divok (n := 20) (by decide) (by unfold Bd; decide) (by decide)
    have c19 : ∀ x : Int, CDivW x 19 := fun x => bd_divok (n := 20) (by decide) (by unfold Bd; decide) (by decide)
    have mk : ∀ x c : Int, -(2 ^ 64) < c → c < 2 ^ 64 → CMul x c := fun x c h1 h2 => .inr ⟨h1, h2⟩
    refine ⟨_, rfl, a, _, rfl, .inl hS, _, _, rfl, rfl, _, rfl, ite2 (fun e => ?_) (fun e => ?_)⟩
    · have hpos : 0 < ns.length := by
        have := of_decide_eq_true e
        rw [List.length_map] at this
        omega
      have g0 : atI (ns.map V.int) 0 = some (.int (ns.getD 0 0)) := ls_at (j := 0) hpos
      refine ⟨_, rfl, a, _, 0, _, rfl, rfl, hS, g0, _, rfl, _, _, rfl, rfl, ⟨by decide, by decide, by decide⟩, _, _, rfl, rfl, _, rfl, ite2 (fun e2 => ?_) (fun e2 => ?_)⟩
      · refine ⟨_, rfl, a, _, 0, _, rfl, rfl, hS, g0, _, rfl, _, _, rfl, rfl, ⟨by decide, by decide, by decide⟩, _, _, rfl, rfl, ?_⟩
        refine ⟨Nat.zero_le _, fun p hp => ?_⟩
        refine ⟨_, rfl, (m : Int), rfl, (by omega), (by omega), ?_⟩
        refine for_range (n := m) (fun i σ H3 => ∃ (g : Int) (rs : List Int) (y4 y5 y6 : Option V), σ = [some (.ref a), some (.int m), some (.int g), some (.ref p), y4, y5, y6] ∧ Same H H3 ∧ H3 p = some (.lst (rs.map V.int)) ∧ rs.length = i ∧ ∀ r ∈ rs, 0 ≤ r ∧ r < 1000000)
          ⟨_, [], _, _, _, rfl, same_upd hp, upd_same, rfl, fun r hr => nomatch hr⟩ (fun i σ H3 hi hW => ?_) (fun σ H3 hW => ?_)
        · obtain ⟨g, rs, y4, y5, y6, rfl, sm, hL, hl, hb⟩ := hW
          have hS3 := sm.seq hS
          have step : ∀ (z : Int), (0 ≤ z ∧ z < 1000000) →
              Same H (upd H3 p (.lst ((rs0 rs z).map V.int))) ∧ (upd H3 p (.lst ((rs0 rs z).map V.int))) p = some (.lst ((rs0 rs z).map V.int)) ∧ (rs0 rs z).length = i + 1 ∧ ∀ r ∈ rs0 rs z, 0 ≤ r ∧ r < 1000000 := by
            intro z hz
            refine ⟨fun b o eb => ?_, upd_same, ?_, ?_⟩
            · rw [upd_ne (ne_of_none eb hp)]
              exact sm _ _ eb
            · unfold rs0
              rw [List.length_append, hl]
              rfl
            · intro r hr
              unfold rs0 at hr
              rcases List.mem_append.1 hr with h | h
              · exact hb r h
              · rw [List.mem_singleton.1 h]
                exact hz
          have em : ∀ z : Int, (rs.map V.int) ++ [V.int z] = (rs0 rs z).map V.int := fun z => by
            unfold rs0
            rw [List.map_append]
            rfl
          have hsz : (rs.map V.int).length < sizeLine := small1000 (by rw [List.length_map]; omega)
          refine ⟨_, rfl, _, _, rfl, rfl, _, rfl, ite2 (fun e => ?_) (fun e => ?_)⟩
          · refine ⟨_, rfl, .inl ⟨rfl, _, SqL.of hL⟩, _, rfl, _, _, rfl, rfl, (by show (0 : Int) < _; decide), p, _, _, rfl, rfl, hL, hsz, ?_⟩
            rw [em]
            refine ⟨_, rfl, _, _, rfl, rfl, c1 _, ?_⟩
            exact ⟨_, _, _, _, _, rfl, step _ ⟨Int.emod_nonneg _ (by decide), Int.emod_lt_of_pos _ (by decide)⟩⟩
          · refine ⟨_, rfl, _, _, rfl, rfl, ?_⟩
            refine ⟨_, rfl, a, _, rfl, .inl hS3, _, _, rfl, rfl, _, rfl, ite2 (fun e1 => ?_) (fun e1 => ?_)⟩
            · have hpos : 0 < ns.length := by
                have := of_decide_eq_true e1
                rw [List.length_map] at this
                omega
              have hlt : i % ns.length < ns.length := Nat.mod_lt _ hpos
              have gk : atI (ns.map V.int) ((0 + (i : Int)) % ((ns.map V.int).length : Int)) = some (.int (ns.getD (i % ns.length) 0)) := by
                rw [Int.zero_add, List.length_map, ← Int.natCast_emod]
                exact ls_at hlt
              refine ⟨_, rfl, _, rfl, _, rfl, a, _, rfl, .inl hS3, _, _, rfl, rfl, (by rw [List.length_map]; omega), a, _, _, _, rfl, rfl, hS3, gk, ?_⟩
              refine ⟨_, rfl, _, _, rfl, rfl, mk _ _ (by decide) (by decide), _, rfl, _, _, rfl, rfl, mk _ _ (by decide) (by decide), _, _, rfl, rfl, _, _, rfl, rfl, _, _, rfl, rfl, (by show (0 : Int) < _; decide), ?_⟩
              refine ⟨_, rfl, _, _, rfl, rfl, mk _ _ (by decide) (by decide), _, rfl, _, _, rfl, rfl, mk _ _ (by decide) (by decide), _, _, rfl, rfl, _, rfl, a, _, rfl, .inl hS3, _, _, rfl, rfl, _, _, rfl, rfl, (by show (0 : Int) < _; decide), ?_⟩
              refine ⟨_, rfl, .inl ⟨rfl, _, SqL.of hL⟩, _, rfl, _, _, rfl, rfl, c19 _, _, _, rfl, rfl, (by show (0 : Int) < _; decide), p, _, _, rfl, rfl, hL, hsz, ?_⟩
              rw [em]
              exact ⟨_, _, _, _, _, rfl, step _ ⟨Int.emod_nonneg _ (by decide), Int.emod_lt_of_pos _ (by decide)⟩⟩
            · refine ⟨_, rfl, _, _, rfl, rfl, mk _ _ (by decide) (by decide), _, rfl, _, _, rfl, rfl, mk _ _ (by decide) (by decide), _, _, rfl, rfl, _, _, rfl, rfl, _, _, rfl, rfl, (by show (0 : Int) < _; decide), ?_⟩
              refine ⟨_, rfl, _, _, rfl, rfl, mk _ _ (by decide) (by decide), _, rfl, _, _, rfl, rfl, mk _ _ (by decide) (by decide), _, _, rfl, rfl, _, rfl, a, _, rfl, .inl hS3, _, _, rfl, rfl, _, _, rfl, rfl, (by show (0 : Int) < _; decide), ?_⟩
              refine ⟨_, rfl, .inl ⟨rfl, _, SqL.of hL⟩, _, rfl, _, _, rfl, rfl, c19 _, _, _, rfl, rfl, (by show (0 : Int) < _; decide), p, _, _, rfl, rfl, hL, hsz, ?_⟩
              rw [em]
              exact ⟨_, _, _, _, _, rfl, step _ ⟨Int.emod_nonneg _ (by decide), Int.emod_lt_of_pos _ (by decide)⟩⟩
        · obtain ⟨g, rs, y4, y5, y6, rfl, sm, hL, hl, hb⟩ := hW
          exact ⟨_, rfl, q H3 _ rs sm ⟨p, rfl, hL⟩ hl hb⟩
      · refine ⟨Nat.zero_le _, fun p hp => ?_⟩
        refine ⟨_, rfl, (m : Int), rfl, (by omega), (by omega), ?_⟩
        refine for_range (n := m) (fun i σ H3 => ∃ (g : Int) (rs : List Int) (y4 y5 y6 : Option V), σ = [some (.ref a), some (.int m), some (.int g), some (.ref p), y4, y5, y6] ∧ Same H H3 ∧ H3 p = some (.lst (rs.map V.int)) ∧ rs.length = i ∧ ∀ r ∈ rs, 0 ≤ r ∧ r < 1000000)
          ⟨_, [], _, _, _, rfl, same_upd hp, upd_same, rfl, fun r hr => nomatch hr⟩ (fun i σ H3 hi hW => ?_) (fun σ H3 hW => ?_)
        · obtain ⟨g, rs, y4, y5, y6, rfl, sm, hL, hl, hb⟩ := hW
          have hS3 := sm.seq hS
          have step : ∀ (z : Int), (0 ≤ z ∧ z < 1000000) →
              Same H (upd H3 p (.lst ((rs0 rs z).map V.int))) ∧ (upd H3 p (.lst ((rs0 rs z).map V.int))) p = some (.lst ((rs0 rs z).map V.int)) ∧ (rs0 rs z).length = i + 1 ∧ ∀ r ∈ rs0 rs z, 0 ≤ r ∧ r < 1000000 := by
            intro z hz
            refine ⟨fun b o eb => ?_, upd_same, ?_, ?_⟩
            · rw [upd_ne (ne_of_none eb hp)]
              exact sm _ _ eb
            · unfold rs0
              rw [List.length_append, hl]
              rfl
            · intro r hr
              unfold rs0 at hr
              rcases List.mem_append.1 hr with h | h
              · exact hb r h
              · rw [List.mem_singleton.1 h]
                exact hz
          have em : ∀ z : Int, (rs.map V.int) ++ [V.int z] = (rs0 rs z).map V.int := fun z => by
            unfold rs0
            rw [List.map_append]
            rfl
          have hsz : (rs.map V.int).length < sizeLine := small1000 (by rw [List.length_map]; omega)
          refine ⟨_, rfl, _, _, rfl, rfl, _, rfl, ite2 (fun e => ?_) (fun e => ?_)⟩
          · refine ⟨_, rfl, .inl ⟨rfl, _, SqL.of hL⟩, _, rfl, _, _, rfl, rfl, (by show (0 : Int) < _; decide), p, _, _, rfl, rfl, hL, hsz, ?_⟩
            rw [em]
            refine ⟨_, rfl, _, _, rfl, rfl, c1 _, ?_⟩
            exact ⟨_, _, _, _, _, rfl, step _ ⟨Int.emod_nonneg _ (by decide), Int.emod_lt_of_pos _ (by decide)⟩⟩
          · refine ⟨_, rfl, _, _, rfl, rfl, ?_⟩
            refine ⟨_, rfl, a, _, rfl, .inl hS3, _, _, rfl, rfl, _, rfl, ite2 (fun e1 => ?_) (fun e1 => ?_)⟩
            · have hpos : 0 < ns.length := by
                have := of_decide_eq_true e1
                rw [List.length_map] at this
                omega
              have hlt : i % ns.length < ns.length := Nat.mod_lt _ hpos
              have gk : atI (ns.map V.int) ((0 + (i : Int)) % ((ns.map V.int).length : Int)) = some (.int (ns.getD (i % ns.length) 0)) := by
                rw [Int.zero_add, List.length_map, ← Int.natCast_emod]
                exact ls_at hlt
              refine ⟨_, rfl, _, rfl, _, rfl, a, _, rfl, .inl hS3, _, _, rfl, rfl, (by rw [List.length_map]; omega), a, _, _, _, rfl, rfl, hS3, gk, ?_⟩
              refine ⟨_, rfl, _, _, rfl, rfl, mk _ _ (by decide) (by decide), _, rfl, _, _, rfl, rfl, mk _ _ (by decide) (by decide), _, _, rfl, rfl, _, _, rfl, rfl, _, _, rfl, rfl, (by show (0 : Int) < _; decide), ?_⟩
              refine ⟨_, rfl, _, _, rfl, rfl, mk _ _ (by decide) (by decide), _, rfl, _, _, rfl, rfl, mk _ _ (by decide) (by decide), _, _, rfl, rfl, _, rfl, a, _, rfl, .inl hS3, _, _, rfl, rfl, _, _, rfl, rfl, (by show (0 : Int) < _; decide), ?_⟩
              refine ⟨_, rfl, .inl ⟨rfl, _, SqL.of hL⟩, _, rfl, _, _, rfl, rfl, c19 _, _, _, rfl, rfl, (by show (0 : Int) < _; decide), p, _, _, rfl, rfl, hL, hsz, ?_⟩
              rw [em]
              exact ⟨_, _, _, _, _, rfl, step _ ⟨Int.emod_nonneg _ (by decide), Int.emod_lt_of_pos _ (by decide)⟩⟩
            · refine ⟨_, rfl, _, _, rfl, rfl, mk _ _ (by decide) (by decide), _, rfl, _, _, rfl, rfl, mk _ _ (by decide) (by decide), _, _, rfl, rfl, _, _, rfl, rfl, _, _, rfl, rfl, (by show (0 : Int) < _; decide), ?_⟩
              refine ⟨_, rfl, _, _, rfl, rfl, mk _ _ (by decide) (by decide), _, rfl, _, _, rfl, rfl, mk _ _ (by decide) (by decide), _, _, rfl, rfl, _, rfl, a, _, rfl, .inl hS3, _, _, rfl, rfl, _, _, rfl, rfl, (by show (0 : Int) < _; decide), ?_⟩
              refine ⟨_, rfl, .inl ⟨rfl, _, SqL.of hL⟩, _, rfl, _, _, rfl, rfl, c19 _, _, _, rfl, rfl, (by show (0 : Int) < _; decide), p, _, _, rfl, rfl, hL, hsz, ?_⟩
              rw [em]
              exact ⟨_, _, _, _, _, rfl, step _ ⟨Int.emod_nonneg _ (by decide), Int.emod_lt_of_pos _ (by decide)⟩⟩
        · obtain ⟨g, rs, y4, y5, y6, rfl, sm, hL, hl, hb⟩ := hW
          exact ⟨_, rfl, q H3 _ rs sm ⟨p, rfl, hL⟩ hl hb⟩
    · refine ⟨Nat.zero_le _, fun p hp => ?_⟩
      refine ⟨_, rfl, (m : Int), rfl, (by omega), (by omega), ?_⟩
      refine for_range (n := m) (fun i σ H3 => ∃ (g : Int) (rs : List Int) (y4 y5 y6 : Option V), σ = [some (.ref a), some (.int m), some (.int g), some (.ref p), y4, y5, y6] ∧ Same H H3 ∧ H3 p = some (.lst (rs.map V.int)) ∧ rs.length = i ∧ ∀ r ∈ rs, 0 ≤ r ∧ r < 1000000)
        ⟨_, [], _, _, _, rfl, same_upd hp, upd_same, rfl, fun r hr => nomatch hr⟩ (fun i σ H3 hi hW => ?_) (fun σ H3 hW => ?_)
      · obtain ⟨g, rs, y4, y5, y6, rfl, sm, hL, hl, hb⟩ := hW
        have hS3 := sm.seq hS
        have step : ∀ (z : Int), (0 ≤ z ∧ z < 1000000) →
            Same H (upd H3 p (.lst ((rs0 rs z).map V.int))) ∧ (upd H3 p (.lst ((rs0 rs z).map V.int))) p = some (.lst ((rs0 rs z).map V.int)) ∧ (rs0 rs z).length = i + 1 ∧ ∀ r ∈ rs0 rs z, 0 ≤ r ∧ r < 1000000 := by
          intro z hz
          refine ⟨fun b o eb => ?_, upd_same, ?_, ?_⟩
          · rw [upd_ne (ne_of_none eb hp)]
            exact sm _ _ eb
          · unfold rs0
            rw [List.length_append, hl]
            rfl
          · intro r hr
            unfold rs0 at hr
            rcases List.mem_append.1 hr with h | h
            · exact hb r h
            · rw [List.mem_singleton.1 h]
              exact hz
        have em : ∀ z : Int, (rs.map V.int) ++ [V.int z] = (rs0 rs z).map V.int := fun z => by
          unfold rs0
          rw [List.map_append]
          rfl
        have hsz : (rs.map V.int).length < sizeLine := small1000 (by rw [List.length_map]; omega)
        refine ⟨_, rfl, _, _, rfl, rfl, _, rfl, ite2 (fun e => ?_) (fun e => ?_)⟩
        · refine ⟨_, rfl, .inl ⟨rfl, _, SqL.of hL⟩, _, rfl, _, _, rfl, rfl, (by show (0 : Int) < _; decide), p, _, _, rfl, rfl, hL, hsz, ?_⟩
          rw [em]
          refine ⟨_, rfl, _, _, rfl, rfl, c1 _, ?_⟩
          exact ⟨_, _, _, _, _, rfl, step _ ⟨Int.emod_nonneg _ (by decide), Int.emod_lt_of_pos _ (by decide)⟩⟩
        · refine ⟨_, rfl, _, _, rfl, rfl, ?_⟩
          refine ⟨_, rfl, a, _, rfl, .inl hS3, _, _, rfl, rfl, _, rfl, ite2 (fun e1 => ?_) (fun e1 => ?_)⟩
          · have hpos : 0 < ns.length := by
              have := of_decide_eq_true e1
              rw [List.length_map] at this
              omega
            have hlt : i % ns.length < ns.length := Nat.mod_lt _ hpos
            have gk : atI (ns.map V.int) ((0 + (i : Int)) % ((ns.map V.int).length : Int)) = some (.int (ns.getD (i % ns.length) 0)) := by
              rw [Int.zero_add, List.length_map, ← Int.natCast_emod]
              exact ls_at hlt
            refine ⟨_, rfl, _, rfl, _, rfl, a, _, rfl, .inl hS3, _, _, rfl, rfl, (by rw [List.length_map]; omega), a, _, _, _, rfl, rfl, hS3, gk, ?_⟩
            refine ⟨_, rfl, _, _, rfl, rfl, mk _ _ (by decide) (by decide), _, rfl, _, _, rfl, rfl, mk _ _ (by decide) (by decide), _, _, rfl, rfl, _, _, rfl, rfl, _, _, rfl, rfl, (by show (0 : Int) < _; decide), ?_⟩
            refine ⟨_, rfl, _, _, rfl, rfl, mk _ _ (by decide) (by decide), _, rfl, _, _, rfl, rfl, mk _ _ (by decide) (by decide), _, _, rfl, rfl, _, rfl, a, _, rfl, .inl hS3, _, _, rfl, rfl, _, _, rfl, rfl, (by show (0 : Int) < _; decide), ?_⟩
            refine ⟨_, rfl, .inl ⟨rfl, _, SqL.of hL⟩, _, rfl, _, _, rfl, rfl, c19 _, _, _, rfl, rfl, (by show (0 : Int) < _; decide), p, _, _, rfl, rfl, hL, hsz, ?_⟩
            rw [em]
            exact ⟨_, _, _, _, _, rfl, step _ ⟨Int.emod_nonneg _ (by decide), Int.emod_lt_of_pos _ (by decide)⟩⟩
          · refine ⟨_, rfl, _, _, rfl, rfl, mk _ _ (by decide) (by decide), _, rfl, _, _, rfl, rfl, mk _ _ (by decide) (by decide), _, _, rfl, rfl, _, _, rfl, rfl, _, _, rfl, rfl, (by show (0 : Int) < _; decide), ?_⟩
            refine ⟨_, rfl, _, _, rfl, rfl, mk _ _ (by decide) (by decide), _, rfl, _, _, rfl, rfl, mk _ _ (by decide) (by decide), _, _, rfl, rfl, _, rfl, a, _, rfl, .inl hS3, _, _, rfl, rfl, _, _, rfl, rfl, (by show (0 : Int) < _; decide), ?_⟩
            refine ⟨_, rfl, .inl ⟨rfl, _, SqL.of hL⟩, _, rfl, _, _, rfl, rfl, c19 _, _, _, rfl, rfl, (by show (0 : Int) < _; decide), p, _, _, rfl, rfl, hL, hsz, ?_⟩
            rw [em]
            exact ⟨_, _, _, _, _, rfl, step _ ⟨Int.emod_nonneg _ (by decide), Int.emod_lt_of_pos _ (by decide)⟩⟩
      · obtain ⟨g, rs, y4, y5, y6, rfl, sm, hL, hl, hb⟩ := hW
        exact ⟨_, rfl, q H3 _ rs sm ⟨p, rfl, hL⟩ hl hb⟩

end
-- END _law_flow
abbrev N__law_low : List Str := ["_law_top", "_law_bottom", "_law_one", "_law_other"]
theorem sc__law_low : FnScope N__law_low ["_law_top", "_law_bottom"] (defScope s__law_low) := ⟨rfl, rfl, rfl, by decide +kernel, rfl, by decide +kernel, by decide +kernel⟩
section
variable {P : Program} {w : World} {K : PySem.W.Frag} {mg : Str → Option Value} {base : Heap}
theorem ok__law_low {k : Nat} (D : Df K mg "_law_low" s__law_low ["_law_top", "_law_bottom"]) (m_abs : mg "abs" = none) : FnOk P w K mg base CX0 (k + 1) D.f D.fd ["_law_top", "_law_bottom"] (sp_lowest K) := by
  refine D.F.ok sc__law_low (fun vs H Q E h => ?_) (fun cdv A outer s H vs Q E hr h => ?_)
  · obtain ⟨a, b, rfl, _⟩ := h
    rfl
  · obtain ⟨a, b, rfl, hb, hB, q⟩ := h
    refine ⟨_, (pss_cons (ps_set (i := 2) sc__law_low.nd rfl (.inl rfl) (pe_callB call_abs (by rfl) m_abs boot_abs (pa_cons (pv 0) pa_nil)))
      (pss_cons (ps_set (i := 3) sc__law_low.nd rfl (.inl rfl) (pv 1))
      (pss_cons (ps_while PassesOwn.never (pt_cmpR op_gt (pv 3) pe_int (nomark _)) (pss_one (ps_par (i := 2) (j := 3) (by rfl) sc__law_low.nd rfl rfl (by decide) rfl rfl (pa_cons (pv 3) (pa_cons (pe_op op_mod (pv 2) (pv 3)) pa_nil)) (by rfl))))
      (pss_one (ps_ret (pe_tup (pa_cons (pe_op op_fdivW (pv 0) (pv 2)) (pa_cons (pe_op op_fdivW (pv 1) (pv 2)) pa_nil)))))))), ?_⟩
    refine ⟨_, rfl, _, rfl, ?_⟩
    refine ⟨_, rfl, ?_⟩
    refine while_by (fun σ H' => ∃ x y : Int, σ = [some (.int a), some (.int b), some (.int x), some (.int y)] ∧ H' = H ∧ 0 ≤ y ∧ Int.gcd x y = Int.gcd a b ∧ (y = 0 → 0 ≤ x))
      (fun σ _ => match σ with | [_, _, _, some (.int y)] => y.toNat | _ => 0) ⟨_, b, rfl, rfl, by omega, gc_abs a b, by omega⟩ ?_ ?_
    · rintro σ H' ⟨x, y, rfl, rfl, h0, hg, hz⟩
      refine ⟨_, rfl, _, _, rfl, rfl, _, rfl, ite2 (fun e => ?_) (fun e => ?_)⟩
      · have e1 : 0 < y := of_decide_eq_true e
        refine ⟨_, rfl, _, rfl, _, rfl, _, _, rfl, rfl, e1, _, _, rfl, ⟨y, x % y, rfl, rfl, Int.emod_nonneg x (by omega), gc_step.trans hg, fun _ => by omega⟩, ?_⟩
        show (x % y).toNat < y.toNat
        have := Int.emod_lt_of_pos x e1
        have := Int.emod_nonneg x (show y ≠ 0 by omega)
        omega
      · have e1 : ¬ 0 < y := fun z => e (decide_eq_true z)
        have e2 : y = 0 := by omega
        subst e2
        have e3 : x = gc a b := by
          unfold gc
          rw [← hg, Int.gcd_zero]
          have := hz rfl
          omega
        subst e3
        have hg := gc_pos (a := a) hb
        have hk := hB.gc (x := a) hb
        refine ⟨_, rfl, _, rfl, _, _, rfl, rfl, bd_divok hg hk (by decide), _, rfl, _, rfl, _, _, rfl, rfl, bd_divok hg hk (by decide), (by show 2 ≤ sizeLine; decide), fun p hp => ?_⟩
        exact q _ _ (same_upd hp) Pr.new
    · rintro σ H' Q1 Q2 hq ⟨v, e, i, j, e1, e2, c, e3, r⟩
      exact ⟨v, e, i, j, e1, e2, c, e3, hq _ _ r⟩

end
-- END _law_low
abbrev N__law_add : List Str := ["_law_a", "_law_b"]
theorem sc__law_add : FnScope N__law_add ["_law_a", "_law_b"] (defScope s__law_add) := ⟨rfl, rfl, rfl, by decide +kernel, rfl, by decide +kernel, by decide +kernel⟩
section
variable {P : Program} {w : World} {K : PySem.W.Frag} {mg : Str → Option Value} {base : Heap}
theorem ok__law_add {k : Nat} (D : Df K mg "_law_add" s__law_add ["_law_a", "_law_b"]) (D__law_low : Df K mg "_law_low" s__law_low ["_law_top", "_law_bottom"]) (m_abs : mg "abs" = none) : FnOk P w K mg base CX0 (k + 2) D.f D.fd ["_law_a", "_law_b"] (sp_two K anyC addP) := by
  have G__law_low : FnOk P w K mg base CX0 1 D__law_low.f D__law_low.fd ["_law_top", "_law_bottom"] (sp_lowest K) := ok__law_low D__law_low m_abs
  refine D.F.ok sc__law_add (fun vs H Q E h => len_two h) (fun cdv A outer s H vs Q E hr h => ?_)
  obtain ⟨v, u, x, y, n, m, rfl, ⟨p, rfl, hp⟩, ⟨r, rfl, hq⟩, ox, oy, hn, _, q⟩ := h
  refine ⟨_, (pss_one (ps_ret (pe_call G__law_low (hr.mono (by omega)) (by rfl) D__law_low.g D__law_low.F.kp D__law_low.b .nil pass0 (pa_cons (pe_op op_add (pe_op op_mulW (pe_ix ix_tup (pv 0) pe_int (fun _ _ => rfl)) (pe_ix ix_tup (pv 1) pe_int (fun _ _ => rfl))) (pe_op op_mulW (pe_ix ix_tup (pv 1) pe_int (fun _ _ => rfl)) (pe_ix ix_tup (pv 0) pe_int (fun _ _ => rfl)))) (pa_cons (pe_op op_mulW (pe_ix ix_tup (pv 0) pe_int (fun _ _ => rfl)) (pe_ix ix_tup (pv 1) pe_int (fun _ _ => rfl))) pa_nil))))), ?_⟩
  refine ⟨_, rfl, p, _, 0, _, rfl, rfl, hp, rfl, _, rfl, r, _, 1, _, rfl, rfl, hq, rfl, _, _, rfl, rfl, bd_mulok ox.top oy.bot (by omega), ?_⟩
  refine ⟨_, rfl, r, _, 0, _, rfl, rfl, hq, rfl, _, rfl, p, _, 1, _, rfl, rfl, hp, rfl, _, _, rfl, rfl, bd_mulok oy.top ox.bot (by omega), _, _, rfl, rfl, ?_⟩
  refine ⟨_, rfl, p, _, 1, _, rfl, rfl, hp, rfl, _, rfl, r, _, 1, _, rfl, rfl, hq, rfl, _, _, rfl, rfl, bd_mulok ox.bot oy.bot (by omega), ?_⟩
  exact ⟨_, _, rfl, Int.mul_pos ox.pos oy.pos, (ox.bot.mul oy.bot).mono (by omega), fun H' r' sm pr => q _ _ sm pr⟩

end
-- END _law_add
abbrev N__law_mul : List Str := ["_law_a", "_law_b"]
theorem sc__law_mul : FnScope N__law_mul ["_law_a", "_law_b"] (defScope s__law_mul) := ⟨rfl, rfl, rfl, by decide +kernel, rfl, by decide +kernel, by decide +kernel⟩
section
variable {P : Program} {w : World} {K : PySem.W.Frag} {mg : Str → Option Value} {base : Heap}
theorem ok__law_mul {k : Nat} (D : Df K mg "_law_mul" s__law_mul ["_law_a", "_law_b"]) (D__law_low : Df K mg "_law_low" s__law_low ["_law_top", "_law_bottom"]) (m_abs : mg "abs" = none) : FnOk P w K mg base CX0 (k + 3) D.f D.fd ["_law_a", "_law_b"] (sp_two K anyC mulP) := by
  have G__law_low : FnOk P w K mg base CX0 2 D__law_low.f D__law_low.fd ["_law_top", "_law_bottom"] (sp_lowest K) := ok__law_low D__law_low m_abs
  refine D.F.ok sc__law_mul (fun vs H Q E h => len_two h) (fun cdv A outer s H vs Q E hr h => ?_)
  obtain ⟨v, u, x, y, n, m, rfl, ⟨p, rfl, hp⟩, ⟨r, rfl, hq⟩, ox, oy, hn, _, q⟩ := h
  refine ⟨_, (pss_one (ps_ret (pe_call G__law_low (hr.mono (by omega)) (by rfl) D__law_low.g D__law_low.F.kp D__law_low.b .nil pass0 (pa_cons (pe_op op_mulW (pe_ix ix_tup (pv 0) pe_int (fun _ _ => rfl)) (pe_ix ix_tup (pv 1) pe_int (fun _ _ => rfl))) (pa_cons (pe_op op_mulW (pe_ix ix_tup (pv 0) pe_int (fun _ _ => rfl)) (pe_ix ix_tup (pv 1) pe_int (fun _ _ => rfl))) pa_nil))))), ?_⟩
  refine ⟨_, rfl, p, _, 0, _, rfl, rfl, hp, rfl, _, rfl, r, _, 0, _, rfl, rfl, hq, rfl, _, _, rfl, rfl, bd_mulok ox.top oy.top (by omega), ?_⟩
  refine ⟨_, rfl, p, _, 1, _, rfl, rfl, hp, rfl, _, rfl, r, _, 1, _, rfl, rfl, hq, rfl, _, _, rfl, rfl, bd_mulok ox.bot oy.bot (by omega), ?_⟩
  exact ⟨_, _, rfl, Int.mul_pos ox.pos oy.pos, (ox.bot.mul oy.bot).mono (by omega), fun H' r' sm pr => q _ _ sm pr⟩

end
-- END _law_mul
abbrev N__law_less : List Str := ["_law_a", "_law_b"]
theorem sc__law_less : FnScope N__law_less ["_law_a", "_law_b"] (defScope s__law_less) := ⟨rfl, rfl, rfl, by decide +kernel, rfl, by decide +kernel, by decide +kernel⟩
section
variable {P : Program} {w : World} {K : PySem.W.Frag} {mg : Str → Option Value} {base : Heap}
def sp_less (K : PySem.W.Frag) : Sp := fun vs H Q _ => ∃ (v u : V) (a b c d : Int) (n : Nat), vs = [v, u] ∧ Pr K H v a b ∧ Pr K H u c d ∧ (Bd n a ∧ Bd n b ∧ Bd n c ∧ Bd n d) ∧ n ≤ 9000 ∧ Q (.bl (decide (a * d < c * b))) H
theorem ok__law_less {k : Nat} (D : Df K mg "_law_less" s__law_less ["_law_a", "_law_b"]) : FnOk P w K mg base CX0 (k + 1) D.f D.fd ["_law_a", "_law_b"] (sp_less K) := by
  refine D.F.ok sc__law_less (fun vs H Q E h => ?_) (fun cdv A outer s H vs Q E hr h => ?_)
  · obtain ⟨v, u, a, b, c, d, n, rfl, _⟩ := h
    rfl
  · obtain ⟨v, u, a, b, c, d, n, rfl, ⟨p, rfl, hp⟩, ⟨r, rfl, hq⟩, ⟨b1, b2, b3, b4⟩, hn, q⟩ := h
    refine ⟨_, (pss_one (ps_ret (pe_cmpR op_lt (pe_op op_mulW (pe_ix ix_tup (pv 0) pe_int (fun _ _ => rfl)) (pe_ix ix_tup (pv 1) pe_int (fun _ _ => rfl))) (pe_op op_mulW (pe_ix ix_tup (pv 1) pe_int (fun _ _ => rfl)) (pe_ix ix_tup (pv 0) pe_int (fun _ _ => rfl))) (nomark _)))), ?_⟩
    refine ⟨_, rfl, p, _, 0, _, rfl, rfl, hp, rfl, _, rfl, r, _, 1, _, rfl, rfl, hq, rfl, _, _, rfl, rfl, bd_mulok b1 b4 (by omega), ?_⟩
    exact ⟨_, rfl, r, _, 0, _, rfl, rfl, hq, rfl, _, rfl, p, _, 1, _, rfl, rfl, hp, rfl, _, _, rfl, rfl, bd_mulok b3 b2 (by omega), _, _, rfl, rfl, q⟩

end
-- END _law_less
abbrev N__law_sum : List Str := ["_law_row", "_law_found", "_law_a"]
theorem sc__law_sum : FnScope N__law_sum ["_law_row"] (defScope s__law_sum) := ⟨rfl, rfl, rfl, by decide +kernel, rfl, by decide +kernel, by decide +kernel⟩
section
variable {P : Program} {w : World} {K : PySem.W.Frag} {mg : Str → Option Value} {base : Heap}
theorem ok__law_sum {k : Nat} (D : Df K mg "_law_sum" s__law_sum ["_law_row"]) (D__law_low : Df K mg "_law_low" s__law_low ["_law_top", "_law_bottom"]) (D__law_add : Df K mg "_law_add" s__law_add ["_law_a", "_law_b"]) (m_abs : mg "abs" = none) : FnOk P w K mg base CX0 (k + 3) D.f D.fd ["_law_row"] (sp_sumB K) := by
  have G__law_add : FnOk P w K mg base CX0 2 D__law_add.f D__law_add.fd ["_law_a", "_law_b"] (sp_two K anyC addP) := ok__law_add D__law_add D__law_low m_abs
  refine D.F.ok sc__law_sum (fun vs H Q E h => ?_) (fun cdv A outer s H vs Q E hr h => ?_)
  · obtain ⟨l, us, xs, N, rfl, _⟩ := h
    rfl
  obtain ⟨l, us, xs, N, rfl, hl, hP, ho, hs, hn, q⟩ := h
  refine ⟨_, (pss_cons (ps_set (i := 1) sc__law_sum.nd rfl (.inl rfl) (pe_tup (pa_cons pe_int (pa_cons pe_int pa_nil))))
      (pss_cons (ps_for PassesOwn.never rfl (pi_list (pv 0)) (pg_name (i := 2) sc__law_sum.nd rfl (.inl rfl)) (pss_one (ps_set (i := 1) sc__law_sum.nd rfl (.inl rfl) (pe_call G__law_add (hr.mono (by omega)) (by rfl) D__law_add.g D__law_add.F.kp D__law_add.b .nil pass0 (pa_cons (pv 1) (pa_cons (pv 2) pa_nil))))))
      (pss_one (ps_ret (pv 1))))), ?_⟩
  refine ⟨(by show 2 ≤ sizeLine; decide), fun t ht => ?_⟩
  refine ⟨_, rfl, l, rfl, ⟨_, (same_upd ht).seq hl⟩, ?_⟩
  refine for_list (xs := us) (fun i σ H3 => ∃ v y2, σ = [some (.ref l), some v, y2] ∧ Same H H3 ∧ Pp K H3 v (sumP (xs.take i)))
    ⟨_, _, rfl, same_upd ht, Pr.new⟩ (fun i σ H3 _ hW => ?_) (fun i z σ H3 hz hW => ?_) (fun σ H3 hW => ?_)
  · obtain ⟨v, y2, rfl, sm, _⟩ := hW
    exact sm.seq hl
  · obtain ⟨v, y2, rfl, sm, pv'⟩ := hW
    obtain ⟨x, hx, px⟩ := pps_get hP hz
    refine ⟨_, rfl, _, rfl, v, z, _, x, N, N, rfl, pv', px.same sm, hs i, ho x (List.mem_of_getElem? hx), hn, True.intro, fun H4 r sm4 pr => ?_⟩
    refine ⟨r, _, rfl, sm.trans sm4, ?_⟩
    rw [sumP_take hx]
    exact pr
  · obtain ⟨v, y2, rfl, sm, pv'⟩ := hW
    rw [hP.len, List.take_length] at pv'
    exact ⟨_, rfl, q _ _ sm pv'⟩

end
-- END _law_sum
abbrev N__law_pool : List Str := ["_law_row", "_law_letters", "_law_stem", "_law_k", "_law_at", "_law_found", "_law_name"]
theorem sc__law_pool : FnScope N__law_pool ["_law_row"] (defScope s__law_pool) := ⟨rfl, rfl, rfl, by decide +kernel, rfl, by decide +kernel, by decide +kernel⟩
section
variable {P : Program} {w : World} {K : PySem.W.Frag} {mg : Str → Option Value} {base : Heap}
theorem ok__law_pool {k : Nat} (T : Env K w mg) : FnOk P w K mg base CX0 (k + 1) T.D__law_pool.f T.D__law_pool.fd ["_law_row"] (sp_poolD K) := by
  refine T.D__law_pool.F.ok sc__law_pool (fun vs H Q E h => ?_) (fun cdv A outer s H vs Q E hr h => ?_)
  · obtain ⟨p, rs, rfl, _⟩ := h
    rfl
  obtain ⟨p, rs, rfl, ep, hl, hb, q⟩ := h
  refine ⟨_, (pss_cons (ps_set (i := 1) sc__law_pool.nd rfl (.inl rfl) pe_str)
      (pss_cons (ps_set (i := 2) sc__law_pool.nd rfl (.inl rfl) pe_str)
      (pss_cons (ps_for PassesOwn.never rfl (pi_range1 (by rfl) T.m_range (pa_cons (pe_op op_mod (pe_ix ix_list (pv 0) pe_int (fun _ _ => rfl)) pe_int) pa_nil)) (pg_name (i := 3) sc__law_pool.nd rfl (.inl rfl)) (pss_one (ps_set (i := 2) sc__law_pool.nd rfl (.inl rfl) (pe_op op_add_str (pv 2) (pe_ix ix_str (pv 1) (pe_op op_mod (pe_op op_add (pe_op op_fdivW (pe_ix ix_list (pv 0) pe_int (fun _ _ => rfl)) (pe_op op_add pe_int (pe_op op_mul pe_int (pv 3)))) (pe_op op_mul (pv 3) (pe_ix ix_list (pv 0) pe_int (fun _ _ => rfl)))) pe_int) (fun _ _ => rfl))))))
      (pss_cons (ps_set (i := 4) sc__law_pool.nd rfl (.inl rfl) (pe_op op_mod (pe_ix ix_list (pv 0) pe_int (fun _ _ => rfl)) (pe_op op_add (pe_callB call_len (by rfl) T.m_len PySem.boot_len (pa_cons (pv 2) pa_nil)) pe_int)))
      (pss_cons (ps_set (i := 5) sc__law_pool.nd rfl (.inl rfl) (pe_lst pa_nil))
      (pss_cons (ps_for PassesOwn.never rfl (pi_range1 (by rfl) T.m_range (pa_cons pe_int pa_nil)) (pg_name (i := 3) sc__law_pool.nd rfl (.inl rfl)) (pss_cons (ps_set (i := 6) sc__law_pool.nd rfl (.inl rfl) (pe_op op_add_str (pe_op op_add_str (pe_slice sl_str (pv 2) po_none (po_some (pv 4))) (pe_ix ix_str (pv 1) (pe_op op_mod (pe_op op_add (pe_op op_mul (pv 3) pe_int) (pe_ix ix_list (pv 0) pe_int (fun _ _ => rfl))) pe_int) (fun _ _ => rfl))) (pe_slice sl_str (pv 2) (po_some (pv 4)) po_none)))
      (pss_one (ps_expr (pe_bm PySem.F.plainAttrs_list PySem.F.slot_list_append PySem.F.type_list_append mt_append (pv 5) (pa_cons (pe_op op_add_str (pv 6) (pe_op op_mul_str (pe_ix ix_str (pv 1) (pe_op op_mod (pe_ix ix_list (pv 0) pe_int (fun _ _ => rfl)) pe_int) (fun _ _ => rfl)) (pe_callTy call_int1 (by rfl) T.m_int PyProof.Rows.boot_int (pa_cons (pe_cmpR op_eq (pe_op op_mod (pv 3) pe_int) (pe_op op_mod (pe_ix ix_list (pv 0) pe_int (fun _ _ => rfl)) pe_int) (nomark _)) pa_nil)))) pa_nil))))))
      (pss_one (ps_ret (pv 5))))))))), ?_⟩
  have hL : SqL K H p (rs.map V.int) := SqL.of ep
  have z1 := Int.emod_nonneg (rs.getD 0 0) (show (7 : Int) ≠ 0 by decide)
  have z2 := Int.emod_lt_of_pos (rs.getD 0 0) (show (0 : Int) < 7 by decide)
  obtain ⟨j, ej, hj⟩ : ∃ j : Nat, rs.getD 0 0 % 7 = (j : Int) ∧ j ≤ 6 := ⟨(rs.getD 0 0 % 7).toNat, by omega, by omega⟩
  have line : ∀ z : Str, (tl z).length ≤ 100 → z.length ≤ sizeLine := fun z h => by rw [len_tl]; exact Nat.le_of_lt (small1000 (by omega))
  have abc : (("abcdefghijklmnopqrstuvwxyz" : Str)).length ≤ sizeLine := line _ (by rw [tl_lets]; decide)
  have one : ∀ c, (tl (⟨#[c]⟩ : Str)).length = 1 := fun c => rfl
  refine ⟨_, rfl, p, _, _, _, rfl, rfl, hL, ls_z 0 rfl (by omega), _, _, rfl, rfl, (by show (0 : Int) < _; decide), (j : Int), (by show [V.int (rs.getD 0 0 % 7)] = _; rw [ej]), by omega, by omega, ?_⟩
  refine for_range (n := ((j : Nat) : Int).toNat) (fun i σ H' => ∃ (stem : Str) (y3 : Option V), σ = [some (.ref p), some (.str ("abcdefghijklmnopqrstuvwxyz" : Str)), some (.str stem), y3, none, none, none] ∧ LetS stem ∧ (tl stem).length = i ∧ H = H') ⟨_, _, rfl, LetS.empty, rfl, rfl⟩ (fun i σ H' hi hW => ?_) (fun σ H' hW => ?_)
  · obtain ⟨stem, y3, rfl, hs, hsl, rfl⟩ := hW
    have hd : 0 < 1 + 26 * (0 + (i : Int)) := by omega
    obtain ⟨c, hc, ec⟩ := let_at (rs.getD 1 0 / (1 + 26 * (0 + (i : Int))) + (0 + (i : Int)) * rs.getD 2 0)
    refine ⟨_, rfl, _, rfl, _, rfl, p, _, _, _, rfl, rfl, hL, ls_z 1 rfl (by omega), _, rfl, _, _, rfl, rfl, .inl ⟨by decide, by decide⟩, _, _, rfl, rfl, _, _, rfl, rfl, bd_divok (n := 20) hd (Bd.of (m := 1000) (by omega) (by omega) (by decide)) (by decide), _, rfl, _, rfl, p, _, _, _, rfl, rfl, hL, ls_z 2 rfl (by omega), _, _, rfl, rfl, .inl ⟨by omega, by omega⟩, _, _, rfl, rfl, _, _, rfl, rfl, (by show (0 : Int) < _; decide), ?_⟩
    refine ⟨_, _, c, rfl, rfl, abc, ec, _, _, rfl, rfl, ?_, ?_⟩
    · exact Nat.le_of_lt (small1000 (by rw [len_tl, len_tl, one, hsl]; omega))
    · refine ⟨_, _, rfl, hs.app (LetS.one hc), ?_, rfl⟩
      rw [tl_append, List.length_append, hsl, one]
  obtain ⟨stem, y3, rfl, hs, hsl, rfl⟩ := hW
  rw [Int.toNat_natCast] at hsl
  have hsz : stem.length ≤ sizeLine := line _ (by omega)
  have hlen : ((stem.length : Nat) : Int) = (j : Int) := by rw [len_tl, hsl]
  refine ⟨_, rfl, p, _, _, _, rfl, rfl, hL, ls_z 3 rfl (by omega), _, rfl, _, stem.length, rfl, ⟨hsz, rfl⟩, _, _, rfl, rfl, _, _, rfl, rfl, (by show (0 : Int) < ((stem.length : Nat) : Int) + 1; omega), ?_⟩
  have y1 := Int.emod_nonneg (rs.getD 3 0) (show (j : Int) + 1 ≠ 0 by omega)
  have y2 := Int.emod_lt_of_pos (rs.getD 3 0) (show (0 : Int) < (j : Int) + 1 by omega)
  obtain ⟨at', ea, ha⟩ : ∃ at' : Nat, rs.getD 3 0 % ((j : Int) + 1) = (at' : Int) ∧ at' ≤ j := ⟨(rs.getD 3 0 % ((j : Int) + 1)).toNat, by omega, by omega⟩
  refine ⟨(by show 0 ≤ sizeLine; decide), fun r nr => ?_⟩
  refine ⟨26, rfl, by decide, by decide, ?_⟩
  refine for_range (n := 26) (fun i σ H' => ∃ (zs : List Str) (y3 y6 : Option V), σ = [some (.ref p), some (.str ("abcdefghijklmnopqrstuvwxyz" : Str)), some (.str stem), y3, some (.int (at' : Int)), some (.ref r), y6] ∧ H' r = some (.lst (zs.map V.str)) ∧ zs.length = i ∧ (∀ z ∈ zs, nameB z = true) ∧ PoolI zs at' (rs.getD 6 0) ∧ Same H H') ⟨[], y3, none, (by show [_, _, _, _, some (V.int (rs.getD 3 0 % (((stem.length : Nat) : Int) + 1))), _, _] = _; rw [hlen, ea]), upd_same, rfl, (fun _ h => nomatch h), PoolI.nil, same_upd nr⟩ (fun i σ H1 hi hW => ?_) (fun σ H1 hW => ?_)
  · obtain ⟨zs, y3, y6, rfl, er, hzl, hzn, hpi, sm⟩ := hW
    have hL1 : SqL K H1 p (rs.map V.int) := SqL.of (sm _ _ ep)
    obtain ⟨c, hc, ec, elc⟩ := let_at2 ((0 + (i : Int)) * 7 + rs.getD 6 0)
    obtain ⟨c4, hc4, ec4⟩ := let_at (rs.getD 4 0)
    have t1 := tl_cutTo stem at' (by omega)
    have t2 := tl_cutFrom stem at' (by omega)
    have l1 : LetS (cutS stem none (some (at' : Int))) := fun d hd => hs d (by rw [t1] at hd; exact List.mem_of_mem_take hd)
    have l2 : LetS (cutS stem (some (at' : Int)) none) := fun d hd => hs d (by rw [t2] at hd; exact List.mem_of_mem_drop hd)
    have n1 : (tl (cutS stem none (some (at' : Int)))).length = at' := by rw [t1, List.length_take]; omega
    have n2 : (tl (cutS stem (some (at' : Int)) none)).length = j - at' := by rw [t2, List.length_drop]; omega
    refine ⟨_, rfl, _, rfl, (at' : Int), rfl, stem, rfl, hsz, ?_⟩
    refine ⟨_, rfl, _, rfl, _, _, rfl, rfl, .inl ⟨by omega, by omega⟩, _, rfl, p, _, _, _, rfl, rfl, hL1, ls_z 6 rfl (by omega), _, _, rfl, rfl, _, _, rfl, rfl, (by show (0 : Int) < _; decide), _, _, c, rfl, rfl, abc, ec, _, _, rfl, rfl, ?_, ?_⟩
    · exact Nat.le_of_lt (small1000 (by rw [len_tl, len_tl, one, n1]; omega))
    refine ⟨_, rfl, _, rfl, (at' : Int), rfl, stem, rfl, hsz, _, _, rfl, rfl, ?_, ?_⟩
    · exact Nat.le_of_lt (small1000 (by rw [app_len, len_tl, len_tl, len_tl, one, n1, n2]; omega))
    obtain ⟨nm, enm⟩ : ∃ nm, nm = cutS stem none (some (at' : Int)) ++ (⟨#[c]⟩ : Str) ++ cutS stem (some (at' : Int)) none := ⟨_, rfl⟩
    have ln : LetS nm := by rw [enm]; exact (l1.app (LetS.one hc)).app l2
    have nn : (tl nm).length = j + 1 := by
      rw [enm, tl_append, tl_append, List.length_append, List.length_append, n1, n2, one]
      omega
    rw [← enm]
    obtain ⟨mk, lw, wl⟩ := mul_flag c4 hc4 (decide (V.int ((0 + (i : Int)) % 3) = V.int (rs.getD 5 0 % 3)))
    refine ⟨_, rfl, .inl ⟨rfl, _, SqL.of er⟩, _, rfl, _, rfl, _, rfl, p, _, _, _, rfl, rfl, hL1, ls_z 4 rfl (by omega), _, _, rfl, rfl, (by show (0 : Int) < _; decide), _, _, c4, rfl, rfl, abc, ec4, ?_⟩
    refine ⟨_, rfl, _, _, rfl, rfl, (by show (0 : Int) < _; decide), _, rfl, p, _, _, _, rfl, rfl, hL1, ls_z 5 rfl (by omega), _, _, rfl, rfl, (by show (0 : Int) < _; decide), rfl, .inr ⟨_, rfl, ?_⟩⟩
    refine ⟨_, _, rfl, rfl, mk, _, _, rfl, rfl, ?_, ?_⟩
    · exact Nat.le_of_lt (small1000 (by rw [len_tl, len_tl, nn]; dsimp only; omega))
    dsimp only
    generalize Txt.mul (⟨#[c4]⟩ : Str) (if (decide (V.int ((0 + (i : Int)) % 3) = V.int (rs.getD 5 0 % 3))) then 1 else 0) = wd at lw wl ⊢
    refine ⟨r, _, _, rfl, rfl, er, small1000 (by rw [List.length_map]; omega), zs ++ [nm ++ wd], _, _, rfl, ?_, by rw [List.length_append, hzl]; rfl, fun z hz => ?_, hpi.snoc (by rw [hzl, enm, tl_mid n1]; exact elc.symm), same_at nr sm⟩
    · rw [upd_same, List.map_append]
      rfl
    · rcases List.mem_append.1 hz with h | h
      · exact hzn z h
      · rw [List.mem_singleton.1 h]
        refine name_of (ln.app lw) ?_ ?_
        · rw [tl_append, List.length_append]
          omega
        · rw [tl_append, List.length_append]
          omega
  · obtain ⟨zs, y3, y6, rfl, er, hzl, hzn, hpi, sm⟩ := hW
    exact ⟨_, rfl, q _ r zs sm nr er hzl hzn (hpi.nodup (by omega))⟩

end
-- END _law_pool
end DT
namespace DT
open PySem PySem.Spec PyProof.Rows L2
/-! ### the law's own word for a refusal -/
def wordR : Rf → Str
  | .badName => "BadName"
  | .taken => "Taken"
  | .full => "Full"
  | .noField => "NoField"
  | .same => "Same"
  | .noPart => "NoPart"
  | .noHours => "NoHours"
  | .tooMuch => "TooMuch"
  | .noHeirs => "NoHeirs"
  | .noWeight => "NoWeight"
def wordO : Option Rf → Str
  | none => ""
  | some c => wordR c
def wordS (st : LSt) (dd : De) : Option Rf := judgeG st.names (lfree st) dd
/-- that a deed's parts are small, its names short -/
def DOk (N : Nat) : De → Prop
  | .settle z => z.length ≤ 1000
  | .sell a b x => a.length ≤ 1000 ∧ b.length ≤ 1000 ∧ Ok N x ∧ Low x.1 x.2
  | .lend a b x _ => a.length ≤ 1000 ∧ b.length ≤ 1000 ∧ Ok N x ∧ Low x.1 x.2
  | .leave z hs => z.length ≤ 1000 ∧ hs.length ≤ 500 ∧ ∀ h ∈ hs, h.1.length ≤ 1000
  | _ => True
def sp_word (K : PySem.W.Frag) (k : De → Prop) : Sp := fun vs H Q _ => ∃ (s : Addr) (st : LSt) (dv : V) (dd : De) (N : Nat), vs = [.ref s, dv] ∧ k dd ∧ StAt K H s st ∧ LOk N st ∧ DeV K H dv dd ∧ DOk N dd ∧ ∀ H', Same H H' → Q (.str (wordO (wordS st dd))) H'
def isGift : De → Prop | .sell _ _ _ => True | .lend _ _ _ _ => True | _ => False
def anyD : De → Prop := fun _ => True
def heirsW (ns : List Str) (hs : List (Str × Int)) : Option Rf := if hs = [] then some .noHeirs else match heirBad ns hs with
    | some c => some (if c = 0 then .badName else if c = 1 then .taken else .noWeight)
    | none => if 24 < ns.length + hs.length then some .full else none
def sp_hword (K : PySem.W.Frag) : Sp := fun vs H Q _ => ∃ (s th : Addr) (st : LSt) (hv : List V) (hs : List (Str × Int)), vs = [.ref s, .ref th] ∧ StAt K H s st ∧ Wl st ∧ SqT K H th hv ∧ Al (HeirV K H) hv hs ∧ hs.length ≤ 500 ∧ (∀ h ∈ hs, h.1.length ≤ 1000) ∧ ∀ H', Same H H' → Q (.str (wordO (heirsW st.names hs))) H'
theorem own_in {K : PySem.W.Frag} {H : Hp} {kvs : List (Key × V)} {st : LSt} {an al ao ag ac : Addr} {ovs gvs lvs : List V} (k : StIn K H kvs st an al ao ag ac ovs gvs lvs) (w : Wl st) (z : Str) : (valV (zk st.names ovs) (Sum.inr z)).isSome = decide (z ∈ st.names) := by
  have po := k.po.len
  have wo := w.o
  by_cases hz : z ∈ st.names
  · rw [zk_val (by omega) hz, List.getElem?_eq_getElem (by have := idx_lt hz; omega), decide_eq_true hz]
    rfl
  · rw [zk_none hz, decide_eq_false hz]
    rfl
end DT

namespace DT
open PySem PySem.Spec PyProof.Rows L2 TL
-- END @words.lean
end DT
namespace DT
open PySem PySem.Spec PyProof.Rows L2
/-! ### a state of the law's own, one thing changed -/
section
variable {K : PySem.W.Frag} {H0 H : Hp} {s : Addr} {st : LSt} {kvs : List (Key × V)} {an al ao ag ac : Addr} {ovs gvs lvs : List V}
theorem StF.putLoans (F : StF K H0 H s st kvs an al ao ag ac ovs gvs lvs) {l : Addr} {ls : List Debt} {ws : List V} (fl : H0 l = none) (el : H l = some (.lst ws)) (dl : Dbts K H ws ls) (n : an ≠ l) :
    StF K H0 (upd H s (.dK (putK kvs kl' (.ref l)))) s { st with loans := ls } (putK kvs kl' (.ref l)) an l ao ag ac ovs gvs ws := by
  have k := F.k
  have tk : TK H (upd H s (.dK (putK kvs kl' (.ref l)))) := TK.dic F.es
  have nn : an ≠ s := ne_of k.en F.es (by intro y; cases y)
  have nl : l ≠ s := ne_of el F.es (by intro y; cases y)
  have f : ∀ j : Key, j ≠ kl' → valV (putK kvs kl' (.ref l)) j = valV kvs j := fun j h => by rw [valV_put, if_neg h]
  refine ⟨upd_same, ⟨(f kn (by decide)).trans k.vn, ?_, (f ko (by decide)).trans k.vo, (f kg (by decide)).trans k.vg, (f kc (by decide)).trans k.vc, (f kw (by decide)).trans k.vw, (f kd' (by decide)).trans k.vd, (upd_ne nn).trans k.en, (upd_ne nl).trans el, dl.tk tk, (upd_ne (Ne.symm F.so)).trans k.eo, k.po.tk tk, (upd_ne (Ne.symm F.sg)).trans k.eg, k.pg.tk tk, (upd_ne (Ne.symm F.sc)).trans k.ec⟩, ?_, F.fs, F.fn, fl, F.fo, F.fg, F.fc, n, F.og, F.oc, F.gc, F.so, F.sg, F.sc⟩
  · show valV (putK kvs kl' (.ref l)) kl' = _
    rw [valV_put, if_pos rfl]
  · rw [putK_old (by rw [show valV kvs kl' = _ from k.vl]; rfl)]
    exact F.kl
theorem StF.putWet (F : StF K H0 H s st kvs an al ao ag ac ovs gvs lvs) (x : Int) :
    StF K H0 (upd H s (.dK (putK kvs kw (.int x)))) s { st with wet := x } (putK kvs kw (.int x)) an al ao ag ac ovs gvs lvs := by
  have k := F.k
  have tk : TK H (upd H s (.dK (putK kvs kw (.int x)))) := TK.dic F.es
  have nn : an ≠ s := ne_of k.en F.es (by intro y; cases y)
  have nl : al ≠ s := ne_of k.el F.es (by intro y; cases y)
  have f : ∀ j : Key, j ≠ kw → valV (putK kvs kw (.int x)) j = valV kvs j := fun j h => by rw [valV_put, if_neg h]
  refine ⟨upd_same, ⟨(f kn (by decide)).trans k.vn, (f kl' (by decide)).trans k.vl, (f ko (by decide)).trans k.vo, (f kg (by decide)).trans k.vg, (f kc (by decide)).trans k.vc, ?_, (f kd' (by decide)).trans k.vd, (upd_ne nn).trans k.en, (upd_ne nl).trans k.el, k.dl.tk tk, (upd_ne (Ne.symm F.so)).trans k.eo, k.po.tk tk, (upd_ne (Ne.symm F.sg)).trans k.eg, k.pg.tk tk, (upd_ne (Ne.symm F.sc)).trans k.ec⟩, ?_, F.fs, F.fn, F.fl, F.fo, F.fg, F.fc, F.nl, F.og, F.oc, F.gc, F.so, F.sg, F.sc⟩
  · show valV (putK kvs kw (.int x)) kw = _
    rw [valV_put, if_pos rfl]
  · rw [putK_old (by rw [show valV kvs kw = _ from k.vw]; rfl)]
    exact F.kl
theorem StF.putDry (F : StF K H0 H s st kvs an al ao ag ac ovs gvs lvs) (x : Int) :
    StF K H0 (upd H s (.dK (putK kvs kd' (.int x)))) s { st with dry := x } (putK kvs kd' (.int x)) an al ao ag ac ovs gvs lvs := by
  have k := F.k
  have tk : TK H (upd H s (.dK (putK kvs kd' (.int x)))) := TK.dic F.es
  have nn : an ≠ s := ne_of k.en F.es (by intro y; cases y)
  have nl : al ≠ s := ne_of k.el F.es (by intro y; cases y)
  have f : ∀ j : Key, j ≠ kd' → valV (putK kvs kd' (.int x)) j = valV kvs j := fun j h => by rw [valV_put, if_neg h]
  refine ⟨upd_same, ⟨(f kn (by decide)).trans k.vn, (f kl' (by decide)).trans k.vl, (f ko (by decide)).trans k.vo, (f kg (by decide)).trans k.vg, (f kc (by decide)).trans k.vc, (f kw (by decide)).trans k.vw, ?_, (upd_ne nn).trans k.en, (upd_ne nl).trans k.el, k.dl.tk tk, (upd_ne (Ne.symm F.so)).trans k.eo, k.po.tk tk, (upd_ne (Ne.symm F.sg)).trans k.eg, k.pg.tk tk, (upd_ne (Ne.symm F.sc)).trans k.ec⟩, ?_, F.fs, F.fn, F.fl, F.fo, F.fg, F.fc, F.nl, F.og, F.oc, F.gc, F.so, F.sg, F.sc⟩
  · show valV (putK kvs kd' (.int x)) kd' = _
    rw [valV_put, if_pos rfl]
  · rw [putK_old (by rw [show valV kvs kd' = _ from k.vd]; rfl)]
    exact F.kl
theorem StF.putGain (F : StF K H0 H s st kvs an al ao ag ac ovs gvs lvs) (i : Nat) {v : V} {x : Q2} (p : Pp K H v x) :
    StF K H0 (upd H ag (.dK (zk st.names (gvs.set i v)))) s { st with gain := st.gain.set i x } kvs an al ao ag ac ovs (gvs.set i v) lvs := by
  have k := F.k
  have tk : TK H (upd H ag (.dK (zk st.names (gvs.set i v)))) := TK.dic k.eg
  have nn : an ≠ ag := ne_of k.en k.eg (by intro y; cases y)
  have nl : al ≠ ag := ne_of k.el k.eg (by intro y; cases y)
  exact ⟨(upd_ne F.sg).trans F.es, ⟨k.vn, k.vl, k.vo, k.vg, k.vc, k.vw, k.vd, (upd_ne nn).trans k.en, (upd_ne nl).trans k.el, k.dl.tk tk, (upd_ne F.og).trans k.eo, k.po.tk tk, upd_same, Pps.set (p.tk tk) i (k.pg.tk tk), (upd_ne (Ne.symm F.gc)).trans k.ec⟩, F.kl, F.fs, F.fn, F.fl, F.fo, F.fg, F.fc, F.nl, F.og, F.oc, F.gc, F.so, F.sg, F.sc⟩
theorem StF.putCnt (F : StF K H0 H s st kvs an al ao ag ac ovs gvs lvs) (i : Nat) (x : Int) :
    StF K H0 (upd H ac (.dK (zk st.names ((st.cnt.set i x).map V.int)))) s { st with cnt := st.cnt.set i x } kvs an al ao ag ac ovs gvs lvs := by
  have k := F.k
  have tk : TK H (upd H ac (.dK (zk st.names ((st.cnt.set i x).map V.int)))) := TK.dic k.ec
  have nn : an ≠ ac := ne_of k.en k.ec (by intro y; cases y)
  have nl : al ≠ ac := ne_of k.el k.ec (by intro y; cases y)
  exact ⟨(upd_ne F.sc).trans F.es, ⟨k.vn, k.vl, k.vo, k.vg, k.vc, k.vw, k.vd, (upd_ne nn).trans k.en, (upd_ne nl).trans k.el, k.dl.tk tk, (upd_ne F.oc).trans k.eo, k.po.tk tk, (upd_ne F.gc).trans k.eg, k.pg.tk tk, upd_same⟩, F.kl, F.fs, F.fn, F.fl, F.fo, F.fg, F.fc, F.nl, F.og, F.oc, F.gc, F.so, F.sg, F.sc⟩
theorem StF.addLoan (F : StF K H0 H s st kvs an al ao ag ac ovs gvs lvs) {v : V} {d : Debt} (p : Dbt K H v d) :
    StF K H0 (upd H al (.lst (lvs ++ [v]))) s { st with loans := st.loans ++ [d] } kvs an al ao ag ac ovs gvs (lvs ++ [v]) := by
  have k := F.k
  have tk : TK H (upd H al (.lst (lvs ++ [v]))) := TK.lst k.el
  have n1 : s ≠ al := ne_of F.es k.el (by intro y; cases y)
  have n2 : ao ≠ al := ne_of k.eo k.el (by intro y; cases y)
  have n3 : ag ≠ al := ne_of k.eg k.el (by intro y; cases y)
  have n4 : ac ≠ al := ne_of k.ec k.el (by intro y; cases y)
  exact ⟨(upd_ne n1).trans F.es, ⟨k.vn, k.vl, k.vo, k.vg, k.vc, k.vw, k.vd, (upd_ne F.nl).trans k.en, upd_same, (Dbts.snoc k.dl p).tk tk, (upd_ne n2).trans k.eo, k.po.tk tk, (upd_ne n3).trans k.eg, k.pg.tk tk, (upd_ne n4).trans k.ec⟩, F.kl, F.fs, F.fn, F.fl, F.fo, F.fg, F.fc, F.nl, F.og, F.oc, F.gc, F.so, F.sg, F.sc⟩
end
def sp_lsettledT (K : PySem.W.Frag) : Sp := fun vs H Q _ => ∃ (H0 : Hp) (s : Addr) (st : LSt) (z : Str), vs = [.ref s, .str z] ∧ Same H0 H ∧ StNew K H0 H s st ∧ st.names.length ≤ 900 ∧ st.own.length = st.names.length ∧ st.gain.length = st.names.length ∧ st.cnt.length = st.names.length ∧ z ∉ st.names ∧
  ∀ H', Same H0 H' → TK H H' → StNew K H0 H' s (joinS st z) → Q .non H'
def sp_lmovedT (K : PySem.W.Frag) : Sp := fun vs H Q _ => ∃ (H0 : Hp) (s : Addr) (st : LSt) (a b : Str) (v : V) (x : Q2) (N : Nat), vs = [.ref s, .str a, .str b, v] ∧ Same H0 H ∧ StNew K H0 H s st ∧ st.names.length ≤ 900 ∧ st.own.length = st.names.length ∧ a ∈ st.names ∧ b ∈ st.names ∧ st.names.Nodup ∧ Pp K H v x ∧ Ok N x ∧ AllOk N st.own ∧ N ≤ 2900 ∧
  ∀ H', Same H0 H' → TK H H' → StNew K H0 H' s (moveS st a b x) → Q .non H'
def goneS (st : LSt) : LSt := { st with loans := decD st.loans }
def sp_gone (K : PySem.W.Frag) : Sp := fun vs H Q _ => ∃ (H0 : Hp) (s : Addr) (st : LSt), vs = [.ref s] ∧ Same H0 H ∧ StNew K H0 H s st ∧ st.loans.length ≤ 900 ∧ ∀ H', Same H0 H' → StNew K H0 H' s (goneS st) → Q .non H'
end DT

namespace DT
open PySem PySem.Spec PyProof.Rows L2 TL
-- END @stput.lean
end DT
namespace DT
open PySem PySem.Spec PyProof.Rows L2
/-! ### what the law's own state becomes by a deed -/
def partL (f : Q2) (W w : Int) : Q2 := lowP (f.1 * w) (f.2 * W)
def leaveS (z : Str) (f : Q2) (W : Int) (s0 : LSt) (hs : List (Str × Int)) : LSt := hs.foldl (fun s h => moveS (joinS s h.1) z h.1 (partL f W h.2)) s0
def gainZ (st : LSt) (z : Str) : Q2 := addP (itemP st.gain (idxS st.names z)) (lshare st z)
def gainTo (st : LSt) (i : Nat) : List Q2 := (st.names.take i).map (gainZ st) ++ st.gain.drop i
def hourS (st : LSt) : LSt := goneS { st with gain := st.names.map (gainZ st), cnt := st.cnt.set (idxS st.names (dueS st)) (st.cnt.getD (idxS st.names (dueS st)) 0 + 1), wet := st.wet + 1 }
def didE (st : LSt) : De → LSt
  | .settle z => joinS st z
  | .sell a b x => moveS st a b x
  | .lend a b x h => { st with loans := st.loans ++ [(a, b, x, h)] }
  | .leave z hs => leaveS z (lfree st z) (wsum hs) st hs
  | .hour _ => hourS st
  | .lose => goneS { st with dry := st.dry + 1 }
def DidOk (N : Nat) (st : LSt) : De → Prop
  | .settle z => z ∉ st.names
  | .sell a b x => a ∈ st.names ∧ b ∈ st.names ∧ Ok N x ∧ N ≤ 2900
  | .lend _ _ _ _ => True
  | .leave z hs => z ∈ st.names ∧ hs.length ≤ 24 ∧ heirBad st.names hs = none ∧ st.names.length + hs.length ≤ 24 ∧ N ≤ 2900 ∧ (∀ j, j ≤ hs.length → AllOk N (leaveS z (lfree st z) (wsum hs) st (hs.take j)).own) ∧ ∀ h ∈ hs, Ok N (partL (lfree st z) (wsum hs) h.2)
  | .hour _ => 0 < st.names.length ∧ N ≤ 1850
  | .lose => True
def sp_didE (K : PySem.W.Frag) : Sp := fun vs H Q _ => ∃ (s : Addr) (st : LSt) (dv : V) (dd : De) (N : Nat), vs = [.ref s, dv] ∧ StK K H s st ∧ DeV K H dv dd ∧ LOk N st ∧ DidOk N st dd ∧ ∀ H' r, Same H H' → StNew K H H' r (didE st dd) → Q (.ref r) H'
theorem leaveS_snoc (z : Str) (f : Q2) (W : Int) (s0 : LSt) (hs : List (Str × Int)) (h : Str × Int) : leaveS z f W s0 (hs ++ [h]) = moveS (joinS (leaveS z f W s0 hs) h.1) z h.1 (partL f W h.2) := by
  unfold leaveS
  rw [List.foldl_append]
  rfl
theorem join_wl {st : LSt} {z : Str} (w : Wl st) (h : z ∉ st.names) (r : st.names.length + 1 ≤ 24) : Wl (joinS st z) := by
  have e : ∀ {α : Type} (xs : List α) (x : α), (xs ++ [x]).length = xs.length + 1 := fun xs x => by rw [List.length_append]; rfl
  refine ⟨?_, ?_, ?_, ?_, ?_⟩
  · show (st.own ++ [_]).length = (st.names ++ [_]).length; rw [e, e, w.o]
  · show (st.gain ++ [_]).length = (st.names ++ [_]).length; rw [e, e, w.g]
  · show (st.cnt ++ [_]).length = (st.names ++ [_]).length; rw [e, e, w.c]
  · show (st.names ++ [_]).length ≤ 24; rw [e]; exact r
  · show (st.names ++ [z]).Nodup
    rw [List.nodup_append]
    exact ⟨w.nd, by simp, fun a ha b hb => by rw [List.mem_singleton.1 hb]; exact fun q => h (by rw [← q]; exact ha)⟩
theorem move_wl {st : LSt} {a b : Str} {x : Q2} (w : Wl st) : Wl (moveS st a b x) := ⟨by show ((st.own.set _ _).set _ _).length = _; rw [List.length_set, List.length_set]; exact w.o, w.g, w.c, w.few, w.nd⟩
theorem heir_take : ∀ {hs : List (Str × Int)} {used : List Str}, heirBad used hs = none → ∀ (j : Nat) (h : Str × Int), hs[j]? = some h → h.1 ∉ used ++ (hs.take j).map (·.1)
  | [], _, _, _, _, e => by cases e
  | (z, w) :: r, used, hb, j, h, e => by
    rw [heirBad_cons] at hb
    by_cases h1 : nameB z = false
    · rw [if_pos h1] at hb; cases hb
    rw [if_neg h1] at hb
    by_cases h2 : z ∈ used
    · rw [if_pos h2] at hb; cases hb
    rw [if_neg h2] at hb
    by_cases h3 : 1 ≤ w ∧ w ≤ 999999
    · rw [if_neg (fun z => z h3)] at hb
      cases j with
      | zero =>
        cases e
        simpa using h2
      | succ j =>
        have := heir_take hb j h (by simpa using e)
        rw [List.append_assoc] at this
        exact this
    · rw [if_pos h3] at hb; cases hb
theorem leave_wl {st : LSt} {z : Str} {f : Q2} {W : Int} {hs : List (Str × Int)} (w : Wl st) (hb : heirBad st.names hs = none) (room : st.names.length + hs.length ≤ 24) : ∀ j, j ≤ hs.length → Wl (leaveS z f W st (hs.take j)) ∧ (leaveS z f W st (hs.take j)).names = st.names ++ (hs.take j).map (·.1)
  | 0, _ => ⟨w, by show st.names = st.names ++ []; rw [List.append_nil]⟩
  | j + 1, hj => by
    obtain ⟨w1, n1⟩ := leave_wl (z := z) (f := f) (W := W) w hb room j (by omega)
    have e : hs[j]? = some hs[j] := List.getElem?_eq_getElem (by omega)
    have hn := heir_take hb j _ e
    rw [← n1] at hn
    have e2 : hs.take (j + 1) = hs.take j ++ [hs[j]] := by rw [List.take_add_one, e]; rfl
    rw [e2, leaveS_snoc]
    refine ⟨move_wl (join_wl w1 hn ?_), ?_⟩
    · rw [n1, List.length_append, List.length_map, List.length_take]
      omega
    · show _ ++ [_] = _
      rw [n1, List.map_append, List.append_assoc]
      rfl
theorem gainTo_set {st : LSt} (w : Wl st) {i : Nat} {z : Str} (e : st.names[i]? = some z) : (gainTo st i).set i (gainZ st z) = gainTo st (i + 1) := by
  have hi := (List.getElem?_eq_some_iff.1 e).1
  have wg := w.g
  unfold gainTo
  have l : ((st.names.take i).map (gainZ st)).length = i := by rw [List.length_map, List.length_take]; omega
  rw [List.set_append_right _ _ (by omega), l, Nat.sub_self, List.take_add_one, e, List.map_append, List.append_assoc]
  congr 1
  rw [List.drop_eq_getElem_cons (show i < st.gain.length by omega)]
  rfl
theorem gainTo_len {st : LSt} (w : Wl st) {i : Nat} (hi : i ≤ st.names.length) : (gainTo st i).length = st.names.length := by
  have wg := w.g
  unfold gainTo
  rw [List.length_append, List.length_map, List.length_take, List.length_drop]
  omega
theorem gainTo_all {st : LSt} (w : Wl st) : gainTo st st.names.length = st.names.map (gainZ st) := by
  have wg := w.g
  unfold gainTo
  rw [List.take_of_length_le (Nat.le_refl _), List.drop_of_length_le (by omega), List.append_nil]
theorem ok01N {N : Nat} (h : 1 ≤ N) : Ok N ((0, 1) : Q2) := (⟨by decide, by unfold Bd; decide, by unfold Bd; decide⟩ : Ok 1 ((0, 1) : Q2)).mono h
theorem join_own {N : Nat} {st : LSt} {z : Str} (h : AllOk N st.own) (n : 1 ≤ N) : AllOk N (joinS st z).own := fun x hx => by
  rcases List.mem_append.1 (show x ∈ st.own ++ [(0, 1)] from hx) with hx | hx
  · exact h x hx
  · rw [List.mem_singleton.1 hx]
    exact ⟨ok01N n, ⟨by decide, rfl⟩⟩
end DT

namespace DT
open PySem PySem.Spec PyProof.Rows L2 TL
-- END @dids.lean
end DT
namespace DT
open PySem PySem.Spec PyProof.Rows L2
def sp_callE (K : PySem.W.Frag) (CM C : Addr) (ca : Rf → Addr) : Sp := fun vs H Q E => ∃ (d dx n p u : Addr) (m : Mo) (ps us : List V) (dv : V) (dd : De) (N : Nat), vs = [.ref d, dv] ∧ DiAt K CM C H d dx n p u m ps us ∧ ps.length ≤ 900 ∧ Wf m ∧ DeV K H dv dd ∧ MOk N m dd ∧ Res K CM C ca H d dx n p u m ps dd Q E
theorem Res.up {K : PySem.W.Frag} {CM C : Addr} {ca : Rf → Addr} {H H1 : Hp} {d dx n p u : Addr} {m : Mo} {ps : List V} {dd : De} {Q : VK} {E : XK} (q : Res K CM C ca H d dx n p u m ps dd Q E) (st : Same H H1) : Res K CM C ca H1 d dx n p u m ps dd Q E := by
  unfold Res at q ⊢
  cases e : judge m dd with
  | none =>
    rw [e] at q
    exact fun H' u' r tt t s di et dv nu => q H' u' r tt t ((del_mono st).trans s) di et dv (st.free nu)
  | some c =>
    rw [e] at q
    exact fun H' s => q H' (st.trans s)
/-- what a try tells -/
def Tried (K : PySem.W.Frag) (CM C : Addr) (H : Hp) (d dx n p u : Addr) (m : Mo) (ps us : List V) (dd : De) (Q : VK) : Prop := match judge m dd with
  | none => ∀ H' u' r tt t tv, Same (del (mu d dx p u) H) (del (mu d dx p u') H') → DiAt K CM C H' d dx r p u' (doneE m dd) (ps ++ [.ref tt]) [] → del (mu d dx p u') H' tt = some (.tup [.ref t, .ref n]) → DeV K (del (mu d dx p u') H') (.ref t) (ranE m dd) → H u' = none → SqT K H' tv [.str ("" : Str), retE m dd] → Q (.ref tv) H'
  | some c => ∀ H' tv, Same H H' → SqT K H' tv [.str (wordR c), .non] → Q (.ref tv) H'
def sp_try (K : PySem.W.Frag) (CM C : Addr) : Sp := fun vs H Q _ => ∃ (d dx n p u : Addr) (m : Mo) (ps us : List V) (dv : V) (dd : De) (N : Nat), vs = [.ref d, dv] ∧ DiAt K CM C H d dx n p u m ps us ∧ ps.length ≤ 900 ∧ Wf m ∧ DeV K H dv dd ∧ MOk N m dd ∧ Tried K CM C H d dx n p u m ps us dd Q
end DT

namespace DT
open PySem PySem.Spec PyProof.Rows L2 TL
-- END @calls.lean
end DT
namespace DT
open PySem PySem.Spec PyProof.Rows L2 L2H HotX
section
variable {prog : Program} {w : World} {A : Around} {E : Value → Shared → Prop} {s : Shared}
theorem tuple_out {io t x1 : Addr} {n : Nat} {xs : Array Value} {Q : Option Value → Shared → Prop} (hot : HotAt A x1 s.heap) (far : x1 ≠ io)
    (hit : IsTupIter s.heap io t n) (hl : IsTup s.heap t xs) (hz : xs[n]? = none) (hQ : ∀ hp, Heap.ExtBut io s.heap hp → Q none { s with heap := hp }) : wpAny (model prog w) A (pyNext (.ref io)) Q E s := by
  obtain ⟨ob, ho, hcl, hda⟩ := id hit
  obtain ⟨ol, hol, _, nl, hdl⟩ := hl
  obtain ⟨hh, o1, vs1, h1, d1, c1⟩ := hot
  unfold pyNext
  refine wpAny_bind (wpAny_attempt (wpAny_callSpecial?_slot (name := Str.ofString "__next__") hit.typeIs slot_tupleiter_next (wpAny_call_entry slot_tupleiter_next hit.typeIs entry_tupleiter_next ?_ (args_tupleiter_next _))))
  show wpAny _ _ (field (.ref io) 0 >>= _) _ _ _
  refine wpAny_bind (wpAny_field ho hda (x := .ref t) rfl ?_)
  show wpAny _ _ (if (Value.ref t == Value.none) = true then _ else _) _ _ _
  rw [if_neg (show ¬ ((Value.ref t == Value.none) = true) from Bool.false_ne_true)]
  show wpAny _ _ (field (.ref io) 1 >>= _) _ _ _
  refine wpAny_bind (wpAny_field ho hda (x := .int n 0) rfl ?_)
  show wpAny _ _ (seqItems? (.ref t) >>= _) _ _ _
  refine wpAny_bind (wpAny_seqItems hol hdl ?_)
  simp only [Int.toNat_natCast, hz]
  refine wpAny_bind (wpAny_rule (wpAny_bind (wpAny_setField ho hda (by simp) ?_)))
  show wpAny _ _ (Bind.bind (newExc (.type "StopIteration") []) _) _ _ _
  refine wpAny_bind ?_
  simp only [newExc, newTuple]
  refine wpAny_bind (wpAny_newObj_type ?_ (by size_fits))
  refine wpAny_bind (m := firstArgMember _ _) (wpAny_of_eq (a := Value.none) (by first | rfl | (simp only [firstArgMember]; rfl)) (wpAny_newObj_type ?_ (by size_fits)))
  have h1' : (s.heap.update io (Obj.mapFields fun x => x.setIfInBounds 0 Value.none)).get? x1 = some o1 := by rw [Heap.get?_update_other _ _ (Ne.symm far)]; exact h1
  refine raiseNew_hot ⟨hh, o1, vs1, Heap.get?_push_of_some _ (Heap.get?_push_of_some _ h1'), d1, c1⟩ (Nat.ne_of_lt (Heap.lt_size (Heap.get?_push_of_some _ h1'))) (Heap.get?_push_size _ rfl) rfl (by first | (simp; done) | (simp; omega)) ?_
  refine wpAny_bind (wpAny_isInstance (T := "StopIteration") (b := true) ⟨_, Heap.get?_update_self _ (Heap.get?_push_size _ rfl) rfl, rfl⟩ isSubtype_stop ?_)
  refine wpAny_pure (hQ _ fun b o nb e => ?_)
  have e' : (s.heap.update io (Obj.mapFields fun x => x.setIfInBounds 0 Value.none)).get? b = some o := by rw [Heap.get?_update_other _ _ (Ne.symm nb)]; exact e
  rw [Heap.get?_update_other _ _ (Nat.ne_of_gt (Heap.lt_size (Heap.get?_push_of_some _ e')))]
  exact Heap.get?_push_of_some _ (Heap.get?_push_of_some _ e')
theorem unpackItems_hot {t x1 : Addr} {items : Array Value} {Q : List Value → Shared → Prop} (hot : HotAt A x1 s.heap) (ht : IsTup s.heap t items)
    (hQ : ∀ h', Heap.ExtBut s.heap.objs.size s.heap h' → Q items.toList { s with heap := h' }) : wpAny (model prog w) A (unpackItems (.ref t) items.size none) Q E s := by
  have hlt : t ≠ s.heap.objs.size := by obtain ⟨o, ho, _⟩ := ht; exact Nat.ne_of_lt (Heap.lt_size ho)
  have far : x1 ≠ s.heap.objs.size := by obtain ⟨_, _, _, h1, _⟩ := hot; exact Nat.ne_of_lt (Heap.lt_size h1)
  unfold unpackItems
  refine wpAny_bind ?_
  · unfold notIterableAtAll
    refine wpAny_bind (wpAny_specialOf ht.typeIs slot_tuple_iter.lookup ?_)
    refine wpAny_pure ?_
    simp only [Bool.false_eq_true, if_false]
    refine wpAny_bind (wpAny_holding (iter_tuple ht ?_))
    refine wpAny_bind (wpAny_holding (draw_tuple hlt items.size 0 _ _ ⟨_, Heap.get?_push_size _ rfl, rfl, rfl⟩ (ht.push _) (by omega) fun h₁ hit₁ hs₁ => ?_))
    have hall : List.take items.size (List.drop 0 items.toList) = items.toList := by
      rw [List.drop_zero]; exact List.take_of_length_le (by simp)
    rw [hall]
    rw [if_neg (by simp)]
    have ht₁ : IsTup h₁ t items := (ht.push _).extBut hs₁.extBut hlt
    have hot₁ : HotAt A x1 h₁ := by
      obtain ⟨hh, o1, vs1, h1, r⟩ := hot
      exact ⟨hh, o1, vs1, hs₁.extBut x1 o1 far (Heap.get?_push_of_some _ h1), r⟩
    refine wpAny_bind (wpAny_holding (tuple_out (s := { s with heap := h₁ }) hot₁ far hit₁ ht₁ (by simp) fun h₂ he₂ => ?_))
    simp only [Option.isSome_none, Bool.false_eq_true, if_false]
    refine wpAny_pure (hQ h₂ fun b o hb e => he₂ b o hb (hs₁.extBut b o hb (Heap.get?_push_of_some _ e)))
theorem assign_tuple_hot {env : PySem.Env} {elts : List Expr} {x1 : Addr} {kk : Nat} {pos : Pos} {t : Addr} {items : Array Value} {Q : Unit → Shared → Prop} (hot : HotAt A x1 s.heap) (ht : IsTup s.heap t items)
    (hn : (assignEach elts env).length = items.size) (hstar : (assignEach elts env).findIdx? (·.1) = none)
    (h : ∀ h', Heap.ExtBut s.heap.objs.size s.heap h' → wpAny (model prog w) A (assignInOrder ((assignEach elts env).map (·.2)) items.toList) Q E { s with heap := h' }) :
    wpAny (model prog w) A (assign (.Tuple elts kk pos) env (.ref t)) Q E s := by
  rw [assign_Tuple]
  refine wpAny_bind (wpAny_standAt ?_)
  unfold unpack
  rw [hn, hstar]
  exact wpAny_bind (wpAny_holding (unpackItems_hot hot ht h))
end
/-- the handled exception lay there ahead of it all -/
def HotB (X : Cx) : Prop := ∃ p : Addr × Obj, Hot1 X.A p ∧ X.s_0.heap.get? p.1 = some p.2 ∧ X.H_0 p.1 = none ∧ p.1 ∉ X.fs ∧ p.1 ∉ X.ex
theorem pg_tupH {X : Cx} {es : List Expr} {k : Nat} {t : TGs} {n : Nat} {pos : Pos} (hb : HotB X) (h : PGs X es t)
    (hn : (assignEach es X.env).length = n := by rfl) (hst : (assignEach es X.env).findIdx? (·.1) = none := by rfl) : PG X (.Tuple es k pos) (gTup X.K n t) := by
  refine ⟨fun pins s σ H v u Q I r hw => ?_⟩
  obtain ⟨a, xs, e1, hq, hl, hw⟩ := hw
  subst e1
  cases r
  obtain ⟨its, rv, ht, hz⟩ := I.tuple hq
  obtain ⟨p, ⟨hh, v1, q1, c1⟩, b1, b2, b3, b4⟩ := hb
  have hot : HotAt X.A p.1 s.heap := ⟨hh, p.2, v1, I.base.keep p.1 p.2 b1 b2 b3 b4, q1, c1⟩
  refine assign_tuple_hot hot ht (by simp [hn, ← hl, rv.length]) hst fun h' hx => ?_
  have I1 : Inv X pins σ H { s with heap := h' } := I.kept (t' := s.toks) fun b o e => hx b o (Nat.ne_of_lt (Heap.lt_size e)) e
  exact h.run pins _ σ H xs _ Q I1 (by simpa using rv) hw
section
variable {X : Cx}
/-- [elt for tg in list if ..] where an exception is handled -/
theorem pe_lcL {elt tg iter : Expr} {ifs : List Expr} {scope : Scope} {own : List (Str × Nat)} {pos : Pos} {ti te : TE} {g : TG} {tt : TT} (hot : HotC X) (hN : X.N.Nodup) (hi : PE X iter ti) (ok : BlkOk X.N X.env.scope scope own)
    (hg : ∀ s H C cl fp, HotB (X.blk s H scope (compEnvC scope cl C X.env) fp) → PG (X.blk s H scope (compEnvC scope cl C X.env) fp) tg g) (ht : ∀ s H C cl fp, PTs (X.blk s H scope (compEnvC scope cl C X.env) fp) ifs tt) (he : ∀ s H C cl fp, PE (X.blk s H scope (compEnvC scope cl C X.env) fp) elt te)
    (hs : ∀ x, foldedSetIterable iter X.env x = pure x := by intro _; rfl) : PE X (.ListComp elt [⟨tg, iter, ifs, 0⟩] scope pos) (tLc (iList X.K ti) g tt te (own.map (·.2))) := by
  refine ⟨fun pins s σ H Q I h => ?_⟩
  rw [eval_ListComp]
  have cap : ∀ y ∈ scope.names, y.2 = .free → ∃ c, X.env.cells.lookup y.1 = some c := fun y hy e => (ok.free y hy e).elim (fun k => I.ok.has _ (.inl k)) (fun k => I.ok.has _ (.inr k))
  refine wpAny_comprehension_free (use := none) rfl hs (closure_ok cap) ok.kind (fun y hy e => by rw [ok.uniq y hy, e]) (thn (hi.run pins s σ H _ I h) fun xv s1 ⟨y, H1, I1, r1, al, ez, ⟨xs0, hq⟩, q⟩ => ?_)
  subst ez
  cases r1
  obtain ⟨its0, rv0, pl0, hz0⟩ := I1.list hq
  refine wpAny_pyIter_list pl0.isList ?_
  obtain ⟨h2, eh2⟩ : ∃ h2, h2 = s1.heap.push { cls := .type "list_iterator", data := .fields #[.ref al, .int 0 0] } := ⟨_, rfl⟩
  have k2 : ∀ b o, s1.heap.get? b = some o → h2.get? b = some o := fun b o e => by rw [eh2]; exact Heap.get?_push_of_some _ e
  have st2 : h2.IsListIter s1.heap.objs.size al 0 := by rw [eh2]; exact ⟨_, Heap.get?_push_size _ rfl, rfl, rfl⟩
  rw [← eh2]
  have I2 : Inv X pins σ H1 { s1 with heap := h2 } := I1.kept (t' := s1.toks) k2
  have fo : FpOk X pins H1 s1.heap.objs.size := I1.fpOk (Nat.le_refl _) (I1.hok.fresh (Nat.le_refl _))
  have lio : s1.heap.objs.size < h2.objs.size := by
    obtain ⟨o, e, _⟩ := st2
    exact Heap.lt_size e
  generalize s1.heap.objs.size = io at st2 fo lio ⊢
  refine wpAny_newObj_type (newEnv_comp ?_) (by show 0 ≤ sizeLine; decide)
  have nD : H1 h2.objs.size = none := I2.hok.fresh (Nat.le_refl _)
  obtain ⟨W, ⟨m0, w0⟩, turn⟩ := q h2.objs.size nD
  -- the new list
  have I3 : Inv X pins σ (upd H1 h2.objs.size (.lst [])) { s1 with heap := h2.push { cls := .type "list", data := .seq ([] : List Value).toArray } } :=
    I2.laid (t' := s1.toks) (fun b o e => Heap.get?_push_of_some _ e) (Nat.le_refl _) ⟨Nat.zero_le _, [], 0, .nil, Heap.get?_push_size _ rfl⟩
  have fo3 : ∀ b ∈ [io], FpOk X pins (upd H1 h2.objs.size (.lst [])) b ∧ b < (h2.push { cls := .type "list", data := .seq ([] : List Value).toArray }).objs.size := fun b hb => by
    rw [List.mem_singleton.1 hb]
    exact ⟨⟨by rw [upd_ne (Nat.ne_of_lt lio)]; exact fo.1, fo.2⟩, by rw [Heap.size_push]; exact Nat.lt_succ_of_lt lio⟩
  have st3 : (h2.push { cls := .type "list", data := .seq ([] : List Value).toArray }).IsListIter io al 0 := by
    obtain ⟨o, e, r⟩ := st2
    exact ⟨o, Heap.get?_push_of_some _ e, r⟩
  show codeAny _ _ (.compStart (.ListComp elt [⟨tg, iter, ifs, 0⟩] scope pos) 0 (.ref io) (.ref h2.objs.size) _) (compPost _ _ _ none _ (.ref h2.objs.size) _) _
  generalize hD : h2.objs.size = D at I3 fo3 w0 turn ⊢
  generalize hh3 : h2.push { cls := .type "list", data := .seq ([] : List Value).toArray } = h3 at I3 fo3 st3 ⊢
  generalize hH3 : upd H1 D (.lst []) = H3 at I3 fo3 w0 ⊢
  have I4 := block_start I3 ok hN fo3
  obtain ⟨p, ⟨hh, v1, e1, c1⟩, hp⟩ := hot
  have P3 := I3.pin p (List.mem_append_left _ hp)
  have pio : p.1 ≠ io := fo.2.2.2.2.2 p (List.mem_append_left _ hp)
  have pg := hg { s1 with heap := h3 } H3 h3.objs.size (cellsFrom (h3.objs.size + 1) scope.names (cloFrom X.env.cells scope.names [])) [io] ⟨p, ⟨hh, v1, e1, c1⟩, P3.1, P3.2.1, (fun hm => (List.mem_cons.mp (I3.stkSub p.1 hm)).elim P3.2.2.1 P3.2.2.2.1), (fun z => pio (List.mem_singleton.1 z))⟩
  have pt := ht { s1 with heap := h3 } H3 h3.objs.size (cellsFrom (h3.objs.size + 1) scope.names (cloFrom X.env.cells scope.names [])) [io]
  have pe := he { s1 with heap := h3 } H3 h3.objs.size (cellsFrom (h3.objs.size + 1) scope.names (cloFrom X.env.cells scope.names [])) [io]
  show codeAny _ _ (.compStart (.ListComp elt [⟨tg, iter, ifs, 0⟩] scope pos) 0 (.ref io) (.ref D) (compEnvC scope (cellsFrom (h3.objs.size + 1) scope.names (cloFrom X.env.cells scope.names [])) h3.objs.size X.env)) (compPost _ _ _ none _ (.ref D) h3.objs.size) _
  generalize hce : compEnvC scope (cellsFrom (h3.objs.size + 1) scope.names (cloFrom X.env.cells scope.names [])) h3.objs.size X.env = ce at I4 pg pt pe ⊢
  have cL : ce.locals = h3.objs.size := by subst hce; rfl
  generalize hs4 : ({ heap := pushCells (h3.push { cls := .type "dict", data := .dict #[] }) scope.names, gens := s1.gens, drawn := s1.drawn, toks := s1.toks, os := s1.os } : Shared) = s4 at I4 ⊢
  have st4 : s4.heap.IsListIter io al 0 := by
    obtain ⟨o, e, r⟩ := st3
    exact ⟨o, by rw [← hs4]; exact pushCells_keeps _ _ _ _ (Heap.get?_push_of_some _ e), r⟩
  have n3 : H3 io = none := (fo3 io (by simp)).1.1
  have fb : ∀ {σ' : L2.St} {G : Hp} {s' : Shared}, Inv (X.blk { s1 with heap := h3 } H3 scope ce [io]) [] σ' G s' → G io = none → ∀ b ∈ [io], FpOk (X.blk { s1 with heap := h3 } H3 scope ce [io]) [] G b := fun {σ' G s'} J hn b hb => by
    rw [List.mem_singleton.1 hb]
    have mb : io ∈ (X.blk { s1 with heap := h3 } H3 scope ce [io]).ex := List.mem_singleton.2 rfl
    exact ⟨hn, (J.ok.exf io mb).1, J.ok.exfs io mb, .inl mb, (J.ok.exf io mb).2, fun p hp => nomatch hp⟩
  -- the handled exception stands there all the while
  have hotS : ∀ {σ' : L2.St} {G : Hp} {s' : Shared}, Inv (X.blk { s1 with heap := h3 } H3 scope ce [io]) [] σ' G s' → HotAt X.A p.1 s'.heap := fun {σ' G s'} J =>
    ⟨hh, p.2, v1, J.base.keep p.1 p.2 P3.1 P3.2.1 (fun hm => (List.mem_cons.mp (I3.stkSub p.1 hm)).elim P3.2.2.1 P3.2.2.2.1) (fun z => pio (List.mem_singleton.1 z)), e1, c1⟩
  have walk : codeAny (model X.prog X.w) X.A (.compLoop (.ListComp elt [⟨tg, iter, ifs, 0⟩] scope pos) 0 (.ref io) (.ref D) ce) (compPost (model X.prog X.w) X.A X.xe none (EP X pins σ Q) (.ref D) h3.objs.size) s4 := by
    refine compLoop_any (fun n s' => ∃ i G, Inv (X.blk { s1 with heap := h3 } H3 scope ce [io]) [] (wipe σ (own.map (·.2))) G s' ∧ s'.heap.IsListIter io al i ∧ G io = none ∧ W i n G) ?_ m0 ⟨0, H3, I4, st4, n3, w0⟩
    rintro n s5 ⟨i, G5, I5, st5, n5, w5⟩
    obtain ⟨f0, f1, f2, f3, f4, f5⟩ := fb I5 n5 io (by simp)
    rcases turn i n G5 w5 with ⟨out, qq⟩ | ⟨go, Nx, hNx, step⟩
    · obtain ⟨xs, hq5, hle⟩ := out
      obtain ⟨its, rv, pl, hz5⟩ := I5.list hq5
      refine list_out (hotS I5) pio st5 pl.isList (by rw [List.getElem?_toArray]; exact List.getElem?_eq_none (by rw [← rv.length]; exact hle)) fun h6 eb => ?_
      have I6 := I5.turned (t' := s5.toks) (h' := h6) (fun b o nb e => eb b o nb e) f0 f1 f3 f4 f5
      have I7 : Inv X pins σ G5 { s5 with heap := h6 } := I3.call' (ch := [io]) I6.os I6.base I6.hok I6.bare fun b hb => by
        rw [List.mem_singleton.1 hb]
        exact ⟨fo.2.2.2.1, fo.2.1, fo.2.2.2.2.1, fo.2.2.2.2.2⟩
      have nC : G5 h3.objs.size = none := by rw [← cL]; exact I6.free
      obtain ⟨m, hn, _⟩ := I6.loc
      have hn : Heap.Ns h6 ce.locals m := hn
      rw [cL] at hn
      obtain ⟨a0, a1, a2, a3, a4, a5⟩ := I3.fpOk (H' := G5) (Nat.le_refl _) nC
      exact ⟨m, hn, fun h8 sb => ⟨.ref D, G5, I7.turned (t' := s5.toks) (fun b o nb e => (sb.2 b nb).trans e) a0 a1 a3 a4 a5, rfl, qq⟩⟩
    · obtain ⟨xs, x, hq5, hx5⟩ := go
      obtain ⟨its, rv, pl, hz5⟩ := I5.list hq5
      obtain ⟨u, hu, ru⟩ := Vals.get rv hx5
      refine wpAny_pyNext_list_item st5 pl.isList (x := u) (by rw [List.getElem?_toArray]; exact hu) fun h6 st6 sb => ?_
      have I6 := I5.turned (t' := s5.toks) (h' := h6) (fun b o nb e => (sb.2 b nb).trans e) f0 f1 f3 f4 f5
      obtain ⟨oi, ei, ci, di⟩ := id st6
      refine go_of (s := { s5 with heap := h6 }) (n := "list_iterator") ei ci di (by decide) ?_
      have I7 := I6.pinned (fb I6 n5) (fun b hb => by rw [List.mem_singleton.1 hb]; exact ⟨oi, ei, fun v ev => by rw [di] at ev; cases ev⟩)
      refine thnF (pg.run _ _ _ G5 x _ _ I7 ru (step x G5 ⟨rfl, fun ys hy => by rw [I5.list_inj hy hq5]; exact hx5⟩)) fun _ s8 ⟨σ8, G8, I8, hw8, q8⟩ => ?_
      refine thnF (pt.run _ s8 σ8 G8 _ I8 q8) fun bb s8b ⟨G8b, I8b, q8b⟩ => ?_
      have fin : ∀ {s10 : Shared} {G10 : Hp}, Inv (X.blk { s1 with heap := h3 } H3 scope ce [io]) ([] ++ pinsAt [io] h6) σ8 G10 s10 → Nx G10 → ∃ m, m < n ∧ ∃ i G, Inv (X.blk { s1 with heap := h3 } H3 scope ce [io]) [] (wipe σ (own.map (·.2))) G s10 ∧ s10.heap.IsListIter io al i ∧ G io = none ∧ W i m G := fun {s10 G10} J nx => by
        obtain ⟨m', hm, w'⟩ := hNx _ nx
        have pin' := J.pin (io, oi) (List.mem_append_right _ (List.mem_append_right _ (mem_pinsAt (by simp) ei)))
        have hl : (wipe σ (own.map (·.2))).length = σ8.length := by rw [← hw8, wipe_length]
        exact ⟨m', hm, i + 1, _, (J.unpinned (pins := [])).weak hl (fun j v e => by rw [← hw8] at e; exact (wipe_some e).1), ⟨oi, pin'.1, ci, di⟩, pin'.2.1, w'⟩
      cases bb with
      | false =>
        simp only [Bool.false_eq_true, if_false] at q8b ⊢
        exact fin I8b q8b
      | true =>
      simp only [if_true] at q8b ⊢
      refine thnF (pe.run _ s8b σ8 G8b _ I8b q8b) fun u s9 ⟨yv, G9, I9, r9, acc, hD9, hz9, nx⟩ => ?_
      exact app_ok (X := X.blk { s1 with heap := h3 } H3 scope ce [io]) I9 hD9 hz9 r9 fun s10 J => fin J nx
  exact codeAny_compStart_list walk (wpAny_pyIter_listiter st4 walk)
end
theorem pe_lcLK {X : Cx} {K : PySem.W.Frag} (eK : X.K = K) {elt tg iter : Expr} {ifs : List Expr} {scope : Scope} {own : List (Str × Nat)} {pos : Pos} {ti te : TE} {g : TG} {tt : TT} (hot : HotC X) (hN : X.N.Nodup) (hi : PE X iter ti) (ok : BlkOk X.N X.env.scope scope own)
    (hg : ∀ s H C cl fp, HotB (X.blk s H scope (compEnvC scope cl C X.env) fp) → PG (X.blk s H scope (compEnvC scope cl C X.env) fp) tg g) (ht : ∀ s H C cl fp, PTs (X.blk s H scope (compEnvC scope cl C X.env) fp) ifs tt) (he : ∀ s H C cl fp, PE (X.blk s H scope (compEnvC scope cl C X.env) fp) elt te)
    (hs : ∀ x, foldedSetIterable iter X.env x = pure x := by intro _; rfl) : PE X (.ListComp elt [⟨tg, iter, ifs, 0⟩] scope pos) (tLc (iList K ti) g tt te (own.map (·.2))) := by
  subst eK
  exact pe_lcL hot hN hi ok hg ht he hs
def rJoin (K : PySem.W.Frag) : V → List V → Hp → VK → Prop := fun x xs H Q => ∃ a p, ∃ ys : List Str, x = .str a ∧ xs = [.ref p] ∧ (SqL K H p (ys.map V.str) ∨ SqT K H p (ys.map V.str)) ∧
      (ys.map (·.length)).sum + ys.length * a.length ≤ 16777216 ∧ Q (.str (Txt.join a ys)) H
/-- isinstance(e, c), the class of the caught error told where it is asked -/
theorem call_isY {X : Cx} {a : Addr} {oe : Obj} {cls : Value} {d : Option Addr} {pn : List (Addr × Obj)} (hz : Zc cls d oe) (hf : ∃ vs, oe.data = .fields vs) :
    CallR (X.suite a ((a, oe) :: pn)) (.builtin "isinstance") (fun xs H Q => ∃ D, ExcC X.K D ∧ cls = .ref D ∧ d = none ∧ rIsE X.K D a xs H Q) := by
  intro pins s σ H xs us Q I r h
  obtain ⟨D, C, rfl, rfl, h⟩ := h
  exact call_isE C hz hf pins s σ H xs us Q I r h
end DT

namespace DT
open PySem PySem.Spec PyProof.Rows L2 TL
-- END @hotl.lean
end DT
namespace DT
open PySem PySem.Spec PyProof.Rows L2
/-! ### parts by a common bottom, their worth bounded -/
structure Pt (D : Int) (x : Q2) : Prop where
  low : Low x.1 x.2
  dv : x.2 ∣ D
section
variable {D E : Int} {x y : Q2}
theorem Pt.pos (h : Pt D x) : 0 < x.2 := h.low.pos
theorem Pt.mono (h : Pt D x) (d : D ∣ E) : Pt E x := ⟨h.low, Int.dvd_trans h.dv d⟩
theorem pt0 (D : Int) : Pt D (0, 1) := ⟨⟨by decide, rfl⟩, Int.one_dvd D⟩
theorem pt1 (D : Int) : Pt D (1, 1) := ⟨⟨by decide, rfl⟩, Int.one_dvd D⟩
theorem ptI (D c : Int) : Pt D (c, 1) := ⟨⟨by show (0 : Int) < 1; decide, by show Int.gcd c 1 = 1; exact Int.gcd_one⟩, Int.one_dvd D⟩
theorem Pt.add (hD : 0 < D) (h : Pt D x) (k : Pt D y) : Pt D (addP x y) := ⟨addP_low h.pos k.pos, add_dvd h.pos k.pos hD h.dv k.dv⟩
theorem Pt.sub (hD : 0 < D) (h : Pt D x) (k : Pt D y) : Pt D (subP x y) := ⟨sub_low h.pos k.pos, sub_dvd h.pos k.pos hD h.dv k.dv⟩
theorem Pt.neg (h : Pt D x) : Pt D (negP x) := ⟨negP_low h.low, h.dv⟩
theorem val_neg (x : Q2) : val (negP x) = - val x := by
  unfold val negP
  show (((-x.1 : Int)) : Rat) / (x.2 : Rat) = _
  rw [Rat.intCast_neg, Rat.div_def, Rat.div_def, Rat.neg_mul]
theorem Pt.fold (hD : 0 < D) : ∀ (xs : List Q2) (x : Q2), Pt D x → (∀ y ∈ xs, Pt D y) → Pt D (xs.foldl addP x)
  | [], x, h, _ => h
  | y :: ys, x, h, k => by
    rw [List.foldl_cons]
    exact Pt.fold hD ys (addP x y) (h.add hD (k y List.mem_cons_self)) fun z hz => k z (List.mem_cons_of_mem _ hz)
theorem Pt.sum (hD : 0 < D) {xs : List Q2} (k : ∀ y ∈ xs, Pt D y) : Pt D (sumP xs) := Pt.fold hD xs _ (pt0 D) k
theorem val_int (c : Int) : val (c, 1) = (c : Rat) := by
  unfold val
  show (c : Rat) / ((1 : Int) : Rat) = c
  rw [Rat.intCast_one]
  grind
theorem v_leI {c : Int} (h : 0 < y.2) : val y ≤ (c : Rat) ↔ y.1 ≤ c * y.2 := by
  have e := val_lt (x := (c, 1)) (y := y) (by show (0 : Int) < 1; decide) h
  rw [val_int] at e
  have e2 : (c * y.2 < y.1 * 1) ↔ (c * y.2 < y.1) := by rw [Int.mul_one]
  rw [show ((c, 1) : Q2).1 = c from rfl, show ((c, 1) : Q2).2 = 1 from rfl, e2] at e
  rw [← Rat.not_lt, ← e, Int.not_lt]
theorem v_geI {c : Int} (h : 0 < y.2) : (c : Rat) ≤ val y ↔ c * y.2 ≤ y.1 := by
  have e := val_lt (x := y) (y := (c, 1)) h (by show (0 : Int) < 1; decide)
  rw [val_int] at e
  have e2 : (y.1 * 1 < c * y.2) ↔ (y.1 < c * y.2) := by rw [Int.mul_one]
  rw [show ((c, 1) : Q2).1 = c from rfl, show ((c, 1) : Q2).2 = 1 from rfl, e2] at e
  rw [← Rat.not_lt, ← e, Int.not_lt]
/-- small enough: the bottoms below 2 ^ 1829, the worth within a million -/
theorem Pt.ok (h : Pt D x) (hD : 0 < D) (b : D < 2 ^ 1829) (l : ((-1000000 : Int) : Rat) ≤ val x) (u : val x ≤ ((1000000 : Int) : Rat)) : Ok 1850 x := by
  have p := h.pos
  have le := Int.le_of_dvd hD h.dv
  rw [v_geI p] at l
  rw [v_leI p] at u
  have e : (1000000 : Int) * 2 ^ 1829 < 2 ^ 1850 := by decide +kernel
  generalize (2 : Int) ^ 1829 = P at b e
  have e2 : ((2 : Int) ^ 1850).natAbs ≤ 2 ^ 1850 := by decide +kernel
  generalize (2 : Int) ^ 1850 = R at e e2
  exact ⟨p, Bd.of (m := R) (by omega) (by omega) e2, Bd.of (m := R) (by omega) (by omega) e2⟩
end
/-! ### lists of parts -/
theorem low_pos {xs : List Q2} (h : ∀ x ∈ xs, Low x.1 x.2) : AllPos xs := fun x hx => (h x hx).pos
theorem pt_low {D : Int} {xs : List Q2} (h : ∀ x ∈ xs, Pt D x) : ∀ x ∈ xs, Low x.1 x.2 := fun x hx => (h x hx).low
theorem item_mem {xs : List Q2} {i : Nat} (h : i < xs.length) : itemP xs i ∈ xs := List.mem_of_getElem? (item_some h)
theorem item_out {xs : List Q2} {i : Nat} (h : ¬ i < xs.length) : itemP xs i = (0, 1) := by
  unfold itemP
  rw [List.getD, List.getElem?_eq_none (by omega)]
  rfl
theorem item_pt {D : Int} {xs : List Q2} (h : ∀ x ∈ xs, Pt D x) (i : Nat) : Pt D (itemP xs i) := by
  by_cases hi : i < xs.length
  · exact h _ (item_mem hi)
  · rw [item_out hi]; exact pt0 D
theorem item_pos {xs : List Q2} (h : AllPos xs) (i : Nat) : 0 < (itemP xs i).2 := by
  by_cases hi : i < xs.length
  · exact h _ (item_mem hi)
  · rw [item_out hi]; decide
theorem item_set {xs : List Q2} {i j : Nat} {x : Q2} (hi : i < xs.length) : itemP (xs.set i x) j = if j = i then x else itemP xs j := by
  unfold itemP
  rw [List.getD, List.getElem?_set]
  by_cases h : i = j
  · rw [if_pos h, if_pos hi, if_pos h.symm]; rfl
  · rw [if_neg h, if_neg (Ne.symm h)]; rfl
theorem item_app_l {xs ys : List Q2} {i : Nat} (h : i < xs.length) : itemP (xs ++ ys) i = itemP xs i := by
  unfold itemP
  rw [List.getD, List.getElem?_append_left h]
  rfl
theorem item_app_r {xs ys : List Q2} {i : Nat} : itemP (xs ++ ys) (xs.length + i) = itemP ys i := by
  unfold itemP
  rw [List.getD, List.getElem?_append_right (by omega), Nat.add_sub_cancel_left]
  rfl
theorem ext_val {xs ys : List Q2} (hl : xs.length = ys.length) (hx : ∀ x ∈ xs, Low x.1 x.2) (hy : ∀ y ∈ ys, Low y.1 y.2) (h : ∀ i, i < xs.length → val (itemP xs i) = val (itemP ys i)) : xs = ys := by
  apply List.ext_getElem? fun i => ?_
  by_cases hi : i < xs.length
  · have hj : i < ys.length := by omega
    rw [item_some hi, item_some hj, val_inj (hx _ (item_mem hi)) (hy _ (item_mem hj)) (h i hi)]
  · rw [List.getElem?_eq_none (by omega), List.getElem?_eq_none (by omega)]
theorem addAt_val {xs : List Q2} {i : Nat} {x : Q2} (hp : AllPos xs) (hx : 0 < x.2) (hi : i < xs.length) (j : Nat) : val (itemP (addAt xs i x) j) = val (itemP xs j) + if j = i then val x else 0 := by
  unfold addAt
  rw [item_set hi]
  by_cases h : j = i
  · rw [if_pos h, if_pos h, h, val_add (item_pos hp i) hx]
  · rw [if_neg h, if_neg h]; grind
theorem addAt_pt {D : Int} {xs : List Q2} {i : Nat} {x : Q2} (hD : 0 < D) (h : ∀ y ∈ xs, Pt D y) (hx : Pt D x) : ∀ y ∈ addAt xs i x, Pt D y := fun y hy => by
  rcases List.mem_or_eq_of_mem_set hy with z | z
  · exact h y z
  · rw [z]; exact (item_pt h i).add hD hx
theorem addAt_worth {xs : List Q2} {i : Nat} {x : Q2} (hp : AllPos xs) (hx : 0 < x.2) (hi : i < xs.length) : worth (addAt xs i x) = worth xs + val x := by
  unfold addAt
  rw [worth_set (item_some hi), val_add (item_pos hp i) hx]
  grind
theorem worth_nn : ∀ {xs : List Q2}, (∀ x ∈ xs, 0 ≤ val x) → 0 ≤ worth xs
  | [], _ => by show (0 : Rat) ≤ 0; grind
  | x :: xs, h => by
    have a := h x List.mem_cons_self
    have b := worth_nn (xs := xs) fun y hy => h y (List.mem_cons_of_mem _ hy)
    rw [worth_cons]
    grind
theorem worth_ge : ∀ {xs : List Q2} {x : Q2}, (∀ x ∈ xs, 0 ≤ val x) → x ∈ xs → val x ≤ worth xs
  | y :: ys, x, h, hx => by
    have a := h y List.mem_cons_self
    have t : ∀ z ∈ ys, 0 ≤ val z := fun z hz => h z (List.mem_cons_of_mem _ hz)
    rw [worth_cons]
    rcases List.mem_cons.1 hx with e | hx
    · rw [e]
      have := worth_nn t
      grind
    · have := worth_ge t hx
      grind
theorem worth_len : ∀ {xs : List Q2}, (∀ x ∈ xs, val x ≤ 1) → worth xs ≤ ((xs.length : Int) : Rat)
  | [], _ => by show (0 : Rat) ≤ (((0 : Nat) : Int) : Rat); simp
  | x :: xs, h => by
    have a := h x List.mem_cons_self
    have b := worth_len (xs := xs) fun y hy => h y (List.mem_cons_of_mem _ hy)
    rw [worth_cons, List.length_cons]
    have : (((xs.length + 1 : Nat) : Int) : Rat) = ((xs.length : Int) : Rat) + 1 := by
      rw [Int.natCast_add, Rat.intCast_add]
      rfl
    rw [this]
    grind
/-! ### names and their places -/
theorem idx_inj {l : List Str} {a b : Str} (ha : a ∈ l) (hb : b ∈ l) (e : idxS l a = idxS l b) : a = b := by
  have h1 := idx_at ha
  have h2 := idx_at hb
  rw [e, h2] at h1
  exact (Option.some.inj h1).symm
theorem idx_iff {l : List Str} {a b : Str} (ha : a ∈ l) (hb : b ∈ l) : idxS l a = idxS l b ↔ a = b := ⟨idx_inj ha hb, fun e => by rw [e]⟩
theorem idx_app {l r : List Str} {z : Str} (h : z ∈ l) : idxS (l ++ r) z = idxS l z := by
  have e := idx_lt h
  unfold idxS at e ⊢
  rw [List.findIdx_append, if_pos e]
theorem idx_new' {l : List Str} {z : Str} (h : z ∉ l) : idxS (l ++ [z]) z = l.length := by
  unfold idxS
  rw [List.findIdx_append]
  have : l.findIdx (fun y => decide (y = z)) = l.length := List.findIdx_eq_length.2 fun y hy => decide_eq_false fun e => h (by rw [← e]; exact hy)
  rw [this, if_neg (Nat.lt_irrefl _)]
  simp [List.findIdx_cons]
theorem item_map {ns : List Str} {g : Str → Q2} {i : Nat} {z : Str} (e : ns[i]? = some z) : itemP (ns.map g) i = g z := by
  unfold itemP
  rw [List.getD, List.getElem?_map, e]
  rfl
theorem item_mapI {ns : List Str} {g : Str → Q2} {z : Str} (h : z ∈ ns) : itemP (ns.map g) (idxS ns z) = g z := item_map (idx_at h)
theorem name_at {ns : List Str} (nd : ns.Nodup) {i : Nat} (h : i < ns.length) : ∃ z ∈ ns, ns[i]? = some z ∧ idxS ns z = i := by
  have e : ns[i]? = some ns[i] := List.getElem?_eq_getElem h
  exact ⟨ns[i], List.mem_of_getElem? e, e, idx_nodup nd e⟩
/-- a list told field by field -/
theorem map_ext {ns : List Str} {xs : List Q2} {g : Str → Q2} (nd : ns.Nodup) (hl : xs.length = ns.length) (hx : ∀ x ∈ xs, Low x.1 x.2) (hg : ∀ z ∈ ns, Low (g z).1 (g z).2) (h : ∀ z ∈ ns, val (itemP xs (idxS ns z)) = val (g z)) : xs = ns.map g := by
  refine ext_val (by rw [List.length_map]; exact hl) hx (fun y hy => ?_) (fun i hi => ?_)
  · obtain ⟨z, hz, rfl⟩ := List.mem_map.1 hy
    exact hg z hz
  · obtain ⟨z, hz, e, ei⟩ := name_at nd (show i < ns.length by omega)
    rw [item_map e, ← h z hz, ei]
end DT

namespace DT
open PySem PySem.Spec PyProof.Rows L2 TL
-- END @rel1.lean
end DT
namespace DT
open PySem PySem.Spec PyProof.Rows L2
/-! ### loans by what they are worth -/
def wo (z : Str) : List Debt → Rat
  | [] => 0
  | d :: ds => (if d.1 = z then val d.2.2.1 else 0) + wo z ds
def wi (z : Str) : List Debt → Rat
  | [] => 0
  | d :: ds => (if d.2.1 = z then val d.2.2.1 else 0) + wi z ds
/-- of those that are over behind the next hour -/
def eo (z : Str) : List Debt → Rat
  | [] => 0
  | d :: ds => (if d.2.2.2 = 1 ∧ d.1 = z then val d.2.2.1 else 0) + eo z ds
def ei (z : Str) : List Debt → Rat
  | [] => 0
  | d :: ds => (if d.2.2.2 = 1 ∧ d.2.1 = z then val d.2.2.1 else 0) + ei z ds
theorem wo_outs (ds : List Debt) (z : Str) : worth ((ds.filter fun d => decide (d.1 = z)).map fun d => d.2.2.1) = wo z ds := by
  induction ds with
  | nil => rfl
  | cons d ds ih =>
    by_cases h : d.1 = z
    · rw [List.filter_cons, if_pos (decide_eq_true h), List.map_cons, worth_cons, ih, wo, if_pos h]
    · rw [List.filter_cons, if_neg (by simp [h]), ih, wo, if_neg h]; grind
theorem wi_inns (ds : List Debt) (z : Str) : worth ((ds.filter fun d => decide (d.2.1 = z)).map fun d => d.2.2.1) = wi z ds := by
  induction ds with
  | nil => rfl
  | cons d ds ih =>
    by_cases h : d.2.1 = z
    · rw [List.filter_cons, if_pos (decide_eq_true h), List.map_cons, worth_cons, ih, wi, if_pos h]
    · rw [List.filter_cons, if_neg (by simp [h]), ih, wi, if_neg h]; grind
theorem wo_app (z : Str) (xs ys : List Debt) : wo z (xs ++ ys) = wo z xs + wo z ys := by
  induction xs with
  | nil => show wo z ys = 0 + wo z ys; grind
  | cons d ds ih => rw [List.cons_append, wo, wo, ih]; grind
theorem wi_app (z : Str) (xs ys : List Debt) : wi z (xs ++ ys) = wi z xs + wi z ys := by
  induction xs with
  | nil => show wi z ys = 0 + wi z ys; grind
  | cons d ds ih => rw [List.cons_append, wi, wi, ih]; grind
theorem wo_nn {z : Str} {ds : List Debt} (h : ∀ d ∈ ds, 0 < val d.2.2.1) : 0 ≤ wo z ds := by
  induction ds with
  | nil => show (0 : Rat) ≤ 0; grind
  | cons d ds ih =>
    have a := h d List.mem_cons_self
    have b := ih fun e he => h e (List.mem_cons_of_mem _ he)
    rw [wo]
    split <;> grind
theorem wi_nn {z : Str} {ds : List Debt} (h : ∀ d ∈ ds, 0 < val d.2.2.1) : 0 ≤ wi z ds := by
  induction ds with
  | nil => show (0 : Rat) ≤ 0; grind
  | cons d ds ih =>
    have a := h d List.mem_cons_self
    have b := ih fun e he => h e (List.mem_cons_of_mem _ he)
    rw [wi]
    split <;> grind
theorem eo_nn {z : Str} {ds : List Debt} (h : ∀ d ∈ ds, 0 < val d.2.2.1) : 0 ≤ eo z ds := by
  induction ds with
  | nil => show (0 : Rat) ≤ 0; grind
  | cons d ds ih =>
    have a := h d List.mem_cons_self
    have b := ih fun e he => h e (List.mem_cons_of_mem _ he)
    rw [eo]
    split <;> grind
theorem ei_nn {z : Str} {ds : List Debt} (h : ∀ d ∈ ds, 0 < val d.2.2.1) : 0 ≤ ei z ds := by
  induction ds with
  | nil => show (0 : Rat) ≤ 0; grind
  | cons d ds ih =>
    have a := h d List.mem_cons_self
    have b := ih fun e he => h e (List.mem_cons_of_mem _ he)
    rw [ei]
    split <;> grind
theorem len_cast {α : Type} (a : α) (l : List α) : ((((a :: l).length : Nat) : Int) : Rat) = ((l.length : Int) : Rat) + 1 := by
  rw [List.length_cons, Int.natCast_add, Rat.intCast_add]
  rfl
theorem wi_len {z : Str} {ds : List Debt} (h : ∀ d ∈ ds, 0 < val d.2.2.1 ∧ val d.2.2.1 ≤ 1) : wi z ds ≤ ((ds.length : Int) : Rat) := by
  induction ds with
  | nil => show (0 : Rat) ≤ (((0 : Nat) : Int) : Rat); simp
  | cons d ds ih =>
    have a := h d List.mem_cons_self
    have b := ih fun e he => h e (List.mem_cons_of_mem _ he)
    rw [wi, len_cast]
    split <;> grind
theorem eo_len {z : Str} {ds : List Debt} (h : ∀ d ∈ ds, 0 < val d.2.2.1 ∧ val d.2.2.1 ≤ 1) : eo z ds ≤ ((ds.length : Int) : Rat) := by
  induction ds with
  | nil => show (0 : Rat) ≤ (((0 : Nat) : Int) : Rat); simp
  | cons d ds ih =>
    have a := h d List.mem_cons_self
    have b := ih fun e he => h e (List.mem_cons_of_mem _ he)
    rw [eo, len_cast]
    split <;> grind
theorem ei_len {z : Str} {ds : List Debt} (h : ∀ d ∈ ds, 0 < val d.2.2.1 ∧ val d.2.2.1 ≤ 1) : ei z ds ≤ ((ds.length : Int) : Rat) := by
  induction ds with
  | nil => show (0 : Rat) ≤ (((0 : Nat) : Int) : Rat); simp
  | cons d ds ih =>
    have a := h d List.mem_cons_self
    have b := ih fun e he => h e (List.mem_cons_of_mem _ he)
    rw [ei, len_cast]
    split <;> grind
theorem wo_mem {z : Str} {ds : List Debt} {d : Debt} (h : ∀ d ∈ ds, 0 < val d.2.2.1) (hd : d ∈ ds) (e : d.1 = z) : val d.2.2.1 ≤ wo z ds := by
  induction ds with
  | nil => cases hd
  | cons c ds ih =>
    have a := h c List.mem_cons_self
    have t := fun e he => h e (List.mem_cons_of_mem c he)
    rw [wo]
    rcases List.mem_cons.1 hd with q | q
    · rw [← q, if_pos e]
      have := wo_nn (z := z) t
      grind
    · have := ih t q
      split <;> grind
theorem out_none {z : Str} {ds : List Debt} (h : ∀ d ∈ ds, d.1 ≠ z) : (ds.filter fun d => decide (d.1 = z)) = [] := List.filter_eq_nil_iff.2 fun d hd => by simp [h d hd]
theorem inn_none {z : Str} {ds : List Debt} (h : ∀ d ∈ ds, d.2.1 ≠ z) : (ds.filter fun d => decide (d.2.1 = z)) = [] := List.filter_eq_nil_iff.2 fun d hd => by simp [h d hd]
theorem wo_none {z : Str} {ds : List Debt} (h : ∀ d ∈ ds, d.1 ≠ z) : wo z ds = 0 := by rw [← wo_outs, out_none h]; rfl
theorem wi_none {z : Str} {ds : List Debt} (h : ∀ d ∈ ds, d.2.1 ≠ z) : wi z ds = 0 := by rw [← wi_inns, inn_none h]; rfl
theorem decD_cons (d : Debt) (ds : List Debt) : decD (d :: ds) = if 1 < d.2.2.2 then (d.1, d.2.1, d.2.2.1, d.2.2.2 - 1) :: decD ds else decD ds := by
  unfold decD
  by_cases h : 1 < d.2.2.2
  · rw [if_pos h, List.filter_cons, if_pos (decide_eq_true h)]; rfl
  · rw [if_neg h, List.filter_cons, if_neg (by simpa using h)]
theorem wo_dec {z : Str} {ds : List Debt} (h : ∀ d ∈ ds, 1 ≤ d.2.2.2) : wo z (decD ds) = wo z ds - eo z ds := by
  induction ds with
  | nil => show (0 : Rat) = 0 - 0; grind
  | cons d ds ih =>
    have a := h d List.mem_cons_self
    have b := ih fun e he => h e (List.mem_cons_of_mem _ he)
    rw [decD_cons, wo, eo]
    by_cases h1 : 1 < d.2.2.2
    · rw [if_pos h1, wo, b, if_neg (show ¬ (d.2.2.2 = 1 ∧ d.1 = z) by omega)]
      grind
    · have e1 : d.2.2.2 = 1 := by omega
      rw [if_neg h1, b]
      by_cases h2 : d.1 = z
      · rw [if_pos h2, if_pos ⟨e1, h2⟩]; grind
      · rw [if_neg h2, if_neg fun k => h2 k.2]; grind
theorem wi_dec {z : Str} {ds : List Debt} (h : ∀ d ∈ ds, 1 ≤ d.2.2.2) : wi z (decD ds) = wi z ds - ei z ds := by
  induction ds with
  | nil => show (0 : Rat) = 0 - 0; grind
  | cons d ds ih =>
    have a := h d List.mem_cons_self
    have b := ih fun e he => h e (List.mem_cons_of_mem _ he)
    rw [decD_cons, wi, ei]
    by_cases h1 : 1 < d.2.2.2
    · rw [if_pos h1, wi, b, if_neg (show ¬ (d.2.2.2 = 1 ∧ d.2.1 = z) by omega)]
      grind
    · have e1 : d.2.2.2 = 1 := by omega
      rw [if_neg h1, b]
      by_cases h2 : d.2.1 = z
      · rw [if_pos h2, if_pos ⟨e1, h2⟩]; grind
      · rw [if_neg h2, if_neg fun k => h2 k.2]; grind
theorem dec_mem {d : Debt} {ds : List Debt} (h : d ∈ decD ds) : ∃ c ∈ ds, 1 < c.2.2.2 ∧ d = (c.1, c.2.1, c.2.2.1, c.2.2.2 - 1) := by
  unfold decD at h
  obtain ⟨c, hc, e⟩ := List.mem_map.1 h
  obtain ⟨h1, h2⟩ := List.mem_filter.1 hc
  exact ⟨c, h1, of_decide_eq_true h2, e.symm⟩
/-! ### the law's own state, sound -/
structure Lw (D : Int) (k : Nat) (st : LSt) : Prop where
  wl : Wl st
  d0 : 0 < D
  n0 : 0 < st.names.length
  nb : ∀ z ∈ st.names, nameB z = true
  ow : ∀ x ∈ st.own, Pt D x
  o1 : worth st.own = 1
  gn : ∀ x ∈ st.gain, Pt D x ∧ 0 ≤ val x ∧ val x ≤ ((1000 * st.wet : Int) : Rat)
  ct : ∀ x ∈ st.cnt, 0 ≤ x ∧ x ≤ st.wet
  w0 : 0 ≤ st.wet
  wk : st.wet ≤ (k : Int)
  lk : st.loans.length ≤ k
  lo : ∀ d ∈ st.loans, d.1 ∈ st.names ∧ d.2.1 ∈ st.names ∧ Pt D d.2.2.1 ∧ 0 < val d.2.2.1 ∧ 1 ≤ d.2.2.2 ∧ d.2.2.2 ≤ 999
  fr : ∀ z ∈ st.names, wo z st.loans ≤ val (itemP st.own (idxS st.names z))
section
variable {D : Int} {k : Nat} {st : LSt} {z : Str}
theorem Lw.ownZ (h : Lw D k st) (hz : z ∈ st.names) : idxS st.names z < st.own.length := by rw [h.wl.o]; exact idx_lt hz
theorem Lw.gnZ (h : Lw D k st) (hz : z ∈ st.names) : idxS st.names z < st.gain.length := by rw [h.wl.g]; exact idx_lt hz
theorem Lw.lp (h : Lw D k st) : ∀ d ∈ st.loans, 0 < val d.2.2.1 := fun d hd => (h.lo d hd).2.2.2.1
theorem Lw.outs_pt (h : Lw D k st) (z : Str) : ∀ x ∈ outs st z, Pt D x := fun x hx => by
  obtain ⟨d, hd, rfl⟩ := List.mem_map.1 hx
  exact (h.lo d (List.mem_filter.1 hd).1).2.2.1
theorem Lw.inns_pt (h : Lw D k st) (z : Str) : ∀ x ∈ inns st z, Pt D x := fun x hx => by
  obtain ⟨d, hd, rfl⟩ := List.mem_map.1 hx
  exact (h.lo d (List.mem_filter.1 hd).1).2.2.1
theorem Lw.vOut (h : Lw D k st) (z : Str) : val (sumP (outs st z)) = wo z st.loans := by
  rw [sumP_worth (low_pos (pt_low (h.outs_pt z)))]
  exact wo_outs _ _
theorem Lw.vInn (h : Lw D k st) (z : Str) : val (sumP (inns st z)) = wi z st.loans := by
  rw [sumP_worth (low_pos (pt_low (h.inns_pt z)))]
  exact wi_inns _ _
theorem Lw.pFree (h : Lw D k st) (z : Str) : Pt D (lfree st z) := (item_pt h.ow _).sub h.d0 (Pt.sum h.d0 (h.outs_pt z))
theorem Lw.pShare (h : Lw D k st) (z : Str) : Pt D (lshare st z) := (h.pFree z).add h.d0 (Pt.sum h.d0 (h.inns_pt z))
theorem Lw.pLag (h : Lw D k st) (z : Str) : Pt D (llagz st z) := (item_pt (fun x hx => (h.gn x hx).1) _).sub h.d0 (ptI D _)
theorem Lw.vFree (h : Lw D k st) (z : Str) : val (lfree st z) = val (itemP st.own (idxS st.names z)) - wo z st.loans := by
  unfold lfree
  rw [val_sub (item_pt h.ow _).pos (Pt.sum h.d0 (h.outs_pt z)).pos, h.vOut]
theorem Lw.vShare (h : Lw D k st) (z : Str) : val (lshare st z) = val (itemP st.own (idxS st.names z)) - wo z st.loans + wi z st.loans := by
  unfold lshare
  rw [val_add (h.pFree z).pos (Pt.sum h.d0 (h.inns_pt z)).pos, h.vInn, h.vFree]
theorem Lw.vLag (h : Lw D k st) (z : Str) : val (llagz st z) = val (itemP st.gain (idxS st.names z)) - ((st.cnt.getD (idxS st.names z) 0 : Int) : Rat) := by
  unfold llagz llag
  rw [val_sub (item_pt (fun x hx => (h.gn x hx).1) _).pos (ptI D _).pos, val_int]
theorem Lw.oNN (h : Lw D k st) (hz : z ∈ st.names) : 0 ≤ val (itemP st.own (idxS st.names z)) := by
  have a := h.fr z hz
  have b := wo_nn (z := z) h.lp
  grind
theorem Lw.allNN (h : Lw D k st) : ∀ x ∈ st.own, 0 ≤ val x := fun x hx => by
  obtain ⟨i, hi⟩ := List.mem_iff_getElem?.1 hx
  have hl := (List.getElem?_eq_some_iff.1 hi).1
  obtain ⟨z, hz, e, ez⟩ := name_at h.wl.nd (show i < st.names.length by rw [← h.wl.o]; exact hl)
  have := h.oNN hz
  rw [ez] at this
  rw [item_some hl] at hi
  rw [← Option.some.inj hi]
  exact this
theorem Lw.oLe (h : Lw D k st) (hz : z ∈ st.names) : val (itemP st.own (idxS st.names z)) ≤ 1 := by
  rw [← h.o1]
  exact worth_ge h.allNN (item_mem (h.ownZ hz))
theorem Lw.fNN (h : Lw D k st) (hz : z ∈ st.names) : 0 ≤ val (lfree st z) := by
  have := h.fr z hz
  rw [h.vFree]
  grind
theorem Lw.fLe (h : Lw D k st) (hz : z ∈ st.names) : val (lfree st z) ≤ 1 := by
  have a := h.oLe hz
  have b := wo_nn (z := z) h.lp
  rw [h.vFree]
  grind
theorem Lw.p1 (h : Lw D k st) : ∀ d ∈ st.loans, 0 < val d.2.2.1 ∧ val d.2.2.1 ≤ 1 := fun d hd => by
  have l := h.lo d hd
  have a := wo_mem h.lp hd rfl
  have b := h.fr d.1 l.1
  have c := h.oLe l.1
  exact ⟨l.2.2.2.1, by grind⟩
theorem castK {a b : Int} (h : a ≤ b) : (a : Rat) ≤ (b : Rat) := Rat.intCast_le_intCast.2 h
theorem Lw.sNN (h : Lw D k st) (hz : z ∈ st.names) : 0 ≤ val (lshare st z) := by
  have a := h.fr z hz
  have b := wi_nn (z := z) h.lp
  rw [h.vShare]
  grind
theorem Lw.sLe (h : Lw D k st) (hz : z ∈ st.names) (hk : k ≤ 900) : val (lshare st z) ≤ ((901 : Int) : Rat) := by
  have a := h.oLe hz
  have b := wo_nn (z := z) h.lp
  have c := wi_len (z := z) h.p1
  have d : ((st.loans.length : Int) : Rat) ≤ ((900 : Int) : Rat) := castK (by have := h.lk; omega)
  have e : ((901 : Int) : Rat) = ((900 : Int) : Rat) + 1 := by decide +kernel
  rw [h.vShare, e]
  grind
theorem Lw.cAt (h : Lw D k st) (i : Nat) : 0 ≤ st.cnt.getD i 0 ∧ st.cnt.getD i 0 ≤ st.wet := by
  by_cases hi : i < st.cnt.length
  · rw [List.getD, List.getElem?_eq_getElem hi]
    exact h.ct _ (List.getElem_mem hi)
  · rw [List.getD, List.getElem?_eq_none (by omega)]
    exact ⟨Int.le_refl _, h.w0⟩
theorem Lw.lBd (h : Lw D k st) (hz : z ∈ st.names) (hk : k ≤ 900) : ((-1000000 : Int) : Rat) ≤ val (llagz st z) ∧ val (llagz st z) ≤ ((1000000 : Int) : Rat) := by
  obtain ⟨_, g1, g2⟩ := h.gn _ (item_mem (h.gnZ hz))
  have wk := h.wk
  have c := h.cAt (idxS st.names z)
  rw [h.vLag]
  have e1 : ((1000 * st.wet : Int) : Rat) ≤ ((1000000 : Int) : Rat) := castK (by omega)
  have e2 : ((st.cnt.getD (idxS st.names z) 0 : Int) : Rat) ≤ ((1000000 : Int) : Rat) := castK (by omega)
  have e3 : ((0 : Int) : Rat) ≤ ((st.cnt.getD (idxS st.names z) 0 : Int) : Rat) := castK c.1
  have e4 : ((-1000000 : Int) : Rat) = - ((1000000 : Int) : Rat) := by rw [← Rat.intCast_neg]
  rw [Rat.intCast_zero] at e3
  rw [e4]
  constructor <;> grind
theorem mil {x : Rat} (h0 : 0 ≤ x) {c : Int} (h1 : x ≤ (c : Rat)) (hc : c ≤ 1000000) : ((-1000000 : Int) : Rat) ≤ x ∧ x ≤ ((1000000 : Int) : Rat) := by
  have a : (c : Rat) ≤ ((1000000 : Int) : Rat) := castK hc
  have b : ((-1000000 : Int) : Rat) ≤ ((0 : Int) : Rat) := castK (by decide)
  rw [Rat.intCast_zero] at b
  constructor <;> grind
theorem one_c : ((1 : Int) : Rat) = 1 := Rat.intCast_one
theorem sum_fine {xs : List Q2} (hD : 0 < D) (b : D < 2 ^ 1829) (h : ∀ x ∈ xs, Pt D x ∧ 0 ≤ val x ∧ val x ≤ 1) (hl : xs.length ≤ 1000) : Ok 1850 (sumP xs) := by
  have p := Pt.sum hD fun x hx => (h x hx).1
  have e := sumP_worth (low_pos fun x hx => (h x hx).1.low)
  have a1 := worth_nn fun x hx => (h x hx).2.1
  have a2 := worth_len fun x hx => (h x hx).2.2
  rw [← e] at a1 a2
  obtain ⟨l, u⟩ := mil a1 a2 (by omega)
  exact p.ok hD b l u
theorem Lw.lok (h : Lw D k st) (b : D < 2 ^ 1829) (hk : k ≤ 900) : LOk 1850 st := by
  have lk := h.lk
  have o1 : ∀ z, ∀ x ∈ outs st z, Pt D x ∧ 0 ≤ val x ∧ val x ≤ 1 := fun z x hx => by
    obtain ⟨d, hd, rfl⟩ := List.mem_map.1 hx
    have := h.p1 d (List.mem_filter.1 hd).1
    exact ⟨h.outs_pt z _ hx, by grind, this.2⟩
  have i1 : ∀ z, ∀ x ∈ inns st z, Pt D x ∧ 0 ≤ val x ∧ val x ≤ 1 := fun z x hx => by
    obtain ⟨d, hd, rfl⟩ := List.mem_map.1 hx
    have := h.p1 d (List.mem_filter.1 hd).1
    exact ⟨h.inns_pt z _ hx, by grind, this.2⟩
  have ol : ∀ z, (outs st z).length ≤ st.loans.length := fun z => filt_len
  have il : ∀ z, (inns st z).length ≤ st.loans.length := fun z => filt_len
  refine ⟨h.wl, by decide, by decide, by omega, fun x hx => ⟨?_, (h.ow x hx).low⟩, fun x hx => ⟨?_, (h.gn x hx).1.low⟩, fun x hx => ?_, fun d hd => ?_, fun z i => ?_, fun z i => ?_, fun z hz => ?_, fun z hz => ?_, fun z hz => ?_⟩
  · obtain ⟨l, u⟩ := mil (c := 1) (h.allNN x hx) (by rw [one_c, ← h.o1]; exact worth_ge h.allNN hx) (by decide)
    exact (h.ow x hx).ok h.d0 b l u
  · obtain ⟨p, g1, g2⟩ := h.gn x hx
    have wk := h.wk
    obtain ⟨l, u⟩ := mil g1 g2 (by omega)
    exact p.ok h.d0 b l u
  · have c := h.ct x hx
    have wk := h.wk
    exact (Bd.of (n := 10) (m := 1000) (by omega) (by omega) (by decide)).mono (by decide)
  · have := h.p1 d hd
    obtain ⟨l, u⟩ := mil (c := 1) (show 0 ≤ val d.2.2.1 by grind) (by rw [one_c]; exact this.2) (by decide)
    exact (h.lo d hd).2.2.1.ok h.d0 b l u
  · exact sum_fine h.d0 b (fun x hx => o1 z x (List.mem_of_mem_take hx)) (by have := ol z; rw [List.length_take]; omega)
  · exact sum_fine h.d0 b (fun x hx => i1 z x (List.mem_of_mem_take hx)) (by have := il z; rw [List.length_take]; omega)
  · obtain ⟨l, u⟩ := mil (c := 1) (h.fNN hz) (by rw [one_c]; exact h.fLe hz) (by decide)
    exact (h.pFree z).ok h.d0 b l u
  · obtain ⟨l, u⟩ := mil (h.sNN hz) (h.sLe hz hk) (by decide)
    exact (h.pShare z).ok h.d0 b l u
  · obtain ⟨l, u⟩ := h.lBd hz hk
    exact (h.pLag z).ok h.d0 b l u
end
end DT

namespace DT
open PySem PySem.Spec PyProof.Rows L2 TL
-- END @rel2.lean
end DT
namespace DT
open PySem PySem.Spec PyProof.Rows L2
/-! ### drawn deeds, and what becomes of a sound state -/
def Dr (D f : Int) : De → Prop
  | .settle z => z.length ≤ 1000
  | .sell a b x => a.length ≤ 1000 ∧ b.length ≤ 1000 ∧ Pt (D * f) x ∧ ((-1000000 : Int) : Rat) ≤ val x ∧ val x ≤ ((1000000 : Int) : Rat)
  | .lend a b x _ => a.length ≤ 1000 ∧ b.length ≤ 1000 ∧ Pt (D * f) x ∧ ((-1000000 : Int) : Rat) ≤ val x ∧ val x ≤ ((1000000 : Int) : Rat)
  | .leave z hs => z.length ≤ 1000 ∧ hs.length ≤ 24 ∧ (hs.length * 999999 : Int) ≤ f ∧ ∀ h ∈ hs, h.1.length ≤ 1000
  | .hour _ => True
  | .lose => True
section
variable {D f : Int} {k : Nat} {st : LSt} {z : Str}
/-- the same by a bottom that is a multiple -/
theorem Lw.more (h : Lw D k st) {E : Int} (e0 : 0 < E) (d : D ∣ E) : Lw E k st :=
  ⟨h.wl, e0, h.n0, h.nb, fun x hx => (h.ow x hx).mono d, h.o1, fun x hx => ⟨(h.gn x hx).1.mono d, (h.gn x hx).2⟩, h.ct, h.w0, h.wk, h.lk, fun c hc => ⟨(h.lo c hc).1, (h.lo c hc).2.1, (h.lo c hc).2.2.1.mono d, (h.lo c hc).2.2.2⟩, h.fr⟩
theorem Lw.mulF (h : Lw D k st) (hf : 0 < f) : Lw (D * f) k st := h.more (Int.mul_pos h.d0 hf) (Int.dvd_mul_right D f)
theorem Lw.moreK (h : Lw D k st) {j : Nat} (e : k ≤ j) : Lw D j st := ⟨h.wl, h.d0, h.n0, h.nb, h.ow, h.o1, h.gn, h.ct, h.w0, by have := h.wk; omega, by have := h.lk; omega, h.lo, h.fr⟩
theorem Lw.join (h : Lw D k st) (hn : nameB z = true) (hz : z ∉ st.names) (room : st.names.length + 1 ≤ 24) : Lw D k (joinS st z) := by
  have ol := h.wl.o
  refine ⟨join_wl h.wl hz room, h.d0, ?_, fun y hy => ?_, fun x hx => ?_, ?_, fun x hx => ?_, fun x hx => ?_, h.w0, h.wk, h.lk, fun d hd => ?_, fun y hy => ?_⟩
  · show 0 < (st.names ++ [z]).length
    rw [List.length_append]
    show 0 < st.names.length + 1
    omega
  · rcases List.mem_append.1 (show y ∈ st.names ++ [z] from hy) with hy | hy
    · exact h.nb y hy
    · rw [List.mem_singleton.1 hy]; exact hn
  · rcases List.mem_append.1 (show x ∈ st.own ++ [(0, 1)] from hx) with hx | hx
    · exact h.ow x hx
    · rw [List.mem_singleton.1 hx]; exact pt0 D
  · show worth (st.own ++ [(0, 1)]) = 1
    rw [worth_app, h.o1, worth_cons, val_zero']
    show (1 : Rat) + (0 + 0) = 1
    grind
  · rcases List.mem_append.1 (show x ∈ st.gain ++ [(0, 1)] from hx) with hx | hx
    · exact h.gn x hx
    · rw [List.mem_singleton.1 hx, val_zero']
      have : ((0 : Int) : Rat) ≤ ((1000 * st.wet : Int) : Rat) := castK (by have := h.w0; omega)
      rw [Rat.intCast_zero] at this
      exact ⟨pt0 D, by grind, this⟩
  · rcases List.mem_append.1 (show x ∈ st.cnt ++ [0] from hx) with hx | hx
    · exact h.ct x hx
    · rw [List.mem_singleton.1 hx]; exact ⟨Int.le_refl _, h.w0⟩
  · obtain ⟨a, b, c⟩ := h.lo d hd
    exact ⟨List.mem_append_left _ a, List.mem_append_left _ b, c⟩
  · show wo y st.loans ≤ val (itemP (st.own ++ [(0, 1)]) (idxS (st.names ++ [z]) y))
    by_cases hm : y ∈ st.names
    · rw [idx_app hm, item_app_l (h.ownZ hm)]
      exact h.fr y hm
    · rcases List.mem_append.1 (show y ∈ st.names ++ [z] from hy) with hy | hy
      · exact absurd hy hm
      · rw [List.mem_singleton.1 hy, idx_new' hz, ← ol, show st.own.length = st.own.length + 0 from rfl, item_app_r]
        rw [show itemP [(0, 1)] 0 = (0, 1) from rfl, val_zero', wo_none fun d hd e => hz (by rw [← e]; exact (h.lo d hd).1)]
        grind
theorem move_own (st : LSt) (a b : Str) (x : Q2) : (moveS st a b x).own = addAt (addAt st.own (idxS st.names a) (negP x)) (idxS st.names b) x := by
  rw [addAt_neg]
  rfl
/-- what goes from one to another field, where the giver has so much left that is free -/
theorem Lw.move (h : Lw D k st) {a b : Str} {x : Q2} (ha : a ∈ st.names) (hb : b ∈ st.names) (hab : a ≠ b) (px : Pt D x) (x0 : 0 ≤ val x) (le : wo a st.loans + val x ≤ val (itemP st.own (idxS st.names a))) : Lw D k (moveS st a b x) := by
  have ia := h.ownZ ha
  have ib := h.ownZ hb
  have ap := low_pos (pt_low h.ow)
  have p1 := addAt_pt (i := idxS st.names a) h.d0 h.ow px.neg
  have ap1 := low_pos (pt_low p1)
  have ib1 : idxS st.names b < (addAt st.own (idxS st.names a) (negP x)).length := by rw [addAt_len]; exact ib
  refine ⟨move_wl h.wl, h.d0, h.n0, h.nb, ?_, ?_, h.gn, h.ct, h.w0, h.wk, h.lk, h.lo, fun y hy => ?_⟩
  · rw [move_own]
    exact addAt_pt h.d0 p1 px
  · rw [move_own, addAt_worth ap1 px.pos ib1, addAt_worth ap px.neg.pos ia, h.o1, val_neg]
    grind
  · show wo y st.loans ≤ val (itemP (moveS st a b x).own (idxS st.names y))
    have f0 := h.fr y hy
    rw [move_own, addAt_val ap1 px.pos ib1, addAt_val ap px.neg.pos ia, val_neg]
    by_cases e1 : y = a
    · have e2 : ¬ idxS st.names y = idxS st.names b := fun e => hab (e1 ▸ idx_inj hy hb e)
      rw [if_neg e2, if_pos (by rw [e1]), e1]
      grind
    · have e2 : ¬ idxS st.names y = idxS st.names a := fun e => e1 (idx_inj hy ha e)
      rw [if_neg e2]
      split <;> grind
theorem lend_wo (st : LSt) (a b : Str) (x : Q2) (hh : Int) (y : Str) : wo y (st.loans ++ [(a, b, x, hh)]) = wo y st.loans + if a = y then val x else 0 := by
  rw [wo_app]
  show _ + ((if a = y then val x else 0) + 0) = _
  grind
theorem lend_wi (st : LSt) (a b : Str) (x : Q2) (hh : Int) (y : Str) : wi y (st.loans ++ [(a, b, x, hh)]) = wi y st.loans + if b = y then val x else 0 := by
  rw [wi_app]
  show _ + ((if b = y then val x else 0) + 0) = _
  grind
theorem Lw.lend (h : Lw D k st) {a b : Str} {x : Q2} {hh : Int} (ha : a ∈ st.names) (hb : b ∈ st.names) (px : Pt D x) (x0 : 0 < val x) (h1 : 1 ≤ hh) (h2 : hh ≤ 999) (le : val x ≤ val (lfree st a)) : Lw D (k + 1) { st with loans := st.loans ++ [(a, b, x, hh)] } := by
  refine ⟨⟨h.wl.o, h.wl.g, h.wl.c, h.wl.few, h.wl.nd⟩, h.d0, h.n0, h.nb, h.ow, h.o1, h.gn, h.ct, h.w0, by have := h.wk; show st.wet ≤ _; omega, ?_, fun d hd => ?_, fun y hy => ?_⟩
  · show (st.loans ++ [_]).length ≤ _
    rw [List.length_append]
    have := h.lk
    show st.loans.length + 1 ≤ _
    omega
  · rcases List.mem_append.1 (show d ∈ st.loans ++ [(a, b, x, hh)] from hd) with hd | hd
    · exact h.lo d hd
    · rw [List.mem_singleton.1 hd]
      exact ⟨ha, hb, px, x0, h1, h2⟩
  · show wo y (st.loans ++ [(a, b, x, hh)]) ≤ val (itemP st.own (idxS st.names y))
    have f0 := h.fr y hy
    rw [lend_wo]
    rw [h.vFree] at le
    by_cases e : a = y
    · rw [if_pos e, ← e]; grind
    · rw [if_neg e]; grind
theorem Lw.gone (h : Lw D k st) : Lw D k (goneS st) := by
  refine ⟨⟨h.wl.o, h.wl.g, h.wl.c, h.wl.few, h.wl.nd⟩, h.d0, h.n0, h.nb, h.ow, h.o1, h.gn, h.ct, h.w0, h.wk, ?_, fun d hd => ?_, fun y hy => ?_⟩
  · have := decD_len st.loans
    have := h.lk
    show (decD st.loans).length ≤ k
    omega
  · obtain ⟨c, hc, h1, e⟩ := dec_mem hd
    obtain ⟨a1, a2, a3, a4, a5, a6⟩ := h.lo c hc
    rw [e]
    exact ⟨a1, a2, a3, a4, by show 1 ≤ c.2.2.2 - 1; omega, by show c.2.2.2 - 1 ≤ 999; omega⟩
  · show wo y (decD st.loans) ≤ val (itemP st.own (idxS st.names y))
    have f0 := h.fr y hy
    have e0 := eo_nn (z := y) h.lp
    rw [wo_dec fun d hd => (h.lo d hd).2.2.2.2.1]
    grind
theorem Lw.dry (h : Lw D k st) (x : Int) : Lw D k { st with dry := x } := ⟨⟨h.wl.o, h.wl.g, h.wl.c, h.wl.few, h.wl.nd⟩, h.d0, h.n0, h.nb, h.ow, h.o1, h.gn, h.ct, h.w0, h.wk, h.lk, h.lo, h.fr⟩
theorem Lw.hour0 (h : Lw D k st) (hk : k ≤ 900) (i : Nat) : Lw D (k + 1) { st with gain := st.names.map (gainZ st), cnt := st.cnt.set i (st.cnt.getD i 0 + 1), wet := st.wet + 1 } := by
  have e1000 : ((1000 * (st.wet + 1) : Int) : Rat) = ((1000 * st.wet : Int) : Rat) + ((1000 : Int) : Rat) := by rw [Int.mul_add, Rat.intCast_add]; rfl
  refine ⟨⟨h.wl.o, by show (st.names.map _).length = _; rw [List.length_map], by show (st.cnt.set _ _).length = _; rw [List.length_set]; exact h.wl.c, h.wl.few, h.wl.nd⟩, h.d0, h.n0, h.nb, h.ow, h.o1, fun x hx => ?_, fun x hx => ?_, by have := h.w0; show 0 ≤ st.wet + 1; omega, by have := h.wk; show st.wet + 1 ≤ _; omega, by have := h.lk; show st.loans.length ≤ _; omega, h.lo, h.fr⟩
  · obtain ⟨z, hz, rfl⟩ := List.mem_map.1 hx
    obtain ⟨g0, g1, g2⟩ := h.gn _ (item_mem (h.gnZ hz))
    have s0 := h.sNN hz
    have s1 := h.sLe hz hk
    have c9 : ((901 : Int) : Rat) ≤ ((1000 : Int) : Rat) := castK (by decide)
    refine ⟨g0.add h.d0 (h.pShare z), ?_, ?_⟩
    · unfold DT.gainZ
      rw [val_add g0.pos (h.pShare z).pos]
      grind
    · unfold DT.gainZ
      rw [val_add g0.pos (h.pShare z).pos]
      show _ ≤ ((1000 * (st.wet + 1) : Int) : Rat)
      rw [e1000]
      grind
  · have c := h.cAt i
    show 0 ≤ x ∧ x ≤ st.wet + 1
    rcases List.mem_or_eq_of_mem_set hx with hx | hx
    · have := h.ct x hx
      omega
    · rw [hx]
      omega
theorem Lw.hour (h : Lw D k st) (hk : k ≤ 900) : Lw D (k + 1) (hourS st) := Lw.gone (h.hour0 hk _)
end
end DT

namespace DT
open PySem PySem.Spec PyProof.Rows L2 TL
-- END @rel3.lean
end DT
namespace DT
open PySem PySem.Spec PyProof.Rows L2
/-! ### leaving to heirs -/
theorem wsum_take {hs : List (Str × Int)} {j : Nat} {h : Str × Int} (e : hs[j]? = some h) : wsum (hs.take (j + 1)) = wsum (hs.take j) + h.2 := by
  unfold wsum
  rw [List.take_add_one, e, List.map_append, List.sum_append]
  show _ + (h.2 + 0) = _
  omega
theorem wsum_le {hs : List (Str × Int)} (k : ∀ h ∈ hs, 1 ≤ h.2) : ∀ j, 0 ≤ wsum (hs.take j) ∧ wsum (hs.take j) ≤ wsum hs := by
  have nn : ∀ (l : List (Str × Int)), (∀ h ∈ l, 1 ≤ h.2) → 0 ≤ wsum l := by
    intro l
    induction l with
    | nil => intro _; exact Int.le_refl _
    | cons h l ih =>
      intro k
      have a := k h List.mem_cons_self
      have b := ih fun x hx => k x (List.mem_cons_of_mem _ hx)
      show 0 ≤ h.2 + wsum l
      omega
  intro j
  have a := nn (hs.take j) fun h hh => k h (List.mem_of_mem_take hh)
  have b := nn (hs.drop j) fun h hh => k h (List.mem_of_mem_drop hh)
  have e : wsum hs = wsum (hs.take j) + wsum (hs.drop j) := by
    unfold wsum
    rw [← List.sum_append, ← List.map_append, List.take_append_drop]
  omega
section
variable {D : Int} {k : Nat} {st : LSt} {z : Str} {hs : List (Str × Int)}
theorem partL_val {f : Q2} {W w : Int} (hf : 0 < f.2) (hW : 0 < W) : val (partL f W w) = (w : Rat) * (val f / (W : Rat)) := by
  unfold partL
  rw [val_low (Int.mul_pos hf hW)]
  unfold val
  have h1 := r_ne hf
  have h2 := r_ne hW
  rw [Rat.intCast_mul, Rat.intCast_mul]
  grind
theorem partL_pt {f : Q2} {W w : Int} (p : Pt D f) (hW : 0 < W) : Pt (D * W) (partL f W w) :=
  ⟨lowP_low (Int.mul_pos p.pos hW), Int.dvd_trans low_dvd (Int.mul_dvd_mul p.dv (Int.dvd_refl W))⟩
theorem mulL_val {f : Q2} {W w : Int} (hf : 0 < f.2) (hW : 0 < W) : val (mulP f (lowP w W)) = (w : Rat) * (val f / (W : Rat)) := by
  rw [val_mul hf (lowP_low hW).pos, val_low hW]
  grind
/-- the law's state behind so many heirs -/
structure Lj (D : Int) (k : Nat) (st : LSt) (z : Str) (hs : List (Str × Int)) (j : Nat) (s : LSt) : Prop where
  lw : Lw D k s
  nm : s.names = st.names ++ (hs.take j).map (·.1)
  ln : s.loans = st.loans
  gn : s.gain = st.gain ++ List.replicate j (0, 1)
  ct : s.cnt = st.cnt ++ List.replicate j 0
  we : s.wet = st.wet
  dr : s.dry = st.dry
  ol : s.own.length = st.names.length + j
  o1 : ∀ i, i < st.names.length → val (itemP s.own i) = val (itemP st.own i) - if i = idxS st.names z then (wsum (hs.take j) : Rat) * (val (lfree st z) / (wsum hs : Rat)) else 0
  o2 : ∀ i h, i < j → hs[i]? = some h → val (itemP s.own (st.names.length + i)) = (h.2 : Rat) * (val (lfree st z) / (wsum hs : Rat))
theorem Lw.heirs (h : Lw D k st) (hz : z ∈ st.names) (hb : heirBad st.names hs = none) (room : st.names.length + hs.length ≤ 24) (ne : hs ≠ []) : ∀ j, j ≤ hs.length → Lj (D * wsum hs) k st z hs j (leaveS z (lfree st z) (wsum hs) st (hs.take j)) := by
  have hok := heir_ok hb
  have w1 : ∀ h ∈ hs, 1 ≤ h.2 := fun x hx => (hok x hx).2.1
  have W0 : 0 < wsum hs := by
    have := (wsum_bd (hs := hs) fun x hx => (hok x hx).2).1
    have : 0 < hs.length := List.length_pos_iff.2 ne
    omega
  have f0 := h.fNN hz
  have fp := h.pFree z
  have r0 : 0 ≤ val (lfree st z) / (wsum hs : Rat) := by
    rw [Rat.div_def]
    exact Rat.mul_nonneg f0 (Rat.le_of_lt (Rat.inv_pos.2 (r_pos W0)))
  have rW : (wsum hs : Rat) * (val (lfree st z) / (wsum hs : Rat)) = val (lfree st z) := by
    have := r_ne W0
    grind
  generalize hr : val (lfree st z) / (wsum hs : Rat) = r at r0 rW
  have ol := h.wl.o
  have iz := idx_lt hz
  intro j
  induction j with
  | zero =>
    intro _
    refine ⟨h.mulF W0, by show st.names = st.names ++ []; rw [List.append_nil], rfl, by show st.gain = st.gain ++ []; rw [List.append_nil], by show st.cnt = st.cnt ++ []; rw [List.append_nil], rfl, rfl, ol, fun i hi => ?_, fun i x hi => absurd hi (by omega)⟩
    show val (itemP st.own i) = val (itemP st.own i) - if i = idxS st.names z then ((wsum [] : Int) : Rat) * _ else 0
    rw [show wsum [] = 0 from rfl, Rat.intCast_zero]
    split <;> grind
  | succ j ih =>
    intro hj
    have lj := ih (by omega)
    have e : hs[j]? = some hs[j] := List.getElem?_eq_getElem (by omega)
    obtain ⟨g, eg⟩ : ∃ g, g = hs[j] := ⟨_, rfl⟩
    rw [← eg] at e
    have hg := hok g (List.mem_of_getElem? e)
    have hn := heir_take hb j _ e
    have e2 : hs.take (j + 1) = hs.take j ++ [g] := by rw [List.take_add_one, e]; rfl
    have ws := wsum_take e
    have wl1 := wsum_le w1 (j + 1)
    rw [e2, leaveS_snoc]
    rw [e2] at ws wl1
    generalize leaveS z (lfree st z) (wsum hs) st (hs.take j) = s at lj ⊢
    rw [← lj.nm] at hn
    have sl : s.names.length = st.names.length + j := by rw [lj.nm, List.length_append, List.length_map, List.length_take]; omega
    have lw1 := lj.lw.join hg.1 hn (by omega)
    have zs : z ∈ s.names := by rw [lj.nm]; exact List.mem_append_left _ hz
    have zs1 : z ∈ (joinS s g.1).names := List.mem_append_left _ zs
    have gs1 : g.1 ∈ (joinS s g.1).names := List.mem_append_right _ (by simp)
    have zg : z ≠ g.1 := fun q => hn (by rw [← q]; exact zs)
    have izs : idxS s.names z = idxS st.names z := by rw [lj.nm]; exact idx_app hz
    have iz1 : idxS (joinS s g.1).names z = idxS st.names z := by rw [← izs]; exact idx_app zs
    have ig1 : idxS (joinS s g.1).names g.1 = st.names.length + j := by rw [← sl]; exact idx_new' hn
    have sol := lj.ol
    have oz1 : itemP (joinS s g.1).own (idxS st.names z) = itemP s.own (idxS st.names z) := item_app_l (by omega)
    have oz := lj.o1 _ iz
    rw [if_pos rfl, hr] at oz
    have pv : val (partL (lfree st z) (wsum hs) g.2) = (g.2 : Rat) * r := by rw [partL_val fp.pos W0, hr]
    have pp : Pt (D * wsum hs) (partL (lfree st z) (wsum hs) g.2) := partL_pt fp W0
    have g0 : (0 : Rat) ≤ (g.2 : Rat) := by rw [← Rat.intCast_zero]; exact castK (by omega)
    have pnn : 0 ≤ (g.2 : Rat) * r := Rat.mul_nonneg g0 r0
    have lnj : (joinS s g.1).loans = st.loans := lj.ln
    have vf := h.vFree z
    have sumle : ((wsum (hs.take j) : Int) : Rat) * r + (g.2 : Rat) * r ≤ val (lfree st z) := by
      rw [← rW]
      have c : ((wsum (hs.take j) + g.2 : Int) : Rat) ≤ ((wsum hs : Int) : Rat) := castK (by omega)
      rw [Rat.intCast_add] at c
      have := Rat.mul_nonneg (show 0 ≤ ((wsum hs : Int) : Rat) - ((wsum (hs.take j) : Int) : Rat) - (g.2 : Rat) by grind) r0
      grind
    have lw2 := lw1.move zs1 gs1 zg pp (by rw [pv]; exact pnn) (by rw [lnj, pv, iz1, oz1, oz]; grind)
    have il1 : (joinS s g.1).own.length = st.names.length + j + 1 := by
      show (s.own ++ [(0, 1)]).length = _
      rw [List.length_append, sol]
      rfl
    have apw := low_pos (pt_low lw1.ow)
    have pw1 := addAt_pt (i := idxS st.names z) lw1.d0 lw1.ow pp.neg
    have ap1 := low_pos (pt_low pw1)
    have vo : ∀ i, val (itemP (moveS (joinS s g.1) z g.1 (partL (lfree st z) (wsum hs) g.2)).own i) = val (itemP (joinS s g.1).own i) + (if i = idxS st.names z then - ((g.2 : Rat) * r) else 0) + if i = st.names.length + j then (g.2 : Rat) * r else 0 := fun i => by
      rw [move_own, iz1, ig1, addAt_val ap1 pp.pos (by rw [addAt_len]; omega), addAt_val apw pp.neg.pos (by omega), val_neg, pv]
    refine ⟨lw2, ?_, lj.ln, ?_, ?_, lj.we, lj.dr, ?_, fun i hi => ?_, fun i x hi ex => ?_⟩
    · show s.names ++ [g.1] = _
      rw [lj.nm, e2, List.map_append, List.append_assoc]
      rfl
    · show s.gain ++ [(0, 1)] = _
      rw [lj.gn, List.append_assoc, ← List.replicate_succ']
    · show s.cnt ++ [0] = _
      rw [lj.ct, List.append_assoc, ← List.replicate_succ']
    · rw [move_own, addAt_len, addAt_len, il1]
      omega
    · rw [vo, show itemP (joinS s g.1).own i = itemP s.own i from item_app_l (by omega), lj.o1 i hi, if_neg (show ¬ i = st.names.length + j by omega), e2, ws, hr, Rat.intCast_add]
      split <;> grind
    · rw [vo, if_neg (show ¬ st.names.length + i = idxS st.names z by omega)]
      by_cases hij : i = j
      · have ex2 : x = g := by rw [hij, e] at ex; exact (Option.some.inj ex).symm
        rw [if_pos (by rw [hij]), hij, ex2, ← sol]
        rw [show itemP (joinS s g.1).own s.own.length = itemP [(0, 1)] 0 from item_app_r (xs := s.own) (i := 0)]
        rw [show itemP [(0, 1)] 0 = (0, 1) from rfl, val_zero', hr]
        grind
      · rw [if_neg (show ¬ st.names.length + i = st.names.length + j by omega), show itemP (joinS s g.1).own (st.names.length + i) = itemP s.own (st.names.length + i) from item_app_l (by omega), lj.o2 i x (by omega) ex]
        grind
end
end DT

namespace DT
open PySem PySem.Spec PyProof.Rows L2 TL
-- END @rel4.lean
end DT
namespace DT
open PySem PySem.Spec PyProof.Rows L2
/-! ### the ditch's moment as the law's own state has it -/
structure Rl (m : Mo) (st : LSt) : Prop where
  o : m.order = st.names
  h : m.hold = st.own
  f : m.free = st.names.map (lfree st)
  q : m.port = st.names.map (lshare st)
  a : m.arr = st.names.map (llagz st)
  c : m.cnt = st.cnt
  d : m.debts = st.loans
  w : m.wet = st.wet
  y : m.dry = st.dry
section
variable {D f : Int} {k : Nat} {st : LSt} {m : Mo} {z : Str}
theorem Rl.wf (r : Rl m st) (h : Lw D k st) (nl : ∀ z ∈ st.names, z.length ≤ 1000) : Wf m :=
  ⟨by rw [r.h, r.o, h.wl.o], by rw [r.f, r.o, List.length_map], by rw [r.q, r.o, List.length_map], by rw [r.a, r.o, List.length_map], by rw [r.c, r.o, h.wl.c], by rw [r.o]; exact h.wl.few, by rw [r.o]; exact h.wl.nd, by rw [r.o]; exact nl⟩
theorem judgeG_congr {ns : List Str} {g g' : Str → Q2} (e : ∀ a ∈ ns, g a = g' a) (dd : De) : judgeG ns g dd = judgeG ns g' dd := by
  cases dd with
  | settle z => rfl
  | sell a b x =>
    simp only [judgeG]
    by_cases h : a ∈ ns ∧ b ∈ ns
    · rw [e a h.1]
    · rw [if_pos h, if_pos h]
  | lend a b x hh =>
    simp only [judgeG]
    by_cases h : a ∈ ns ∧ b ∈ ns
    · rw [e a h.1]
    · rw [if_pos h, if_pos h]
  | leave z hs => rfl
  | hour z => rfl
  | lose => rfl
theorem Rl.judge (r : Rl m st) (dd : De) : judge m dd = wordS st dd := by
  unfold DT.judge wordS
  rw [r.o]
  exact judgeG_congr (fun a ha => by rw [r.f]; exact item_mapI ha) dd
theorem freeM (r : Rl m st) (hz : z ∈ st.names) : itemP m.free (idxS st.names z) = lfree st z := by rw [r.f]; exact item_mapI hz
theorem portM (r : Rl m st) (hz : z ∈ st.names) : itemP m.port (idxS st.names z) = lshare st z := by rw [r.q]; exact item_mapI hz
theorem arrM (r : Rl m st) (hz : z ∈ st.names) : itemP m.arr (idxS st.names z) = llagz st z := by rw [r.a]; exact item_mapI hz
theorem Rl.pf (r : Rl m st) (h : Lw D k st) : ∀ x ∈ m.free, Pt D x := fun x hx => by
  rw [r.f] at hx
  obtain ⟨z, _, rfl⟩ := List.mem_map.1 hx
  exact h.pFree z
theorem Rl.pq (r : Rl m st) (h : Lw D k st) : ∀ x ∈ m.port, Pt D x := fun x hx => by
  rw [r.q] at hx
  obtain ⟨z, _, rfl⟩ := List.mem_map.1 hx
  exact h.pShare z
theorem Rl.pa (r : Rl m st) (h : Lw D k st) : ∀ x ∈ m.arr, Pt D x := fun x hx => by
  rw [r.a] at hx
  obtain ⟨z, _, rfl⟩ := List.mem_map.1 hx
  exact h.pLag z
theorem Rl.fl (r : Rl m st) : m.free.length = st.names.length := by rw [r.f, List.length_map]
theorem Rl.ql (r : Rl m st) : m.port.length = st.names.length := by rw [r.q, List.length_map]
theorem Rl.al (r : Rl m st) : m.arr.length = st.names.length := by rw [r.a, List.length_map]
/-! settle -/
theorem Rl.join (r : Rl m st) (h : Lw D k st) (h' : Lw D k (joinS st z)) (hz : z ∉ st.names) : Rl (joinM m z (0, 1)) (joinS st z) := by
  have nd' := h'.wl.nd
  have key : ∀ (xs : List Q2) (g g' : Str → Q2), xs = st.names.map g → (∀ y ∈ st.names, Pt D (g y)) → (∀ y ∈ st.names, val (g' y) = val (g y)) → (∀ y, Pt D (g' y)) → val (g' z) = 0 → xs ++ [(0, 1)] = (st.names ++ [z]).map g' := fun xs g g' ex pg e pg' e0 => by
    have xl : xs.length = st.names.length := by rw [ex, List.length_map]
    refine map_ext nd' (by rw [List.length_append, List.length_append, xl]; rfl) (fun x hx => ?_) (fun y _ => (pg' y).low) (fun y hy => ?_)
    · rcases List.mem_append.1 hx with hx | hx
      · rw [ex] at hx
        obtain ⟨y, hy, rfl⟩ := List.mem_map.1 hx
        exact (pg y hy).low
      · rw [List.mem_singleton.1 hx]; exact (pt0 D).low
    · by_cases hm : y ∈ st.names
      · rw [idx_app hm, item_app_l (by rw [xl]; exact idx_lt hm), ex, item_mapI hm, e y hm]
      · rcases List.mem_append.1 hy with hy | hy
        · exact absurd hy hm
        · rw [List.mem_singleton.1 hy, idx_new' hz, ← xl, show xs.length = xs.length + 0 from rfl, item_app_r, e0]
          exact val_zero'
  have ln : (joinS st z).loans = st.loans := rfl
  have ow : ∀ y ∈ st.names, val (itemP (joinS st z).own (idxS (joinS st z).names y)) = val (itemP st.own (idxS st.names y)) := fun y hy => by
    show val (itemP (st.own ++ [(0, 1)]) (idxS (st.names ++ [z]) y)) = _
    rw [idx_app hy, item_app_l (h.ownZ hy)]
  have oz : val (itemP (joinS st z).own (idxS (joinS st z).names z)) = 0 := by
    show val (itemP (st.own ++ [(0, 1)]) (idxS (st.names ++ [z]) z)) = _
    rw [idx_new' hz, ← h.wl.o, show st.own.length = st.own.length + 0 from rfl, item_app_r]
    exact val_zero'
  have wz : wo z st.loans = 0 := wo_none fun d hd e => hz (by rw [← e]; exact (h.lo d hd).1)
  have iz : wi z st.loans = 0 := wi_none fun d hd e => hz (by rw [← e]; exact (h.lo d hd).2.1)
  refine ⟨by show m.order ++ [z] = _; rw [r.o]; rfl, by show m.hold ++ [(0, 1)] = _; rw [r.h]; rfl, ?_, ?_, ?_, by show m.cnt ++ [0] = _; rw [r.c]; rfl, r.d, r.w, r.y⟩
  · exact key m.free _ _ r.f (fun y _ => h.pFree y) (fun y hy => by rw [h'.vFree, h.vFree, ow y hy, ln]) h'.pFree (by rw [h'.vFree, oz, ln, wz]; grind)
  · exact key m.port _ _ r.q (fun y _ => h.pShare y) (fun y hy => by rw [h'.vShare, h.vShare, ow y hy, ln]) h'.pShare (by rw [h'.vShare, oz, ln, wz, iz]; grind)
  · refine key m.arr _ _ r.a (fun y _ => h.pLag y) (fun y hy => ?_) h'.pLag ?_
    · rw [h'.vLag, h.vLag]
      show val (itemP (st.gain ++ [(0, 1)]) (idxS (st.names ++ [z]) y)) - (((st.cnt ++ [0]).getD (idxS (st.names ++ [z]) y) 0 : Int) : Rat) = _
      rw [idx_app hy, item_app_l (h.gnZ hy), List.getD, List.getElem?_append_left (by rw [h.wl.c]; exact idx_lt hy)]
      rfl
    · rw [h'.vLag]
      show val (itemP (st.gain ++ [(0, 1)]) (idxS (st.names ++ [z]) z)) - (((st.cnt ++ [0]).getD (idxS (st.names ++ [z]) z) 0 : Int) : Rat) = _
      rw [idx_new' hz, List.getD, List.getElem?_append_right (by rw [h.wl.c]; exact Nat.le_refl _), h.wl.c, Nat.sub_self, ← h.wl.g, show st.gain.length = st.gain.length + 0 from rfl, item_app_r]
      show val (0, 1) - ((0 : Int) : Rat) = 0
      rw [val_zero', Rat.intCast_zero]
      grind
/-! lists that go on by addAt -/
theorem gives {xs : List Q2} {a b : Str} {x : Q2} (hD : 0 < D) (hx : ∀ y ∈ xs, Pt D y) (px : Pt D x) (hl : xs.length = st.names.length) (ha : a ∈ st.names) (hb : b ∈ st.names) (hz : z ∈ st.names) :
    val (itemP (addAt (addAt xs (idxS st.names a) (negP x)) (idxS st.names b) x) (idxS st.names z)) = val (itemP xs (idxS st.names z)) - (if a = z then val x else 0) + if b = z then val x else 0 := by
  have p1 := addAt_pt (i := idxS st.names a) hD hx px.neg
  rw [addAt_val (low_pos (pt_low p1)) px.pos (by rw [addAt_len, hl]; exact idx_lt hb), addAt_val (low_pos (pt_low hx)) px.neg.pos (by rw [hl]; exact idx_lt ha), val_neg]
  have e1 : (idxS st.names z = idxS st.names a) ↔ a = z := by rw [idx_iff hz ha]; exact eq_comm
  have e2 : (idxS st.names z = idxS st.names b) ↔ b = z := by rw [idx_iff hz hb]; exact eq_comm
  by_cases h1 : a = z <;> by_cases h2 : b = z
  · rw [if_pos (e1.2 h1), if_pos (e2.2 h2), if_pos h1, if_pos h2]; grind
  · rw [if_pos (e1.2 h1), if_neg (fun q => h2 (e2.1 q)), if_pos h1, if_neg h2]; grind
  · rw [if_neg (fun q => h1 (e1.1 q)), if_pos (e2.2 h2), if_neg h1, if_pos h2]; grind
  · rw [if_neg (fun q => h1 (e1.1 q)), if_neg (fun q => h2 (e2.1 q)), if_neg h1, if_neg h2]; grind
theorem givesPt {xs : List Q2} {i j : Nat} {x : Q2} (hD : 0 < D) (hx : ∀ y ∈ xs, Pt D y) (px : Pt D x) : ∀ y ∈ addAt (addAt xs i (negP x)) j x, Pt D y := addAt_pt hD (addAt_pt hD hx px.neg) px
theorem Rl.sell (r : Rl m st) (h : Lw D k st) {a b : Str} {x : Q2} (h' : Lw D k (moveS st a b x)) (ha : a ∈ st.names) (hb : b ∈ st.names) (px : Pt D x) : Rl (soldM m a b x) (moveS st a b x) := by
  have ow : ∀ y ∈ st.names, val (itemP (moveS st a b x).own (idxS st.names y)) = val (itemP st.own (idxS st.names y)) - (if a = y then val x else 0) + if b = y then val x else 0 := fun y hy => by
    rw [move_own]
    exact gives h.d0 h.ow px h.wl.o ha hb hy
  refine ⟨r.o, ?_, ?_, ?_, r.a, r.c, r.d, r.w, r.y⟩
  · show addAt (addAt m.hold _ _) _ _ = _
    rw [move_own, r.h, r.o]
  · show addAt (addAt m.free (idxS m.order a) (negP x)) (idxS m.order b) x = st.names.map (lfree (moveS st a b x))
    rw [r.o]
    refine map_ext h.wl.nd (by rw [addAt_len, addAt_len, r.fl]) (pt_low (givesPt h.d0 (r.pf h) px)) (fun y _ => (h'.pFree y).low) (fun y hy => ?_)
    rw [gives h.d0 (r.pf h) px r.fl ha hb hy, freeM r hy, h'.vFree, h.vFree]
    show _ = val (itemP (moveS st a b x).own (idxS st.names y)) - wo y st.loans
    rw [ow y hy]
    grind
  · show addAt (addAt m.port (idxS m.order a) (negP x)) (idxS m.order b) x = st.names.map (lshare (moveS st a b x))
    rw [r.o]
    refine map_ext h.wl.nd (by rw [addAt_len, addAt_len, r.ql]) (pt_low (givesPt h.d0 (r.pq h) px)) (fun y _ => (h'.pShare y).low) (fun y hy => ?_)
    rw [gives h.d0 (r.pq h) px r.ql ha hb hy, portM r hy, h'.vShare, h.vShare]
    show _ = val (itemP (moveS st a b x).own (idxS st.names y)) - wo y st.loans + wi y st.loans
    rw [ow y hy]
    grind
theorem Rl.lend (r : Rl m st) (h : Lw D k st) {a b : Str} {x : Q2} {hh : Int} (h' : Lw D (k + 1) { st with loans := st.loans ++ [(a, b, x, hh)] }) (ha : a ∈ st.names) (hb : b ∈ st.names) (px : Pt D x) : Rl (lentM m a b x hh) { st with loans := st.loans ++ [(a, b, x, hh)] } := by
  refine ⟨r.o, r.h, ?_, ?_, r.a, r.c, by show m.debts ++ _ = _; rw [r.d], r.w, r.y⟩
  · show addAt m.free (idxS m.order a) (negP x) = st.names.map _
    rw [r.o]
    refine map_ext h.wl.nd (by rw [addAt_len, r.fl]) (pt_low (addAt_pt h.d0 (r.pf h) px.neg)) (fun y _ => (h'.pFree y).low) (fun y hy => ?_)
    rw [addAt_val (low_pos (pt_low (r.pf h))) px.neg.pos (by rw [r.fl]; exact idx_lt ha), freeM r hy, val_neg, h'.vFree, h.vFree]
    show _ = val (itemP st.own (idxS st.names y)) - wo y (st.loans ++ [(a, b, x, hh)])
    rw [lend_wo]
    have e1 : (idxS st.names y = idxS st.names a) ↔ a = y := by rw [idx_iff hy ha]; exact eq_comm
    by_cases h1 : a = y
    · rw [if_pos (e1.2 h1), if_pos h1]; grind
    · rw [if_neg (fun q => h1 (e1.1 q)), if_neg h1]; grind
  · show addAt (addAt m.port (idxS m.order a) (negP x)) (idxS m.order b) x = st.names.map _
    rw [r.o]
    refine map_ext h.wl.nd (by rw [addAt_len, addAt_len, r.ql]) (pt_low (givesPt h.d0 (r.pq h) px)) (fun y _ => (h'.pShare y).low) (fun y hy => ?_)
    rw [gives h.d0 (r.pq h) px r.ql ha hb hy, portM r hy, h'.vShare, h.vShare]
    show _ = val (itemP st.own (idxS st.names y)) - wo y (st.loans ++ [(a, b, x, hh)]) + wi y (st.loans ++ [(a, b, x, hh)])
    rw [lend_wo, lend_wi]
    grind
end
end DT

namespace DT
open PySem PySem.Spec PyProof.Rows L2 TL
-- END @rel5.lean
end DT
namespace DT
open PySem PySem.Spec PyProof.Rows L2
/-! ### an hour goes by -/
section
variable {D f : Int} {k : Nat} {st : LSt} {m : Mo} {z : Str}
/-- loans that may come back -/
def DOkay (D : Int) (ns : List Str) (ds : List Debt) : Prop := ∀ d ∈ ds, d.1 ∈ ns ∧ d.2.1 ∈ ns ∧ Pt D d.2.2.1
theorem ret_cons (o : List Str) (m0 : Mo) (d : Debt) (ds : List Debt) : retM o m0 (d :: ds) = retM o (if d.2.2.2 = 1 then trustM m0 (idxS o d.1) (idxS o d.2.1) (negP d.2.2.1) else m0) ds := rfl
theorem ret_pt (hD : 0 < D) {o : List Str} : ∀ {ds : List Debt} {m0 : Mo}, DOkay D o ds → (∀ x ∈ m0.free, Pt D x) → (∀ x ∈ m0.port, Pt D x) → (∀ x ∈ (retM o m0 ds).free, Pt D x) ∧ (∀ x ∈ (retM o m0 ds).port, Pt D x)
  | [], m0, _, h1, h2 => ⟨h1, h2⟩
  | d :: ds, m0, hd, h1, h2 => by
    have p := (hd d List.mem_cons_self).2.2
    have t : DOkay D o ds := fun c hc => hd c (List.mem_cons_of_mem _ hc)
    rw [ret_cons]
    by_cases h : d.2.2.2 = 1
    · rw [if_pos h]
      exact ret_pt hD t (addAt_pt hD h1 p.neg.neg) (addAt_pt hD (addAt_pt hD h2 p.neg.neg) p.neg)
    · rw [if_neg h]
      exact ret_pt hD t h1 h2
theorem neg_neg (x : Q2) : negP (negP x) = x := by
  unfold negP
  show (- -x.1, x.2) = x
  rw [Int.neg_neg]
theorem ret_val (hD : 0 < D) {st : LSt} : ∀ {ds : List Debt} {m0 : Mo}, DOkay D st.names ds → (∀ x ∈ m0.free, Pt D x) → (∀ x ∈ m0.port, Pt D x) → m0.free.length = st.names.length → m0.port.length = st.names.length → ∀ {z : Str}, z ∈ st.names →
    val (itemP (retM st.names m0 ds).free (idxS st.names z)) = val (itemP m0.free (idxS st.names z)) + eo z ds ∧ val (itemP (retM st.names m0 ds).port (idxS st.names z)) = val (itemP m0.port (idxS st.names z)) + eo z ds - ei z ds
  | [], m0, _, _, _, _, _, z, hz => ⟨by show _ = _ + (0 : Rat); simp only [retM, List.foldl_nil]; grind, by show _ = _ + (0 : Rat) - 0; simp only [retM, List.foldl_nil]; grind⟩
  | d :: ds, m0, hd, h1, h2, l1, l2, z, hz => by
    obtain ⟨ha, hb, p⟩ := hd d List.mem_cons_self
    have t : DOkay D st.names ds := fun c hc => hd c (List.mem_cons_of_mem _ hc)
    rw [ret_cons, eo, ei]
    by_cases h : d.2.2.2 = 1
    · rw [if_pos h]
      obtain ⟨i1, i2⟩ := ret_val hD (st := st) (ds := ds) (m0 := trustM m0 (idxS st.names d.1) (idxS st.names d.2.1) (negP d.2.2.1)) t (addAt_pt hD h1 p.neg.neg) (addAt_pt hD (addAt_pt hD h2 p.neg.neg) p.neg) ((addAt_len _ _ _).trans l1) ((addAt_len _ _ _).trans ((addAt_len _ _ _).trans l2)) hz
      rw [i1, i2]
      have e1 : (idxS st.names z = idxS st.names d.1) ↔ d.1 = z := by rw [idx_iff hz ha]; exact eq_comm
      have vf : val (itemP (trustM m0 (idxS st.names d.1) (idxS st.names d.2.1) (negP d.2.2.1)).free (idxS st.names z)) = val (itemP m0.free (idxS st.names z)) + if d.1 = z then val d.2.2.1 else 0 := by
        show val (itemP (addAt m0.free _ (negP (negP d.2.2.1))) _) = _
        rw [neg_neg, addAt_val (low_pos (pt_low h1)) p.pos (by rw [l1]; exact idx_lt ha)]
        by_cases q : d.1 = z
        · rw [if_pos (e1.2 q), if_pos q]
        · rw [if_neg (fun w => q (e1.1 w)), if_neg q]
      have vp : val (itemP (trustM m0 (idxS st.names d.1) (idxS st.names d.2.1) (negP d.2.2.1)).port (idxS st.names z)) = val (itemP m0.port (idxS st.names z)) - (if d.1 = z then val (negP d.2.2.1) else 0) + if d.2.1 = z then val (negP d.2.2.1) else 0 :=
        gives (x := negP d.2.2.1) hD h2 p.neg l2 ha hb hz
      rw [vf, vp, val_neg]
      have c1 : (if d.2.2.2 = 1 ∧ d.1 = z then val d.2.2.1 else 0) = if d.1 = z then val d.2.2.1 else 0 := by
        by_cases q : d.1 = z
        · rw [if_pos ⟨h, q⟩, if_pos q]
        · rw [if_neg (fun w => q w.2), if_neg q]
      have c2 : (if d.2.2.2 = 1 ∧ d.2.1 = z then val d.2.2.1 else 0) = if d.2.1 = z then val d.2.2.1 else 0 := by
        by_cases q : d.2.1 = z
        · rw [if_pos ⟨h, q⟩, if_pos q]
        · rw [if_neg (fun w => q w.2), if_neg q]
      rw [c1, c2]
      constructor
      · grind
      · by_cases q1 : d.1 = z <;> by_cases q2 : d.2.1 = z <;> simp only [q1, q2, if_true, if_false] <;> grind
    · rw [if_neg h]
      obtain ⟨i1, i2⟩ := ret_val hD (st := st) (ds := ds) (m0 := m0) t h1 h2 l1 l2 hz
      rw [i1, i2, if_neg (fun w => h w.1), if_neg (fun w => h w.1)]
      constructor <;> grind
theorem Lw.dokay (h : Lw D k st) : DOkay D st.names st.loans := fun d hd => ⟨(h.lo d hd).1, (h.lo d hd).2.1, (h.lo d hd).2.2.1⟩
theorem bdF {a e n : Rat} (a1 : 0 ≤ a) (a2 : a ≤ 1) (a3 : 0 ≤ e) (a4 : e ≤ n) (tl : n ≤ ((900 : Int) : Rat)) : ((-1000000 : Int) : Rat) ≤ a + e ∧ a + e ≤ ((1000000 : Int) : Rat) := by
  have c0 : ((900 : Int) : Rat) = 900 := rfl
  have c2 : ((1000000 : Int) : Rat) = 1000000 := rfl
  have c3 : ((-1000000 : Int) : Rat) = -1000000 := rfl
  rw [c0] at tl
  rw [c2, c3]
  constructor <;> grind
theorem bdP {a e g n : Rat} (a1 : 0 ≤ a) (a2 : a ≤ ((901 : Int) : Rat)) (a3 : 0 ≤ e) (a4 : e ≤ n) (a5 : 0 ≤ g) (a6 : g ≤ n) (tl : n ≤ ((900 : Int) : Rat)) : ((-1000000 : Int) : Rat) ≤ a + e - g ∧ a + e - g ≤ ((1000000 : Int) : Rat) := by
  have c0 : ((900 : Int) : Rat) = 900 := rfl
  have c1 : ((901 : Int) : Rat) = 901 := rfl
  have c2 : ((1000000 : Int) : Rat) = 1000000 := rfl
  have c3 : ((-1000000 : Int) : Rat) = -1000000 := rfl
  rw [c0] at tl
  rw [c1] at a2
  rw [c2, c3]
  constructor <;> grind
theorem Rl.passOk (r : Rl m st) (h : Lw D k st) (b : D < 2 ^ 1829) (hk : k ≤ 900) : PassOk 1850 m := by
  have lk := h.lk
  refine ⟨by rw [r.d]; omega, by decide, fun d hd => ?_, fun i hi => ?_⟩
  · rw [r.d] at hd
    have l := h.lo d hd
    rw [r.o]
    exact ⟨l.1, l.2.1, (h.lok b hk).lp d hd, l.2.2.1.low⟩
  · rw [r.o, r.d]
    have tk : ∀ d ∈ st.loans.take i, 0 < val d.2.2.1 ∧ val d.2.2.1 ≤ 1 := fun d hd => h.p1 d (List.mem_of_mem_take hd)
    have tk0 : ∀ d ∈ st.loans.take i, 0 < val d.2.2.1 := fun d hd => (tk d hd).1
    have dk : DOkay D st.names (st.loans.take i) := fun d hd => h.dokay d (List.mem_of_mem_take hd)
    have tl : (((st.loans.take i).length : Int) : Rat) ≤ ((900 : Int) : Rat) := castK (by rw [List.length_take]; omega)
    have pf : ∀ x ∈ ({ m with order := st.names, debts := decD st.loans } : Mo).free, Pt D x := r.pf h
    have pq : ∀ x ∈ ({ m with order := st.names, debts := decD st.loans } : Mo).port, Pt D x := r.pq h
    obtain ⟨q1, q2⟩ := ret_pt (o := st.names) (ds := st.loans.take i) (m0 := { m with order := st.names, debts := decD st.loans }) h.d0 dk pf pq
    have kp := retM_keeps st.names (st.loans.take i) { m with order := st.names, debts := decD st.loans }
    have lf : (retM st.names { m with order := st.names, debts := decD st.loans } (st.loans.take i)).free.length = st.names.length := kp.2.2.2.2.2.2.2.1.trans r.fl
    have lq : (retM st.names { m with order := st.names, debts := decD st.loans } (st.loans.take i)).port.length = st.names.length := kp.2.2.2.2.2.2.2.2.trans r.ql
    have vv := fun {z : Str} (hz : z ∈ st.names) => ret_val h.d0 (ds := st.loans.take i) (m0 := { m with order := st.names, debts := decD st.loans }) dk pf pq r.fl r.ql hz
    constructor
    · intro x hx
      obtain ⟨j, hj⟩ := List.mem_iff_getElem?.1 hx
      have jl := (List.getElem?_eq_some_iff.1 hj).1
      obtain ⟨z, hz, _, ez⟩ := name_at h.wl.nd (show j < st.names.length by omega)
      have v := (vv hz).1
      have e : x = itemP (retM st.names { m with order := st.names, debts := decD st.loans } (st.loans.take i)).free (idxS st.names z) := by rw [ez]; rw [item_some jl] at hj; exact (Option.some.inj hj).symm
      rw [← e, show itemP ({ m with order := st.names, debts := decD st.loans } : Mo).free (idxS st.names z) = lfree st z from freeM (m := m) r hz] at v
      have a1 := h.fNN hz
      have a2 := h.fLe hz
      have a3 := eo_nn (z := z) tk0
      have a4 := eo_len (z := z) tk
      obtain ⟨g1, g2⟩ := bdF a1 a2 a3 a4 tl
      rw [← v] at g1 g2
      exact ⟨(q1 x hx).ok h.d0 b g1 g2, (q1 x hx).low⟩
    · intro x hx
      obtain ⟨j, hj⟩ := List.mem_iff_getElem?.1 hx
      have jl := (List.getElem?_eq_some_iff.1 hj).1
      obtain ⟨z, hz, _, ez⟩ := name_at h.wl.nd (show j < st.names.length by omega)
      have v := (vv hz).2
      have e : x = itemP (retM st.names { m with order := st.names, debts := decD st.loans } (st.loans.take i)).port (idxS st.names z) := by rw [ez]; rw [item_some jl] at hj; exact (Option.some.inj hj).symm
      rw [← e, show itemP ({ m with order := st.names, debts := decD st.loans } : Mo).port (idxS st.names z) = lshare st z from portM (m := m) r hz] at v
      have a1 := h.sNN hz
      have a2 := h.sLe hz hk
      have a3 := eo_nn (z := z) tk0
      have a4 := eo_len (z := z) tk
      have a5 := ei_nn (z := z) tk0
      have a6 := ei_len (z := z) tk
      obtain ⟨g1, g2⟩ := bdP a1 a2 a3 a4 a5 a6 tl
      rw [← v] at g1 g2
      exact ⟨(q2 x hx).ok h.d0 b g1 g2, (q2 x hx).low⟩
/-- free and port behind the passing of an hour -/
theorem pass_lists (r : Rl m st) (h : Lw D k st) {st' : LSt} {k' : Nat} (h' : Lw D k' st') (en : st'.names = st.names) (eo' : st'.own = st.own) (el : st'.loans = decD st.loans) :
    (passM m).free = st.names.map (lfree st') ∧ (passM m).port = st.names.map (lshare st') := by
  unfold passM
  rw [r.o, r.d]
  have pf : ∀ x ∈ ({ m with order := st.names, debts := decD st.loans } : Mo).free, Pt D x := r.pf h
  have pq : ∀ x ∈ ({ m with order := st.names, debts := decD st.loans } : Mo).port, Pt D x := r.pq h
  obtain ⟨q1, q2⟩ := ret_pt (o := st.names) (ds := st.loans) (m0 := { m with order := st.names, debts := decD st.loans }) h.d0 h.dokay pf pq
  have kp := retM_keeps st.names st.loans { m with order := st.names, debts := decD st.loans }
  have lf : (retM st.names { m with order := st.names, debts := decD st.loans } st.loans).free.length = st.names.length := kp.2.2.2.2.2.2.2.1.trans r.fl
  have lq : (retM st.names { m with order := st.names, debts := decD st.loans } st.loans).port.length = st.names.length := kp.2.2.2.2.2.2.2.2.trans r.ql
  have vv := fun {z : Str} (hz : z ∈ st.names) => ret_val h.d0 (ds := st.loans) (m0 := { m with order := st.names, debts := decD st.loans }) h.dokay pf pq r.fl r.ql hz
  have h1 : ∀ d ∈ st.loans, 1 ≤ d.2.2.2 := fun d hd => (h.lo d hd).2.2.2.2.1
  constructor
  · refine map_ext h.wl.nd lf (pt_low q1) (fun y _ => (h'.pFree y).low) (fun y hy => ?_)
    rw [(vv hy).1, show itemP ({ m with order := st.names, debts := decD st.loans } : Mo).free (idxS st.names y) = lfree st y from freeM (m := m) r hy, h'.vFree, h.vFree, en, eo', el, wo_dec h1]
    grind
  · refine map_ext h.wl.nd lq (pt_low q2) (fun y _ => (h'.pShare y).low) (fun y hy => ?_)
    rw [(vv hy).2, show itemP ({ m with order := st.names, debts := decD st.loans } : Mo).port (idxS st.names y) = lshare st y from portM (m := m) r hy, h'.vShare, h.vShare, en, eo', el, wo_dec h1, wi_dec h1]
    grind
theorem pass_rest (m : Mo) : (passM m).order = m.order ∧ (passM m).hold = m.hold ∧ (passM m).arr = m.arr ∧ (passM m).cnt = m.cnt ∧ (passM m).debts = decD m.debts ∧ (passM m).wet = m.wet ∧ (passM m).dry = m.dry := by
  have kp := retM_keeps m.order m.debts { m with debts := decD m.debts }
  exact ⟨kp.1, kp.2.1, kp.2.2.1, kp.2.2.2.1, kp.2.2.2.2.1, kp.2.2.2.2.2.1, kp.2.2.2.2.2.2.1⟩
theorem Rl.lose (r : Rl m st) (h : Lw D k st) : Rl (driedM m) (goneS { st with dry := st.dry + 1 }) := by
  have h' : Lw D k (goneS { st with dry := st.dry + 1 }) := (h.dry _).gone
  obtain ⟨f1, q1⟩ := pass_lists r h h' rfl rfl rfl
  obtain ⟨p1, p2, p3, p4, p5, p6, p7⟩ := pass_rest m
  refine ⟨p1.trans r.o, p2.trans r.h, f1, q1, ?_, p4.trans r.c, ?_, p6.trans r.w, ?_⟩
  · show (passM m).arr = st.names.map _
    rw [p3, r.a]
    rfl
  · show (passM m).debts = decD st.loans
    rw [p5, r.d]
  · show m.dry + 1 = st.dry + 1
    rw [r.y]
theorem due_eq (r : Rl m st) : dueM m = dueS st := by
  unfold dueM dueS
  rw [r.o, r.a, r.q]
theorem Rl.hour (r : Rl m st) (h : Lw D k st) (b : D < 2 ^ 1829) (hk : k ≤ 900) : Rl (wateredM m) (hourS st) := by
  have h' : Lw D (k + 1) (hourS st) := h.hour hk
  have lo := h.lok b hk
  obtain ⟨f1, q1⟩ := pass_lists r h h' rfl rfl rfl
  obtain ⟨p1, p2, p3, p4, p5, p6, p7⟩ := pass_rest m
  have hl : m.arr.length = m.port.length := by rw [r.al, r.ql]
  have oa : AllOk 1850 m.arr := by rw [r.a]; exact lo.lags
  have op : AllOk 1850 m.port := by rw [r.q]; exact lo.shares
  obtain ⟨ho, hlen, hlt⟩ := hour_ok oa op hl (by rw [r.al]; exact h.n0)
  have hd : (hourM m.arr m.port).1 = idxS st.names (dueS st) := by
    have := due_at lo h.n0
    rw [← r.a, ← r.q] at this
    exact (idx_nodup h.wl.nd this).symm
  refine ⟨p1.trans r.o, p2.trans r.h, f1, q1, ?_, ?_, ?_, ?_, p7.trans r.y⟩
  · show (hourM m.arr m.port).2 = st.names.map (llagz (hourS st))
    refine map_ext h.wl.nd (by rw [hlen, r.al]) (fun x hx => (ho x hx).2) (fun y _ => (h'.pLag y).low) (fun y hy => ?_)
    rw [h'.vLag]
    have lz : (List.zipWith addP m.arr m.port).length = st.names.length := by rw [List.length_zipWith, r.al, r.ql]; omega
    have iy := idx_lt hy
    have zat : itemP (List.zipWith addP m.arr m.port) (idxS st.names y) = addP (llagz st y) (lshare st y) := by
      unfold itemP
      rw [List.getD, List.getElem?_zipWith, item_some (by rw [r.al]; exact iy), item_some (by rw [r.ql]; exact iy), arrM r hy, portM r hy]
      rfl
    have gat : itemP (hourS st).gain (idxS st.names y) = gainZ st y := item_mapI hy
    show val (itemP ((List.zipWith addP m.arr m.port).set (hourM m.arr m.port).1 (subP (itemP (List.zipWith addP m.arr m.port) (hourM m.arr m.port).1) (1, 1))) (idxS st.names y)) = val (itemP (hourS st).gain (idxS st.names y)) - (((st.cnt.set (idxS st.names (dueS st)) (st.cnt.getD (idxS st.names (dueS st)) 0 + 1)).getD (idxS st.names y) 0 : Int) : Rat)
    have hlt2 := hlt
    rw [hd] at hlt2 ⊢
    have g0 := item_pt (fun x hx => (h.gn x hx).1) (idxS st.names y)
    rw [item_set (by rw [lz]; rw [r.al] at hlt2; exact hlt2), gat]
    unfold gainZ
    rw [val_add g0.pos (h.pShare y).pos, List.getD, List.getElem?_set]
    have cl : idxS st.names y < st.cnt.length := by rw [h.wl.c]; exact iy
    by_cases e : idxS st.names y = idxS st.names (dueS st)
    · rw [if_pos e, if_pos e.symm, if_pos (by rw [← e]; exact cl), ← e, zat, val_sub (addP_low (h.pLag y).pos (h.pShare y).pos).pos (by decide), val_add (h.pLag y).pos (h.pShare y).pos, h.vLag, val_one]
      show _ = _ - ((st.cnt.getD (idxS st.names y) 0 + 1 : Int) : Rat)
      rw [Rat.intCast_add, Rat.intCast_one]
      grind
    · rw [if_neg e, if_neg (fun q => e q.symm), zat, val_add (h.pLag y).pos (h.pShare y).pos, h.vLag]
      show _ = _ - ((st.cnt.getD (idxS st.names y) 0 : Int) : Rat)
      grind
  · show m.cnt.set (hourM m.arr m.port).1 _ = st.cnt.set _ _
    rw [hd, r.c]
  · show (passM m).debts = decD st.loans
    rw [p5, r.d]
  · show m.wet + 1 = st.wet + 1
    rw [r.w]
end
end DT

namespace DT
open PySem PySem.Spec PyProof.Rows L2 TL
-- END @rel6.lean
end DT
namespace DT
open PySem PySem.Spec PyProof.Rows L2
section
variable {D f : Int} {k : Nat} {st : LSt} {m : Mo} {z : Str} {hs : List (Str × Int)}
theorem leftG_parts (e : Q2) (W : Int) : ∀ (hs : List (Str × Int)) (m0 : Mo), (leftG e W m0 hs).order = m0.order ++ hs.map (·.1) ∧ (leftG e W m0 hs).hold = m0.hold ++ hs.map (fun h => mulP e (lowP h.2 W)) ∧ (leftG e W m0 hs).free = m0.free ++ hs.map (fun h => mulP e (lowP h.2 W)) ∧ (leftG e W m0 hs).port = m0.port ++ hs.map (fun h => mulP e (lowP h.2 W)) ∧ (leftG e W m0 hs).arr = m0.arr ++ List.replicate hs.length (0, 1) ∧ (leftG e W m0 hs).cnt = m0.cnt ++ List.replicate hs.length 0 ∧ (leftG e W m0 hs).debts = m0.debts ∧ (leftG e W m0 hs).wet = m0.wet ∧ (leftG e W m0 hs).dry = m0.dry
  | [], m0 => by simp [leftG]
  | h :: hs, m0 => by
    obtain ⟨a1, a2, a3, a4, a5, a6, a7, a8, a9⟩ := leftG_parts e W hs (joinM m0 h.1 (mulP e (lowP h.2 W)))
    have e1 : leftG e W m0 (h :: hs) = leftG e W (joinM m0 h.1 (mulP e (lowP h.2 W))) hs := rfl
    rw [e1, a1, a2, a3, a4, a5, a6, a7, a8, a9]
    simp [joinM, List.replicate_succ]
/-- a list told by its worth field by field, new fields behind -/
theorem ext2 {xs ys : List Q2} {n j : Nat} (hx : xs.length = n + j) (hy : ys.length = n + j) (lx : ∀ x ∈ xs, Low x.1 x.2) (ly : ∀ x ∈ ys, Low x.1 x.2) (h1 : ∀ i, i < n → val (itemP xs i) = val (itemP ys i)) (h2 : ∀ i, i < j → val (itemP xs (n + i)) = val (itemP ys (n + i))) : xs = ys := by
  refine ext_val (by omega) lx ly (fun i hi => ?_)
  by_cases h : i < n
  · exact h1 i h
  · have := h2 (i - n) (by omega)
    rw [show n + (i - n) = i by omega] at this
    exact this
theorem Rl.leave (r : Rl m st) (h : Lw D k st) (hz : z ∈ st.names) (hb : heirBad st.names hs = none) (room : st.names.length + hs.length ≤ 24) (ne : hs ≠ []) : Rl (leftM m z hs) (leaveS z (lfree st z) (wsum hs) st hs) := by
  have hok := heir_ok hb
  have W0 : 0 < wsum hs := by
    have := (wsum_bd (hs := hs) fun x hx => (hok x hx).2).1
    have : 0 < hs.length := List.length_pos_iff.2 ne
    omega
  have lj := h.heirs hz hb room ne hs.length (Nat.le_refl _)
  rw [List.take_of_length_le (Nat.le_refl _)] at lj
  have h' := lj.lw
  have rW : (wsum hs : Rat) * (val (lfree st z) / (wsum hs : Rat)) = val (lfree st z) := by
    have := r_ne W0
    grind
  have en : itemP m.free (idxS m.order z) = lfree st z := by rw [r.o]; exact freeM r hz
  unfold leftM
  rw [en]
  obtain ⟨a1, a2, a3, a4, a5, a6, a7, a8, a9⟩ := leftG_parts (lfree st z) (wsum hs) hs (endowM m (idxS m.order z) (negP (lfree st z)))
  generalize leaveS z (lfree st z) (wsum hs) st hs = s at lj h'
  have nm := lj.nm
  rw [List.take_of_length_le (Nat.le_refl _)] at nm
  have sl : s.names.length = st.names.length + hs.length := by rw [nm, List.length_append, List.length_map]
  have iz := idx_lt hz
  have fp := h.pFree z
  have lps : ∀ x ∈ hs.map (fun h => mulP (lfree st z) (lowP h.2 (wsum hs))), Low x.1 x.2 := fun x hx => by
    obtain ⟨g, _, rfl⟩ := List.mem_map.1 hx
    exact lowP_low (Int.mul_pos fp.pos (lowP_low W0).pos)
  -- a list of the moment behind it
  have L : ∀ (xs : List Q2), xs.length = st.names.length → (∀ x ∈ xs, Pt D x) → (addAt xs (idxS m.order z) (negP (lfree st z)) ++ hs.map (fun h => mulP (lfree st z) (lowP h.2 (wsum hs)))).length = st.names.length + hs.length ∧ (∀ x ∈ addAt xs (idxS m.order z) (negP (lfree st z)) ++ hs.map (fun h => mulP (lfree st z) (lowP h.2 (wsum hs))), Low x.1 x.2) ∧
      (∀ i, i < st.names.length → val (itemP (addAt xs (idxS m.order z) (negP (lfree st z)) ++ hs.map (fun h => mulP (lfree st z) (lowP h.2 (wsum hs)))) i) = val (itemP xs i) - if i = idxS st.names z then val (lfree st z) else 0) ∧
      (∀ i g, hs[i]? = some g → val (itemP (addAt xs (idxS m.order z) (negP (lfree st z)) ++ hs.map (fun h => mulP (lfree st z) (lowP h.2 (wsum hs)))) (st.names.length + i)) = (g.2 : Rat) * (val (lfree st z) / (wsum hs : Rat))) := fun xs hl px => by
    rw [r.o]
    have al : (addAt xs (idxS st.names z) (negP (lfree st z))).length = st.names.length := by rw [addAt_len, hl]
    refine ⟨by rw [List.length_append, al, List.length_map], fun x hx => ?_, fun i hi => ?_, fun i g eg => ?_⟩
    · rcases List.mem_append.1 hx with hx | hx
      · exact (addAt_pt h.d0 px fp.neg x hx).low
      · exact lps x hx
    · rw [item_app_l (by omega), addAt_val (low_pos (pt_low px)) fp.neg.pos (by omega), val_neg]
      split <;> grind
    · rw [← al, item_app_r]
      have : itemP (hs.map (fun h => mulP (lfree st z) (lowP h.2 (wsum hs)))) i = mulP (lfree st z) (lowP g.2 (wsum hs)) := by
        unfold itemP
        rw [List.getD, List.getElem?_map, eg]
        rfl
      rw [this, mulL_val fp.pos W0]
  have o1 : ∀ i, i < st.names.length → val (itemP s.own i) = val (itemP st.own i) - if i = idxS st.names z then val (lfree st z) else 0 := fun i hi => by
    rw [lj.o1 i hi, List.take_of_length_le (Nat.le_refl _), rW]
  have nameI : ∀ i, i < st.names.length → ∃ y, y ∈ st.names ∧ idxS st.names y = i ∧ y ∈ s.names ∧ idxS s.names y = i := fun i hi => by
    obtain ⟨y, hy, _, ei⟩ := name_at h.wl.nd hi
    exact ⟨y, hy, ei, by rw [nm]; exact List.mem_append_left _ hy, by rw [nm, idx_app hy]; exact ei⟩
  have nameH : ∀ i, i < hs.length → ∃ y g, hs[i]? = some g ∧ y = g.1 ∧ y ∈ s.names ∧ idxS s.names y = st.names.length + i ∧ (∀ d ∈ st.loans, d.1 ≠ y) ∧ ∀ d ∈ st.loans, d.2.1 ≠ y := fun i hi => by
    obtain ⟨y, hy, ey, ei⟩ := name_at h'.wl.nd (show st.names.length + i < s.names.length by omega)
    have eg : hs[i]? = some hs[i] := List.getElem?_eq_getElem hi
    have ey2 : y = hs[i].1 := by
      rw [nm, List.getElem?_append_right (by omega), Nat.add_sub_cancel_left, List.getElem?_map, eg] at ey
      exact (Option.some.inj ey).symm
    have ny : y ∉ st.names := fun hm => by
      have q := idx_app (r := hs.map (·.1)) hm
      rw [← nm, ei] at q
      have := idx_lt hm
      omega
    exact ⟨y, hs[i], eg, ey2, hy, ei, fun d hd e => ny (by rw [← e]; exact (h.lo d hd).1), fun d hd e => ny (by rw [← e]; exact (h.lo d hd).2.1)⟩
  refine ⟨?_, ?_, ?_, ?_, ?_, ?_, a7.trans (r.d.trans lj.ln.symm), a8.trans (r.w.trans lj.we.symm), a9.trans (r.y.trans lj.dr.symm)⟩
  · rw [a1, nm]
    show m.order ++ _ = _
    rw [r.o]
  · rw [a2]
    show addAt m.hold (idxS m.order z) (negP (lfree st z)) ++ hs.map (fun h => mulP (lfree st z) (lowP h.2 (wsum hs))) = _
    obtain ⟨l1, l2, l3, l4⟩ := L m.hold (by rw [r.h, h.wl.o]) (by rw [r.h]; exact h.ow)
    refine ext2 l1 lj.ol l2 (pt_low h'.ow) (fun i hi => ?_) (fun i hi => ?_)
    · rw [l3 i hi, r.h, o1 i hi]
    · have eg : hs[i]? = some hs[i] := List.getElem?_eq_getElem hi
      rw [l4 i _ eg, lj.o2 i _ hi eg]
  · rw [a3]
    show addAt m.free (idxS m.order z) (negP (lfree st z)) ++ hs.map (fun h => mulP (lfree st z) (lowP h.2 (wsum hs))) = _
    obtain ⟨l1, l2, l3, l4⟩ := L m.free r.fl (r.pf h)
    refine ext2 l1 (by rw [List.length_map, sl]) l2 (fun x hx => by obtain ⟨y, _, rfl⟩ := List.mem_map.1 hx; exact (h'.pFree y).low) (fun i hi => ?_) (fun i hi => ?_)
    · obtain ⟨y, hy, ei, hy2, ei2⟩ := nameI i hi
      have e1 : itemP (s.names.map (lfree s)) i = lfree s y := by rw [← ei2]; exact item_mapI hy2
      have e2 : itemP m.free i = lfree st y := by rw [← ei]; exact freeM r hy
      rw [l3 i hi, e1, e2, h'.vFree, h.vFree, ei2, ei, o1 i hi, lj.ln]
      split <;> grind
    · obtain ⟨y, g, eg, eyg, hy2, ei2, no1, no2⟩ := nameH i hi
      have e1 : itemP (s.names.map (lfree s)) (st.names.length + i) = lfree s y := by rw [← ei2]; exact item_mapI hy2
      rw [l4 i _ eg, e1, h'.vFree, ei2, lj.o2 i _ hi eg, lj.ln, wo_none no1]
      grind
  · rw [a4]
    show addAt m.port (idxS m.order z) (negP (lfree st z)) ++ hs.map (fun h => mulP (lfree st z) (lowP h.2 (wsum hs))) = _
    obtain ⟨l1, l2, l3, l4⟩ := L m.port r.ql (r.pq h)
    refine ext2 l1 (by rw [List.length_map, sl]) l2 (fun x hx => by obtain ⟨y, _, rfl⟩ := List.mem_map.1 hx; exact (h'.pShare y).low) (fun i hi => ?_) (fun i hi => ?_)
    · obtain ⟨y, hy, ei, hy2, ei2⟩ := nameI i hi
      have e1 : itemP (s.names.map (lshare s)) i = lshare s y := by rw [← ei2]; exact item_mapI hy2
      have e2 : itemP m.port i = lshare st y := by rw [← ei]; exact portM r hy
      rw [l3 i hi, e1, e2, h'.vShare, h.vShare, ei2, ei, o1 i hi, lj.ln]
      split <;> grind
    · obtain ⟨y, g, eg, eyg, hy2, ei2, no1, no2⟩ := nameH i hi
      have e1 : itemP (s.names.map (lshare s)) (st.names.length + i) = lshare s y := by rw [← ei2]; exact item_mapI hy2
      rw [l4 i _ eg, e1, h'.vShare, ei2, lj.o2 i _ hi eg, lj.ln, wo_none no1, wi_none no2]
      grind
  · rw [a5]
    show m.arr ++ _ = _
    refine ext2 (n := st.names.length) (j := hs.length) (by rw [List.length_append, r.al, List.length_replicate]) (by rw [List.length_map, sl]) (fun x hx => ?_) (fun x hx => by obtain ⟨y, _, rfl⟩ := List.mem_map.1 hx; exact (h'.pLag y).low) (fun i hi => ?_) (fun i hi => ?_)
    · rcases List.mem_append.1 hx with hx | hx
      · exact (r.pa h x hx).low
      · rw [(List.mem_replicate.1 hx).2]; exact (pt0 D).low
    · obtain ⟨y, hy, ei, hy2, ei2⟩ := nameI i hi
      have e1 : itemP (s.names.map (llagz s)) i = llagz s y := by rw [← ei2]; exact item_mapI hy2
      have e2 : itemP m.arr i = llagz st y := by rw [← ei]; exact arrM r hy
      rw [item_app_l (by rw [r.al]; exact hi), e1, e2, h'.vLag, h.vLag, ei2, ei, lj.gn, lj.ct, item_app_l (by rw [h.wl.g]; exact hi), List.getD, List.getD, List.getElem?_append_left (by rw [h.wl.c]; exact hi)]
    · obtain ⟨y, g, eg, eyg, hy2, ei2, no1, no2⟩ := nameH i hi
      have e1 : itemP (s.names.map (llagz s)) (st.names.length + i) = llagz s y := by rw [← ei2]; exact item_mapI hy2
      have z1 : ∀ j : Nat, itemP (List.replicate j ((0, 1) : Q2)) i = (0, 1) := fun j => by
        unfold itemP
        rw [List.getD, List.getElem?_replicate]
        split <;> rfl
      rw [e1, h'.vLag, ei2, ← r.al, item_app_r, r.al, lj.gn, ← h.wl.g, item_app_r, z1, h.wl.g, lj.ct, List.getD, List.getElem?_append_right (by rw [h.wl.c]; omega), List.getElem?_replicate, val_zero']
      have : (Option.getD (if st.names.length + i - st.cnt.length < hs.length then some (0 : Int) else none) 0) = 0 := by split <;> rfl
      rw [this, Rat.intCast_zero]
      grind
  · rw [a6, lj.ct]
    show m.cnt ++ _ = _
    rw [r.c]
theorem Rl.new' {z : Str} : Rl (newMo z) (freshS z) := by
  have i0 : idxS [z] z = 0 := by unfold idxS; simp [List.findIdx_cons]
  have e1 : lfree (freshS z) z = (1, 1) := by
    unfold lfree
    show subP (itemP [(1, 1)] (idxS [z] z)) (sumP []) = _
    rw [i0]
    decide +kernel
  have e2 : lshare (freshS z) z = (1, 1) := by
    unfold lshare
    rw [e1]
    show addP (1, 1) (sumP []) = _
    decide +kernel
  have e3 : llagz (freshS z) z = (0, 1) := by
    unfold llagz llag
    show subP (itemP [(0, 1)] (idxS [z] z)) (([0] : List Int).getD (idxS [z] z) 0, 1) = _
    rw [i0]
    decide +kernel
  refine ⟨rfl, rfl, ?_, ?_, ?_, rfl, rfl, rfl, rfl⟩
  · show [(1, 1)] = [lfree (freshS z) z]
    rw [e1]
  · show [(1, 1)] = [lshare (freshS z) z]
    rw [e2]
  · show [(0, 1)] = [llagz (freshS z) z]
    rw [e3]
theorem Lw.new' (hz : nameB z = true) : Lw 1 0 (freshS z) := by
  have i0 : idxS [z] z = 0 := by unfold idxS; simp [List.findIdx_cons]
  refine ⟨⟨rfl, rfl, rfl, by show 1 ≤ 24; decide, by show [z].Nodup; simp⟩, by decide, by show 0 < 1; decide, fun y hy => by rw [List.mem_singleton.1 (show y ∈ [z] from hy)]; exact hz, fun x hx => by rw [List.mem_singleton.1 (show x ∈ [(1, 1)] from hx)]; exact pt1 1, ?_, fun x hx => ?_, fun x hx => ?_, by show (0 : Int) ≤ 0; decide, by show (0 : Int) ≤ ((0 : Nat) : Int); decide, by show 0 ≤ 0; decide, (fun d hd => nomatch (show d ∈ ([] : List Debt) from hd)), fun y hy => ?_⟩
  · show val (1, 1) + 0 = 1
    rw [val_one]
    grind
  · rw [List.mem_singleton.1 (show x ∈ [(0, 1)] from hx), val_zero']
    exact ⟨pt0 1, by grind, by show (0 : Rat) ≤ ((0 : Int) : Rat); rw [Rat.intCast_zero]; grind⟩
  · rw [List.mem_singleton.1 (show x ∈ [0] from hx)]
    exact ⟨by decide, by show (0 : Int) ≤ 0; decide⟩
  · rw [List.mem_singleton.1 (show y ∈ [z] from hy)]
    show (0 : Rat) ≤ val (itemP [(1, 1)] (idxS [z] z))
    rw [i0]
    show (0 : Rat) ≤ val (1, 1)
    rw [val_one]
    grind
/-! ### one deed -/
theorem less_free {x y : Q2} (hx : 0 < x.2) (hy : 0 < y.2) (h : ¬ lessP x y = true) : val y ≤ val x := by
  rw [lessP_iff hx hy] at h
  exact Rat.not_lt.1 h
/-- what a sound state becomes by a drawn deed that is not refused -/
theorem Lw.step (h : Lw D k st) {dd : De} (dr : Dr D f dd) (hf : 1 ≤ f) (hk : k ≤ 900) (ok : wordS st dd = none) : ∃ D', 0 < D' ∧ D' ≤ D * f ∧ Lw D' (k + 1) (didE st dd) := by
  have dF : D ≤ D * f := by
    have := Int.mul_le_mul_of_nonneg_left hf (Int.le_of_lt h.d0)
    omega
  have dF0 : 0 < D * f := Int.mul_pos h.d0 (by omega)
  cases dd with
  | settle z =>
    simp only [wordS, judgeG] at ok
    by_cases h1 : nameB z = false
    · rw [if_pos h1] at ok; cases ok
    rw [if_neg h1] at ok
    by_cases h2 : z ∈ st.names
    · rw [if_pos h2] at ok; cases ok
    rw [if_neg h2] at ok
    by_cases h3 : 24 < st.names.length + 1
    · rw [if_pos h3] at ok; cases ok
    exact ⟨D, h.d0, dF, (h.join (by simpa using h1) h2 (by omega)).moreK (by omega)⟩
  | sell a b x =>
    simp only [wordS, judgeG] at ok
    by_cases h1 : a ∈ st.names ∧ b ∈ st.names
    · rw [if_neg (fun q => q h1)] at ok
      by_cases h2 : a = b
      · rw [if_pos h2] at ok; cases ok
      rw [if_neg h2] at ok
      by_cases h3 : 0 < x.1
      · rw [if_neg (fun q => q h3)] at ok
        by_cases h4 : lessP (lfree st a) x = true
        · rw [if_pos h4] at ok; cases ok
        obtain ⟨_, _, px, _, _⟩ := dr
        have hF := h.mulF (f := f) (by omega)
        have le := less_free (h.pFree a).pos px.pos h4
        rw [h.vFree] at le
        exact ⟨D * f, dF0, Int.le_refl _, (hF.move h1.1 h1.2 h2 px (Rat.le_of_lt ((v_pos px.pos).1 h3)) (by grind)).moreK (by omega)⟩
      · rw [if_pos h3] at ok; cases ok
    · rw [if_pos h1] at ok; cases ok
  | lend a b x hh =>
    simp only [wordS, judgeG] at ok
    by_cases h1 : a ∈ st.names ∧ b ∈ st.names
    · rw [if_neg (fun q => q h1)] at ok
      by_cases h2 : a = b
      · rw [if_pos h2] at ok; cases ok
      rw [if_neg h2] at ok
      by_cases h3 : 0 < x.1
      · rw [if_neg (fun q => q h3)] at ok
        by_cases h5 : 1 ≤ hh ∧ hh ≤ 999
        · rw [if_neg (fun q => q h5)] at ok
          by_cases h4 : lessP (lfree st a) x = true
          · rw [if_pos h4] at ok; cases ok
          obtain ⟨_, _, px, _, _⟩ := dr
          exact ⟨D * f, dF0, Int.le_refl _, (h.mulF (f := f) (by omega)).lend h1.1 h1.2 px ((v_pos px.pos).1 h3) h5.1 h5.2 (less_free (h.pFree a).pos px.pos h4)⟩
        · rw [if_pos h5] at ok; cases ok
      · rw [if_pos h3] at ok; cases ok
    · rw [if_pos h1] at ok; cases ok
  | leave z hs =>
    simp only [wordS, judgeG] at ok
    by_cases h1 : z ∈ st.names
    · rw [if_neg (fun q => q h1)] at ok
      by_cases h2 : hs = []
      · rw [if_pos h2] at ok; cases ok
      rw [if_neg h2] at ok
      cases hb : heirBad st.names hs with
      | some c => rw [hb] at ok; cases ok
      | none =>
        rw [hb] at ok
        simp only at ok
        by_cases h3 : 24 < st.names.length + hs.length
        · rw [if_pos h3] at ok; cases ok
        have lj := h.heirs h1 hb (by omega) h2 hs.length (Nat.le_refl _)
        rw [List.take_of_length_le (Nat.le_refl _)] at lj
        have hok := heir_ok hb
        have wb := wsum_bd (hs := hs) fun x hx => (hok x hx).2
        obtain ⟨_, _, hw, _⟩ := dr
        exact ⟨D * wsum hs, lj.lw.d0, Int.mul_le_mul_of_nonneg_left (by omega) (Int.le_of_lt h.d0), lj.lw.moreK (by omega)⟩
    · rw [if_pos h1] at ok; cases ok
  | hour z => exact ⟨D, h.d0, dF, h.hour hk⟩
  | lose => exact ⟨D, h.d0, dF, (h.dry _).gone.moreK (by omega)⟩
theorem Rl.step (r : Rl m st) (h : Lw D k st) {dd : De} (dr : Dr D f dd) (hf : 1 ≤ f) (bD : D < 2 ^ 1829) (hk : k ≤ 900) (ok : wordS st dd = none) : Rl (doneE m dd) (didE st dd) := by
  cases dd with
  | settle z =>
    simp only [wordS, judgeG] at ok
    by_cases h1 : nameB z = false
    · rw [if_pos h1] at ok; cases ok
    rw [if_neg h1] at ok
    by_cases h2 : z ∈ st.names
    · rw [if_pos h2] at ok; cases ok
    rw [if_neg h2] at ok
    by_cases h3 : 24 < st.names.length + 1
    · rw [if_pos h3] at ok; cases ok
    exact r.join h (h.join (by simpa using h1) h2 (by omega)) h2
  | sell a b x =>
    simp only [wordS, judgeG] at ok
    by_cases h1 : a ∈ st.names ∧ b ∈ st.names
    · rw [if_neg (fun q => q h1)] at ok
      by_cases h2 : a = b
      · rw [if_pos h2] at ok; cases ok
      rw [if_neg h2] at ok
      by_cases h3 : 0 < x.1
      · rw [if_neg (fun q => q h3)] at ok
        by_cases h4 : lessP (lfree st a) x = true
        · rw [if_pos h4] at ok; cases ok
        obtain ⟨_, _, px, _, _⟩ := dr
        have hF := h.mulF (f := f) (by omega)
        have le := less_free (h.pFree a).pos px.pos h4
        rw [h.vFree] at le
        exact r.sell hF (hF.move h1.1 h1.2 h2 px (Rat.le_of_lt ((v_pos px.pos).1 h3)) (by clear bD; grind)) h1.1 h1.2 px
      · rw [if_pos h3] at ok; cases ok
    · rw [if_pos h1] at ok; cases ok
  | lend a b x hh =>
    simp only [wordS, judgeG] at ok
    by_cases h1 : a ∈ st.names ∧ b ∈ st.names
    · rw [if_neg (fun q => q h1)] at ok
      by_cases h2 : a = b
      · rw [if_pos h2] at ok; cases ok
      rw [if_neg h2] at ok
      by_cases h3 : 0 < x.1
      · rw [if_neg (fun q => q h3)] at ok
        by_cases h5 : 1 ≤ hh ∧ hh ≤ 999
        · rw [if_neg (fun q => q h5)] at ok
          by_cases h4 : lessP (lfree st a) x = true
          · rw [if_pos h4] at ok; cases ok
          obtain ⟨_, _, px, _, _⟩ := dr
          have hF := h.mulF (f := f) (by omega)
          exact r.lend hF (hF.lend h1.1 h1.2 px ((v_pos px.pos).1 h3) h5.1 h5.2 (less_free (h.pFree a).pos px.pos h4)) h1.1 h1.2 px
        · rw [if_pos h5] at ok; cases ok
      · rw [if_pos h3] at ok; cases ok
    · rw [if_pos h1] at ok; cases ok
  | leave z hs =>
    simp only [wordS, judgeG] at ok
    by_cases h1 : z ∈ st.names
    · rw [if_neg (fun q => q h1)] at ok
      by_cases h2 : hs = []
      · rw [if_pos h2] at ok; cases ok
      rw [if_neg h2] at ok
      cases hb : heirBad st.names hs with
      | some c => rw [hb] at ok; cases ok
      | none =>
        rw [hb] at ok
        simp only at ok
        by_cases h3 : 24 < st.names.length + hs.length
        · rw [if_pos h3] at ok; cases ok
        exact r.leave h h1 hb (by omega) h2
    · rw [if_pos h1] at ok; cases ok
  | hour z => exact r.hour h bD hk
  | lose => exact r.lose h
end
end DT

namespace DT
open PySem PySem.Spec PyProof.Rows L2 TL
-- END @rel7.lean
end DT
namespace DT
open PySem PySem.Spec PyProof.Rows L2
section
variable {D f : Int} {k : Nat} {st : LSt} {m : Mo} {dd : De}
theorem le_mulF (h : 0 < D) (hf : 1 ≤ f) : D ≤ D * f := by
  have := Int.mul_le_mul_of_nonneg_left hf (Int.le_of_lt h)
  rw [Int.mul_one] at this
  exact this
theorem lt_ofF (h : 0 < D) (hf : 1 ≤ f) (b : D * f < 2 ^ 1829) : D < 2 ^ 1829 := Int.lt_of_le_of_lt (le_mulF h hf) b
theorem Dr.dok (dr : Dr D f dd) (h : 0 < D) (hf : 1 ≤ f) (b : D * f < 2 ^ 1829) : DOk 1850 dd := by
  have hF : 0 < D * f := Int.mul_pos h (Int.lt_of_lt_of_le (by decide) hf)
  cases dd with
  | settle z => exact dr
  | sell a b' x =>
    obtain ⟨h1, h2, px, l, u⟩ := dr
    exact ⟨h1, h2, px.ok hF b l u, px.low⟩
  | lend a b' x hh =>
    obtain ⟨h1, h2, px, l, u⟩ := dr
    exact ⟨h1, h2, px.ok hF b l u, px.low⟩
  | leave z hs =>
    obtain ⟨h1, h2, _, h4⟩ := dr
    exact ⟨h1, Nat.le_trans h2 (by decide), h4⟩
  | hour z => trivial
  | lose => trivial
theorem Rl.okF (r : Rl m st) (h : LOk 1850 st) : AllOk 1850 m.free := fun x hx => by
  rw [r.f] at hx
  obtain ⟨z, hz, rfl⟩ := List.mem_map.1 hx
  exact ⟨h.of z hz, h.lf hz⟩
theorem Rl.okQ (r : Rl m st) (h : LOk 1850 st) : AllOk 1850 m.port := by rw [r.q]; exact h.shares
theorem Rl.okA (r : Rl m st) (h : LOk 1850 st) : AllOk 1850 m.arr := by rw [r.a]; exact h.lags
theorem Rl.okH (r : Rl m st) (h : LOk 1850 st) : AllOk 1850 m.hold := by rw [r.h]; exact h.oo
theorem Rl.mok (r : Rl m st) (h : Lw D k st) (dr : Dr D f dd) (hf : 1 ≤ f) (b : D * f < 2 ^ 1829) (hk : k ≤ 900) : MOk 1850 m dd := by
  have bD := lt_ofF h.d0 hf b
  have lo := h.lok bD hk
  have dk := dr.dok h.d0 hf b
  have lk := h.lk
  cases dd with
  | settle z => exact dr
  | sell a b' x =>
    obtain ⟨h1, h2, h3, h4⟩ := dk
    exact ⟨h1, h2, h3, h4, r.okH lo, r.okF lo, r.okQ lo, by decide, by decide⟩
  | lend a b' x hh =>
    obtain ⟨h1, h2, h3, h4⟩ := dk
    exact ⟨h1, h2, h3, h4, r.okF lo, r.okQ lo, by rw [r.d]; exact Nat.le_trans lk hk, by decide, by decide⟩
  | leave z hs =>
    obtain ⟨h1, h2, h3⟩ := dk
    exact ⟨h1, h2, h3, r.okH lo, r.okF lo, r.okQ lo, by decide, by decide⟩
  | hour z => exact ⟨r.passOk h bD hk, by rw [r.o]; exact h.n0, r.okA lo, r.okQ lo, by decide⟩
  | lose => exact r.passOk h bD hk
theorem Lw.didok (h : Lw D k st) (dr : Dr D f dd) (hf : 1 ≤ f) (b : D * f < 2 ^ 1829) (hk : k ≤ 900) (ok : wordS st dd = none) : DidOk 1850 st dd := by
  have bD := lt_ofF h.d0 hf b
  have dk := dr.dok h.d0 hf b
  cases dd with
  | settle z =>
    simp only [wordS, judgeG] at ok
    by_cases h1 : nameB z = false
    · rw [if_pos h1] at ok; cases ok
    rw [if_neg h1] at ok
    by_cases h2 : z ∈ st.names
    · rw [if_pos h2] at ok; cases ok
    exact h2
  | sell a b' x =>
    simp only [wordS, judgeG] at ok
    by_cases h1 : a ∈ st.names ∧ b' ∈ st.names
    · exact ⟨h1.1, h1.2, dk.2.2.1, by decide⟩
    · rw [if_pos h1] at ok; cases ok
  | lend a b' x hh => trivial
  | leave z hs =>
    simp only [wordS, judgeG] at ok
    by_cases h1 : z ∈ st.names
    · rw [if_neg (fun q => q h1)] at ok
      by_cases h2 : hs = []
      · rw [if_pos h2] at ok; cases ok
      rw [if_neg h2] at ok
      cases hb : heirBad st.names hs with
      | some c => rw [hb] at ok; cases ok
      | none =>
        rw [hb] at ok
        simp only at ok
        by_cases h3 : 24 < st.names.length + hs.length
        · rw [if_pos h3] at ok; cases ok
        have room : st.names.length + hs.length ≤ 24 := Nat.not_lt.1 h3
        obtain ⟨_, h24, hw, _⟩ := dr
        have hok := heir_ok hb
        have wb := wsum_bd (hs := hs) fun x hx => (hok x hx).2
        have lj := h.heirs h1 hb room h2
        have W1 : wsum hs ≤ f := by clear b bD; omega
        have bW : D * wsum hs < 2 ^ 1829 := Int.lt_of_le_of_lt (Int.mul_le_mul_of_nonneg_left W1 (Int.le_of_lt h.d0)) b
        have W0 : 0 < wsum hs := by
          have : 0 < hs.length := List.length_pos_iff.2 h2
          clear b bD bW
          omega
        refine ⟨h1, h24, hb, room, by decide, fun j hj => ((lj j hj).lw.lok bW hk).oo, fun g hg => ?_⟩
        have fp := h.pFree z
        have pp : Pt (D * wsum hs) (partL (lfree st z) (wsum hs) g.2) := partL_pt fp W0
        have gw := hok g hg
        have pv : val (partL (lfree st z) (wsum hs) g.2) = (g.2 : Rat) * (val (lfree st z) / (wsum hs : Rat)) := partL_val fp.pos W0
        have f0 := h.fNN h1
        have f1 := h.fLe h1
        have r0 : 0 ≤ val (lfree st z) / (wsum hs : Rat) := by
          rw [Rat.div_def]
          exact Rat.mul_nonneg f0 (Rat.le_of_lt (Rat.inv_pos.2 (r_pos W0)))
        have g0 : (0 : Rat) ≤ (g.2 : Rat) := by rw [← Rat.intCast_zero]; exact castK (by clear b bD bW; omega)
        have r1 : val (lfree st z) / (wsum hs : Rat) ≤ 1 := by
          have wr : (1 : Rat) ≤ (wsum hs : Rat) := by rw [← Rat.intCast_one]; exact castK W0
          have rW : (wsum hs : Rat) * (val (lfree st z) / (wsum hs : Rat)) = val (lfree st z) := by
            have := r_ne W0
            clear b bD bW
            grind
          have := Rat.mul_nonneg (show 0 ≤ (wsum hs : Rat) - 1 by clear b bD bW; grind) r0
          clear b bD bW
          grind
        have gm : (g.2 : Rat) ≤ ((1000000 : Int) : Rat) := castK (by clear b bD bW; omega)
        have p0 := Rat.mul_nonneg g0 r0
        have p1 : (g.2 : Rat) * (val (lfree st z) / (wsum hs : Rat)) ≤ ((1000000 : Int) : Rat) := by
          have := Rat.mul_nonneg g0 (show 0 ≤ 1 - val (lfree st z) / (wsum hs : Rat) by clear b bD bW; grind)
          clear b bD bW
          grind
        obtain ⟨l, u⟩ := mil p0 p1 (by decide)
        rw [← pv] at l u
        exact pp.ok (Int.mul_pos h.d0 W0) bW l u
    · rw [if_pos h1] at ok; cases ok
  | hour z => exact ⟨h.n0, by decide⟩
  | lose => trivial
/-- a row of deeds, each sound and good behind the ones ahead; so many bits, so many deeds -/
structure At (m : Mo) (st : LSt) (n k : Nat) (D : Int) : Prop where
  lw : Lw D k st
  rl : Rl m st
  bd : D < 2 ^ n
theorem At.new' {z : Str} (hz : nameB z = true) : At (newMo z) (freshS z) 1 0 1 := ⟨Lw.new' hz, Rl.new', by decide⟩
theorem pow_le {a b : Nat} (h : a ≤ b) : (2 : Int) ^ a ≤ 2 ^ b := by exact_mod_cast Nat.pow_le_pow_right (by decide) h
theorem pow_f {n j : Nat} (b : D < 2 ^ n) (h0 : 0 < D) (hf : 0 < f) (bf : f ≤ 2 ^ j) : D * f < 2 ^ (n + j) := by
  rw [Int.pow_add]
  have h1 : D * f < 2 ^ n * f := Int.mul_lt_mul_of_pos_right b hf
  have h2 : (2 : Int) ^ n * f ≤ 2 ^ n * 2 ^ j := Int.mul_le_mul_of_nonneg_left bf (Int.le_of_lt (Int.lt_trans h0 b))
  exact Int.lt_of_lt_of_le h1 h2
theorem At.step {n j : Nat} (h : At m st n k D) (dr : Dr D f dd) (hf : 1 ≤ f) (bf : f ≤ 2 ^ j) (hn : n + j ≤ 1829) (hk : k ≤ 900) (ok : wordS st dd = none) : ∃ D', At (doneE m dd) (didE st dd) (n + j) (k + 1) D' := by
  have b1 := pow_f h.bd h.lw.d0 (Int.lt_of_lt_of_le (by decide) hf) bf
  obtain ⟨D', d0, le, lw⟩ := h.lw.step dr hf hk ok
  exact ⟨D', lw, h.rl.step h.lw dr hf (Int.lt_of_lt_of_le h.bd (pow_le (by omega))) hk ok, Int.lt_of_le_of_lt le b1⟩
end
end DT

namespace DT
open PySem PySem.Spec PyProof.Rows L2 TL
-- END @rel8.lean
end DT
namespace DT
open PySem PySem.Spec PyProof.Rows L2
/-! ### what the law's own state tells, loans among it -/
def mrowsE (st : LSt) : List PyData := [.list (st.names.map PyData.str), .list ((st.names.map (llagz st)).map datP), .list (st.loans.map datD), .int st.wet, .int st.dry]
def mfieldE (st : LSt) (z : Str) : List PyData := [.list [datP (itemP st.own (idxS st.names z)), datP (lfree st z), datP (lshare st z)], .list [datP (llagz st z), datP (itemP st.gain (idxS st.names z)), .int (st.cnt.getD (idxS st.names z) 0)]]
def meantTo (st : LSt) (i : Nat) : List PyData := mrowsE st ++ ((st.names.take i).map (mfieldE st)).flatten
theorem meantTo_succ {st : LSt} {i : Nat} {z : Str} (e : st.names[i]? = some z) : meantTo st (i + 1) = meantTo st i ++ mfieldE st z := by
  unfold meantTo
  rw [List.take_add_one, e, List.map_append, List.flatten_append, List.append_assoc]
  congr 2
theorem flat2 {α : Type} (f : α → List PyData) (h : ∀ x, (f x).length = 2) : ∀ l : List α, ((l.map f).flatten).length = 2 * l.length
  | [] => rfl
  | x :: l => by rw [List.map_cons, List.flatten_cons, List.length_append, h, flat2 f h l, List.length_cons]; omega
theorem meantTo_len {st : LSt} {i : Nat} (hi : i ≤ st.names.length) : (meantTo st i).length = 5 + 2 * i := by
  unfold meantTo
  rw [List.length_append, flat2 _ (fun _ => rfl), List.length_take]
  show 5 + 2 * min i st.names.length = _
  omega
def meantE (st : LSt) : PyData := .list (meantTo st st.names.length)
def sp_meantE (K : PySem.W.Frag) : Sp := fun vs H Q _ => ∃ (s : Addr) (st : LSt) (N : Nat), vs = [.ref s] ∧ StAt K H s st ∧ LOk N st ∧ ∀ H' r, Same H H' → Dp K H' (.ref r) (meantE st) → Q (.ref r) H'
theorem plain_t {n : Nat} {ds : List PyData} (hl : ds.length ≤ 900) (h : ∀ d ∈ ds, Plain n d) : Plain (n + 1) (.tuple ds) := ⟨hl, h⟩
theorem plain_l {n : Nat} {ds : List PyData} (hl : ds.length ≤ 900) (h : ∀ d ∈ ds, Plain n d) : Plain (n + 1) (.list ds) := ⟨hl, h⟩
theorem plain_s (n : Nat) (z : Str) : Plain n (.str z) := by cases n <;> trivial
theorem plain_i (n : Nat) (z : Int) : Plain n (.int z) := by cases n <;> trivial
theorem plain_pp (n : Nat) (x : Q2) : Plain (n + 1) (datP x) := plain_t (by show 2 ≤ 900; decide) fun d hd => by
  rcases List.mem_cons.1 hd with rfl | hd
  · exact plain_i _ _
  · rw [List.mem_singleton.1 hd]; exact plain_i _ _
theorem plain_d (n : Nat) (x : Debt) : Plain (n + 2) (datD x) := plain_t (by show 4 ≤ 900; decide) fun d hd => by
  simp only [List.mem_cons, List.not_mem_nil, or_false] at hd
  rcases hd with rfl | rfl | rfl | rfl
  · exact plain_s _ _
  · exact plain_s _ _
  · exact plain_pp _ _
  · exact plain_i _ _
theorem plain_toldE {m : Mo} (w : Wf m) (hd : m.debts.length ≤ 900) : Plain 4 (toldD m) := by
  have few := w.few
  refine plain_l (by rw [rowsTo_len]; omega) fun d h => ?_
  unfold rowsTo at h
  rcases List.mem_append.1 h with h | h
  · unfold rows0 at h
    simp only [List.mem_cons, List.not_mem_nil, or_false] at h
    rcases h with rfl | rfl | rfl | rfl | rfl
    · exact plain_l (by rw [List.length_map]; omega) fun d hd => by
        obtain ⟨z, _, rfl⟩ := List.mem_map.1 hd
        exact plain_s _ _
    · exact plain_l (by rw [List.length_map, w.a]; omega) fun d hd => by
        obtain ⟨z, _, rfl⟩ := List.mem_map.1 hd
        exact plain_pp _ z
    · exact plain_l (by rw [List.length_map]; exact hd) fun d hd => by
        obtain ⟨z, _, rfl⟩ := List.mem_map.1 hd
        exact plain_d _ z
    · exact plain_i _ _
    · exact plain_i _ _
  · rw [List.mem_flatten] at h
    obtain ⟨l, hl, hd⟩ := h
    obtain ⟨j, _, rfl⟩ := List.mem_map.1 hl
    unfold fieldRows at hd
    simp only [List.mem_cons, List.not_mem_nil, or_false] at hd
    rcases hd with rfl | rfl
    · refine plain_l (by show 3 ≤ 900; decide) fun d hd => ?_
      simp only [List.mem_cons, List.not_mem_nil, or_false] at hd
      rcases hd with rfl | rfl | rfl <;> exact plain_pp _ _
    · refine plain_l (by show 3 ≤ 900; decide) fun d hd => ?_
      simp only [List.mem_cons, List.not_mem_nil, or_false] at hd
      rcases hd with rfl | rfl | rfl
      · exact plain_pp _ _
      · exact plain_pp _ _
      · exact plain_i _ _
theorem told_eq {D : Int} {k : Nat} {m : Mo} {st : LSt} (r : Rl m st) (h : Lw D k st) : toldD m = meantE st := by
  have e0 : rows0 m = mrowsE st := by
    unfold rows0 mrowsE
    rw [r.o, r.a, r.d, r.w, r.y]
  unfold toldD meantE rowsTo meantTo
  rw [e0, r.o, List.take_of_length_le (Nat.le_refl _)]
  congr 2
  congr 1
  apply List.ext_getElem? fun j => ?_
  rw [List.getElem?_map, List.getElem?_map]
  by_cases hj : j < st.names.length
  · obtain ⟨z, hz, ez, ei⟩ := name_at h.wl.nd hj
    rw [List.getElem?_range hj, ez]
    show some (fieldRows m j) = some (mfieldE st z)
    congr 1
    unfold fieldRows mfieldE
    rw [← ei, r.h, freeM r hz, portM r hz, arrM r hz, r.c, ei]
    have e : addP (llagz st z) (st.cnt.getD j 0, 1) = itemP st.gain j := by
      have g0 := item_pt (fun x hx => (h.gn x hx).1) j
      refine val_inj (addP_low (h.pLag z).pos (by show (0 : Int) < 1; decide)) g0.low ?_
      rw [val_add (h.pLag z).pos (by show (0 : Int) < 1; decide), h.vLag, val_int, ei]
      grind
    rw [e]
  · rw [List.getElem?_eq_none (by rw [List.length_range]; omega), List.getElem?_eq_none (by omega)]
    rfl
/-- the ditch tells what the law's own state says -/
def sp_standsE (K : PySem.W.Frag) (CM C : Addr) : Sp := fun vs H Q _ => ∃ (d dx n p u : Addr) (m : Mo) (ps us : List V) (s : Addr) (st : LSt) (D : Int) (k : Nat), vs = [.ref d, .ref s] ∧ DiAt K CM C H d dx n p u m ps us ∧ StAt K H s st ∧ Lw D k st ∧ Rl m st ∧ D < 2 ^ 1829 ∧ k ≤ 900 ∧ ∀ H', Same H H' → Q (.bl true) H'
theorem Lw.short {D : Int} {k : Nat} {st : LSt} (h : Lw D k st) : ∀ z ∈ st.names, z.length ≤ 1000 := fun z hz => name_short (h.nb z hz)
end DT

namespace DT
open PySem PySem.Spec PyProof.Rows L2 TL
-- END @meant.lean
end DT
namespace DT
open PySem PySem.Spec PyProof.Rows L2
theorem del_cons (l : Addr) (M : List Addr) (X : Hp) : del (l :: M) X = del M (del [l] X) := by
  funext b
  by_cases h1 : b ∈ M
  · rw [del_in h1, del_in (List.mem_cons_of_mem _ h1)]
  · by_cases h2 : b = l
    · rw [del_out h1, h2, del_in (by simp), del_in (by simp)]
    · rw [del_out h1, del_out (by simp [h1, h2]), del_out (by simp [h2])]
theorem Aside.same {H H' : Hp} {M : List Addr} (a : Aside H M) (e : Same H H') : Aside H' M := fun b hb => by
  rcases a b hb with ⟨xs, h⟩ | ⟨xs, h⟩ | ⟨C', dx', fs, h, hx⟩ | ⟨x, h, hx⟩
  · exact .inl ⟨xs, e _ _ h⟩
  · exact .inr (.inl ⟨xs, e _ _ h⟩)
  · exact .inr (.inr (.inl ⟨C', dx', fs, e _ _ h, hx⟩))
  · exact .inr (.inr (.inr ⟨x, e _ _ h, hx⟩))
theorem aside_cons {H : Hp} {l : Addr} {xs : List V} {M : List Addr} (e : H l = some (.lst xs)) (a : Aside H M) : Aside H (l :: M) := fun b hb => by
  rcases List.mem_cons.1 hb with rfl | hb
  · exact .inl ⟨_, e⟩
  · rcases a b hb with h | h | ⟨C', dx', fs, h, hx⟩ | ⟨x, h, hx⟩
    · exact .inl h
    · exact .inr (.inl h)
    · exact .inr (.inr (.inl ⟨C', dx', fs, h, List.mem_cons_of_mem _ hx⟩))
    · exact .inr (.inr (.inr ⟨x, h, List.mem_cons_of_mem _ hx⟩))
theorem aside_one {H : Hp} {l : Addr} {xs : List V} (e : H l = some (.lst xs)) : Aside H [l] := fun b hb => by rw [List.mem_singleton.1 hb]; exact .inl ⟨_, e⟩
theorem del_updM {M : List Addr} {H : Hp} {r : Addr} {o : HO} (h : r ∈ M) : del M (upd H r o) = del M H := by
  funext b
  by_cases hb : b ∈ M
  · rw [del_in hb, del_in hb]
  · rw [del_out hb, del_out hb, upd_ne fun z => hb (by rw [z]; exact h)]
theorem LP.delM {K : PySem.W.Frag} {H : Hp} {M : List Addr} {p : Addr} {xs : List Q2} (h : LP K H p xs) (a : Aside H M) (hp : p ∉ M) : LP K (del M H) p xs := by
  obtain ⟨us, e, k⟩ := h
  exact ⟨us, by rw [del_out hp]; exact e, k.tk (tk_del a)⟩
/-- all that a ditch tells, apart from what lay aside ahead of it -/
def sp_toldM (K : PySem.W.Frag) (CM C : Addr) : Sp := fun vs H Q _ => ∃ (d dx n p u : Addr) (m : Mo) (ps us : List V) (N : Nat) (M : List Addr), vs = [.ref d] ∧ DiAt K CM C H d dx n p u m ps us ∧ Aside H M ∧ Wf m ∧ AllOk N m.arr ∧ (∀ x ∈ m.cnt, Bd N x) ∧ (1 ≤ N ∧ N ≤ 4000) ∧
  ∀ H' r, Same H H' → H r = none → Dp K (del M H') (.ref r) (toldD m) → Q (.ref r) H'
end DT

namespace DT
open PySem PySem.Spec PyProof.Rows L2 TL
-- END @toldm.lean
end DT
namespace DT
open PySem PySem.Spec PyProof.Rows L2
/-! ### deeds as the law draws them -/
def RowOk (H : Hp) (pr : Addr) (rs : List Int) : Prop := H pr = some (.lst (rs.map V.int)) ∧ ∀ r ∈ rs, 0 ≤ r ∧ r < 1000100
def PoolOk (H : Hp) (pp : Addr) (zs : List Str) : Prop := H pp = some (.lst (zs.map V.str)) ∧ zs.length = 26 ∧ zs.Nodup ∧ ∀ z ∈ zs, nameB z = true
def sp_one (K : PySem.W.Frag) : Sp := fun vs H Q _ => ∃ (pr s pp : Addr) (rs : List Int) (st : LSt) (zs : List Str), vs = [.ref pr, .ref s, .ref pp] ∧ RowOk H pr rs ∧ 2 ≤ rs.length ∧ StK K H s st ∧ 0 < st.names.length ∧ (∀ z ∈ st.names, z.length ≤ 1000) ∧ PoolOk H pp zs ∧
  ∀ H' z, Same H H' → z.length ≤ 1000 → Q (.str z) H'
theorem odd6 (x : Int) : ∃ z', atI [V.str ("" : Str), .str ("Ab" : Str), .str ("a b" : Str), .str ("abcdefghi" : Str), .str ("a1" : Str), .str ("zz" : Str)] (x % 6) = some (.str z') ∧ z'.length ≤ 1000 := by
  have h1 := Int.emod_nonneg x (show (6 : Int) ≠ 0 by decide)
  have h2 := Int.emod_lt_of_pos x (show (0 : Int) < 6 by decide)
  have h : x % 6 = 0 ∨ x % 6 = 1 ∨ x % 6 = 2 ∨ x % 6 = 3 ∨ x % 6 = 4 ∨ x % 6 = 5 := by omega
  rcases h with h | h | h | h | h | h <;> rw [h] <;> exact ⟨_, rfl, by decide +kernel⟩
/-- a drawn part -/
structure PtD (D f : Int) (y : Q2) : Prop where
  pt : Pt (D * f) y
  f1 : 1 ≤ f
  f2 : f ≤ 2 ^ 22
  lo : ((-1000000 : Int) : Rat) ≤ val y
  hi : val y ≤ ((1000000 : Int) : Rat)
def sp_part (K : PySem.W.Frag) : Sp := fun vs H Q _ => ∃ (pr s : Addr) (rs : List Int) (st : LSt) (g : Str) (D : Int) (k : Nat), vs = [.ref pr, .ref s, .str g] ∧ RowOk H pr rs ∧ 3 ≤ rs.length ∧ StK K H s st ∧ Lw D k st ∧ D * 2 ^ 22 < 2 ^ 1829 ∧ k ≤ 900 ∧
  ∀ H' v y f, Same H H' → Pp K H' v y → PtD D f y → Q v H'
def noHour : De → Prop | .hour _ => False | _ => True
def sp_wild (K : PySem.W.Frag) : Sp := fun vs H Q _ => ∃ (pr s pp : Addr) (rs : List Int) (st : LSt) (zs : List Str) (D : Int) (k : Nat), vs = [.ref pr, .ref s, .ref pp] ∧ RowOk H pr rs ∧ 10 ≤ rs.length ∧ rs.length ≤ 900 ∧ StK K H s st ∧ Lw D k st ∧ D * 2 ^ 22 < 2 ^ 1829 ∧ k ≤ 900 ∧ PoolOk H pp zs ∧
  ∀ H' v dd f, Same H H' → DeV K H' v dd → Dr D f dd → 1 ≤ f → f ≤ 2 ^ 22 → (rs.getD 0 0 % 16 < 8 → noHour dd) → Q v H'
def sp_tame (K : PySem.W.Frag) : Sp := fun vs H Q _ => ∃ (pr s pp : Addr) (rs : List Int) (st : LSt) (zs : List Str) (D : Int) (k : Nat), vs = [.ref pr, .ref s, .ref pp] ∧ RowOk H pr rs ∧ 10 ≤ rs.length ∧ rs.length ≤ 900 ∧ StK K H s st ∧ Lw D k st ∧ D * 2 ^ 22 < 2 ^ 1829 ∧ k ≤ 900 ∧ PoolOk H pp zs ∧
  ∀ H' v dd f, Same H H' → DeV K H' v dd → Dr D f dd → 1 ≤ f → f ≤ 2 ^ 22 → wordS st dd = none → Q v H'
section
variable {D f b c : Int} {x y : Q2}
theorem p22 : (2 : Int) ^ 22 = 4194304 := by decide
theorem pt_div {E t q : Int} (hq : 0 < q) (hl : Int.gcd t q = 1) (d : q ∣ E) : Pt E (t, q) := ⟨⟨hq, hl⟩, d⟩
theorem dvd_r {D a f : Int} (h : a ∣ f) : a ∣ D * f := Int.dvd_trans h (Int.dvd_mul_left D f)
/-- a share of what is there -/
theorem part_mul (h : Pt (D * 2) x) (x0 : 0 ≤ val x) (x1 : val x ≤ 1) (hc : 1 ≤ c) (hcb : c ≤ b) (hb : b ≤ 6) : PtD D (2 * b) (mulP x (lowP c b)) := by
  have b0 : 0 < b := by omega
  have px := h.pos
  have lr := lowP_low (t := c) b0
  have pr := lr.pos
  have lm : Low (mulP x (lowP c b)).1 (mulP x (lowP c b)).2 := lowP_low (Int.mul_pos px pr)
  have vm := val_mul px pr
  have vr : val (lowP c b) = (c : Rat) / (b : Rat) := val_low b0
  have rb := r_ne b0
  have r0 : 0 ≤ val (lowP c b) := by
    have : val (lowP c b) = val (c, b) := vr
    rw [this]
    exact (v_nn (y := (c, b)) b0).1 (by show 0 ≤ c; omega)
  have r1 : val (lowP c b) ≤ 1 := by
    have : val (lowP c b) = val (c, b) := vr
    rw [this]
    exact (v_le (y := (c, b)) b0).1 hcb
  have m0 : 0 ≤ val (mulP x (lowP c b)) := by rw [vm]; exact Rat.mul_nonneg x0 r0
  have m1 : val (mulP x (lowP c b)) ≤ ((1 : Int) : Rat) := by
    rw [vm, one_c]
    have a := Rat.mul_nonneg x0 (show 0 ≤ 1 - val (lowP c b) by grind)
    grind
  obtain ⟨l, u⟩ := mil m0 m1 (by decide)
  refine ⟨⟨lm, Int.dvd_trans mul_dvd ?_⟩, by omega, by rw [p22]; omega, l, u⟩
  rw [← Int.mul_assoc]
  exact Int.mul_dvd_mul h.dv low_dvd
theorem part_small {t q f : Int} (hq : 0 < q) (hl : Int.gcd t q = 1) (d : q ∣ f) (f1 : 1 ≤ f) (f2 : f ≤ 2 ^ 22) (h1 : -1000000 * q ≤ t) (h2 : t ≤ 1000000 * q) : PtD D f (t, q) :=
  ⟨pt_div hq hl (dvd_r d), f1, f2, (v_geI (y := (t, q)) hq).2 h1, (v_leI (y := (t, q)) hq).2 h2⟩
theorem part_add (hD : 0 < D) (h : Pt (D * 2) x) (x0 : 0 ≤ val x) (x1 : val x ≤ 1) : PtD D (2 * 999983) (addP x (1, 999983)) := by
  have p9 : Pt (D * (2 * 999983)) (1, 999983) := pt_div (by decide) (by decide) (dvd_r (Int.dvd_mul_left 2 999983))
  have px : Pt (D * (2 * 999983)) x := h.mono (by rw [← Int.mul_assoc]; exact Int.dvd_mul_right _ _)
  have v9 : val (1, 999983) ≤ 1 := (v_le (y := (1, 999983)) (by decide)).1 (by decide)
  have v0 : 0 ≤ val (1, 999983) := (v_nn (y := (1, 999983)) (by decide)).1 (by decide)
  have e := val_add px.pos p9.pos
  have two : ((2 : Int) : Rat) = 1 + 1 := by decide +kernel
  have m0 : 0 ≤ val (addP x (1, 999983)) := by rw [e]; grind
  have m1 : val (addP x (1, 999983)) ≤ ((2 : Int) : Rat) := by rw [e, two]; grind
  obtain ⟨l, u⟩ := mil m0 m1 (by decide)
  exact ⟨px.add (Int.mul_pos hD (by decide)) p9, by decide, by decide, l, u⟩
theorem half_pt (D : Int) : Pt (D * 2) ((1, 2) : Q2) := pt_div (by decide) (by decide) (dvd_r (Int.dvd_refl 2))
theorem half_val : 0 ≤ val (1, 2) ∧ val (1, 2) ≤ 1 := ⟨(v_nn (y := (1, 2)) (by decide)).1 (by decide), (v_le (y := (1, 2)) (by decide)).1 (by decide)⟩
end
end DT

namespace DT
open PySem PySem.Spec PyProof.Rows L2 TL
-- END @drawn.lean
end DT
namespace DT
open PySem PySem.Spec PyProof.Rows L2
/-- of a state what the drawing of deeds wants -/
structure Vw (D : Int) (st : LSt) : Prop where
  d0 : 0 < D
  n0 : 0 < st.names.length
  o : st.own.length = st.names.length
  few : st.names.length ≤ 24
  short : ∀ z ∈ st.names, z.length ≤ 1000
  vo : D < 2 ^ 1829 → VOk 1850 st
  pf : ∀ z ∈ st.names, Pt D (lfree st z) ∧ 0 ≤ val (lfree st z) ∧ val (lfree st z) ≤ 1
theorem Lw.vw {D : Int} {k : Nat} {st : LSt} (h : Lw D k st) (hk : k ≤ 900) : Vw D st := ⟨h.d0, h.n0, h.wl.o, h.wl.few, h.short, fun b => (h.lok b hk).v, fun z hz => ⟨h.pFree z, h.fNN hz, h.fLe hz⟩⟩
theorem own_inV {K : PySem.W.Frag} {H : Hp} {kvs : List (Key × V)} {st : LSt} {an al ao : Addr} {ovs lvs : List V} (k : StVi K H kvs st an al ao ovs lvs) (wo : st.own.length = st.names.length) (z : Str) : (valV (zk st.names ovs) (Sum.inr z)).isSome = decide (z ∈ st.names) := by
  have po := k.po.len
  by_cases hz : z ∈ st.names
  · rw [zk_val (by omega) hz, List.getElem?_eq_getElem (by have := idx_lt hz; omega), decide_eq_true hz]
    rfl
  · rw [zk_none hz, decide_eq_false hz]
    rfl
def sp_oneV (K : PySem.W.Frag) : Sp := fun vs H Q _ => ∃ (pr s pp : Addr) (rs : List Int) (st : LSt) (zs : List Str), vs = [.ref pr, .ref s, .ref pp] ∧ RowOk H pr rs ∧ 2 ≤ rs.length ∧ StV K H s st ∧ 0 < st.names.length ∧ (∀ z ∈ st.names, z.length ≤ 1000) ∧ PoolOk H pp zs ∧
  ∀ H' z, Same H H' → z.length ≤ 1000 → Q (.str z) H'
def sp_newnV (K : PySem.W.Frag) : Sp := fun vs H Q _ => ∃ (x : Int) (s pp : Addr) (st : LSt) (zs : List Str), vs = [.int x, .ref s, .ref pp] ∧ 0 ≤ x ∧ StV K H s st ∧ st.own.length = st.names.length ∧ st.names.length ≤ 24 ∧ H pp = some (.lst (zs.map V.str)) ∧ zs.length = 26 ∧ zs.Nodup ∧
  ∀ H' z, Same H H' → z ∈ zs → z ∉ st.names → Q (.str z) H'
def sp_partV (K : PySem.W.Frag) : Sp := fun vs H Q _ => ∃ (pr s : Addr) (rs : List Int) (st : LSt) (g : Str) (D : Int), vs = [.ref pr, .ref s, .str g] ∧ RowOk H pr rs ∧ 3 ≤ rs.length ∧ StV K H s st ∧ Vw D st ∧ D * 2 ^ 22 < 2 ^ 1829 ∧
  ∀ H' v y f, Same H H' → Pp K H' v y → PtD D f y → Q v H'
def sp_wildV (K : PySem.W.Frag) : Sp := fun vs H Q _ => ∃ (pr s pp : Addr) (rs : List Int) (st : LSt) (zs : List Str) (D : Int), vs = [.ref pr, .ref s, .ref pp] ∧ RowOk H pr rs ∧ 10 ≤ rs.length ∧ rs.length ≤ 900 ∧ StV K H s st ∧ Vw D st ∧ D * 2 ^ 22 < 2 ^ 1829 ∧ PoolOk H pp zs ∧
  ∀ H' v dd f, Same H H' → DeV K H' v dd → Dr D f dd → 1 ≤ f → f ≤ 2 ^ 22 → (rs.getD 0 0 % 16 < 8 → noHour dd) → Q v H'
end DT

namespace DT
open PySem PySem.Spec PyProof.Rows L2 TL
-- END @drawnV.lean
end DT
namespace DT
open PySem PySem.Spec PyProof.Rows L2
/-! ### a row of drawn deeds, each good behind the ones ahead -/
def stE (s0 : LSt) (ds : List De) : LSt := ds.foldl didE s0
theorem stE_snoc (s0 : LSt) (ds : List De) (dd : De) : stE s0 (ds ++ [dd]) = didE (stE s0 ds) dd := by
  unfold stE
  rw [List.foldl_append]
  rfl
theorem stE_take {s0 : LSt} {ds : List De} {j : Nat} {dd : De} (e : ds[j]? = some dd) : stE s0 (ds.take (j + 1)) = didE (stE s0 (ds.take j)) dd := by
  rw [List.take_add_one, e]
  exact stE_snoc _ _ _
/-- a deed drawn for a sound state, not refused there -/
def GoodE (k : Nat) (st : LSt) (dd : De) : Prop := ∃ D f, Lw D k st ∧ Dr D f dd ∧ 1 ≤ f ∧ D * f < 2 ^ 1829 ∧ k ≤ 900 ∧ wordS st dd = none
def ChE (s0 : LSt) (ds : List De) : Prop := ∀ (i : Nat) (dd : De), ds[i]? = some dd → GoodE i (stE s0 (ds.take i)) dd
theorem ChE.nil {s0 : LSt} : ChE s0 [] := fun _ _ h => nomatch h
theorem ChE.snoc {s0 : LSt} {ds : List De} {dd : De} (h : ChE s0 ds) (g : GoodE ds.length (stE s0 ds) dd) : ChE s0 (ds ++ [dd]) := fun i x e => by
  by_cases hi : i < ds.length
  · rw [List.getElem?_append_left hi] at e
    rw [List.take_append_of_le_length (by omega)]
    exact h i x e
  · rw [List.getElem?_append_right (by omega)] at e
    have h0 : i - ds.length = 0 := by
      have := (List.getElem?_eq_some_iff.1 e).1
      simp at this
      omega
    rw [h0] at e
    cases e
    rw [show i = ds.length by omega, List.take_append_of_le_length (Nat.le_refl _), List.take_of_length_le (Nat.le_refl _)]
    exact g
/-- a sound state of so many bits -/
def So (n k : Nat) (st : LSt) : Prop := ∃ D, Lw D k st ∧ D < 2 ^ n
theorem So.new' {z : Str} (h : nameB z = true) : So 1 0 (freshS z) := ⟨1, Lw.new' h, by decide⟩
theorem So.up {n m k : Nat} {st : LSt} (h : So n k st) (e : n ≤ m) : So m k st := by
  obtain ⟨D, lw, b⟩ := h
  exact ⟨D, lw, Int.lt_of_lt_of_le b (pow_le e)⟩
theorem So.step {n j k : Nat} {st : LSt} {dd : De} {D f : Int} (lw : Lw D k st) (b : D < 2 ^ n) (dr : Dr D f dd) (f1 : 1 ≤ f) (f2 : f ≤ 2 ^ j) (hk : k ≤ 900) (ok : wordS st dd = none) : So (n + j) (k + 1) (didE st dd) := by
  obtain ⟨D', _, le, lw'⟩ := lw.step dr f1 hk ok
  exact ⟨D', lw', Int.lt_of_le_of_lt le (pow_f b lw.d0 (Int.lt_of_lt_of_le (by decide) f1) f2)⟩
theorem good_of {n j k : Nat} {st : LSt} {dd : De} {D f : Int} (lw : Lw D k st) (b : D < 2 ^ n) (dr : Dr D f dd) (f1 : 1 ≤ f) (f2 : f ≤ 2 ^ j) (hk : k ≤ 900) (hn : n + j ≤ 1829) (ok : wordS st dd = none) : GoodE k st dd :=
  ⟨D, f, lw, dr, f1, Int.lt_of_lt_of_le (pow_f b lw.d0 (Int.lt_of_lt_of_le (by decide) f1) f2) (pow_le hn), hk, ok⟩
/-- what the ditch makes of a good deed -/
theorem GoodE.go {k : Nat} {st : LSt} {m : Mo} {dd : De} (g : GoodE k st dd) (r : Rl m st) : Wf m ∧ MOk 1850 m dd ∧ judge m dd = none ∧ Rl (doneE m dd) (didE st dd) := by
  obtain ⟨D, f, lw, dr, f1, b, hk, ok⟩ := g
  exact ⟨r.wf lw lw.short, r.mok lw dr f1 b hk, by rw [r.judge]; exact ok, r.step lw dr f1 (lt_ofF lw.d0 f1 b) hk ok⟩
theorem begin_sale {D b c : Int} {k : Nat} {st : LSt} {z0 z : Str} (lw : Lw D k st) (h0 : z0 ∈ st.names) (hz : z ∈ st.names) (ne : z0 ≠ z) (hx : 0 < (lfree st z0).1) (h1 : 1 ≤ c) (h2 : c < b) :
    Dr D b (.sell z0 z (mulP (lfree st z0) (lowP c b))) ∧ wordS st (.sell z0 z (mulP (lfree st z0) (lowP c b))) = none := by
  have b0 : 0 < b := by omega
  have pf := lw.pFree z0
  have px := pf.pos
  have lr := lowP_low (t := c) b0
  have pr := lr.pos
  have lm : Low (mulP (lfree st z0) (lowP c b)).1 (mulP (lfree st z0) (lowP c b)).2 := lowP_low (Int.mul_pos px pr)
  have vm := val_mul px pr
  have vr : val (lowP c b) = val (c, b) := val_low b0
  have r0 : 0 < val (lowP c b) := by rw [vr]; exact (v_pos (y := (c, b)) b0).1 (by show 0 < c; omega)
  have r1 : val (lowP c b) ≤ 1 := by rw [vr]; exact (v_le (y := (c, b)) b0).1 (by show c ≤ b; omega)
  have x0 := (v_pos px).1 hx
  have x1 := lw.fLe h0
  have m0 : 0 < val (mulP (lfree st z0) (lowP c b)) := by rw [vm]; exact Rat.mul_pos x0 r0
  have m1 : val (mulP (lfree st z0) (lowP c b)) ≤ val (lfree st z0) := by
    rw [vm]
    have := Rat.mul_nonneg (Rat.le_of_lt x0) (show 0 ≤ 1 - val (lowP c b) by grind)
    grind
  obtain ⟨l, u⟩ := mil (c := 1) (Rat.le_of_lt m0) (by rw [one_c]; grind) (by decide)
  refine ⟨⟨name_short (lw.nb z0 h0), name_short (lw.nb z hz), ⟨lm, Int.dvd_trans mul_dvd (Int.mul_dvd_mul pf.dv low_dvd)⟩, l, u⟩, ?_⟩
  simp only [wordS, judgeG]
  rw [if_neg (fun q => q ⟨h0, hz⟩), if_neg ne, if_neg (fun q => q ((v_pos lm.pos).2 m0)), if_neg]
  rw [lessP_iff px lm.pos]
  grind
theorem begin_settle {D : Int} {k : Nat} {st : LSt} {z : Str} (hn : nameB z = true) (hz : z ∉ st.names) (room : st.names.length + 1 ≤ 24) : Dr D 1 (.settle z) ∧ wordS st (.settle z) = none := by
  refine ⟨name_short hn, ?_⟩
  simp only [wordS, judgeG]
  rw [if_neg (by rw [hn]; decide), if_neg hz, if_neg (by omega)]
theorem wordO_none {c : Option Rf} (h : wordO c = "") : c = none := by
  cases c with
  | none => rfl
  | some c => cases c <;> exact absurd h (by decide +kernel)
def sp_begunE (K : PySem.W.Frag) : Sp := fun vs H Q _ => ∃ (pr pp : Addr) (rs : List Int) (zs : List Str) (z0 : Str), vs = [.ref pr, .ref pp] ∧ RowOk H pr rs ∧ 3 ≤ rs.length ∧ PoolOk H pp zs ∧ zs[0]? = some z0 ∧
  ∀ H' t s dl st dvs ds, Same H H' → SqT K H' t [.ref s, .ref dl] → StD K dl H H' s st → H dl = none → H' dl = some (.lst dvs) → Al (DeV K H') dvs ds → ds.length ≤ 44 → ChE (freshS z0) ds → st = stE (freshS z0) ds → So 67 ds.length st → Q (.ref t) H'
end DT

namespace DT
open PySem PySem.Spec PyProof.Rows L2 TL
-- END @chainE.lean
end DT
namespace DT
open PySem PySem.Spec PyProof.Rows L2
/-! ### the deeds to begin with: settlings and sales, by a common bottom -/
def EarD (D : Int) : De → Prop
  | .settle z => nameB z = true
  | .sell a b x => nameB a = true ∧ nameB b = true ∧ Pt D x ∧ 0 ≤ val x ∧ val x ≤ 1
  | _ => False
theorem EarD.mono {D E : Int} {dd : De} (h : EarD D dd) (d : D ∣ E) : EarD E dd := by
  cases dd with
  | settle z => exact h
  | sell a b x => exact ⟨h.1, h.2.1, h.2.2.1.mono d, h.2.2.2⟩
  | _ => exact h.elim
theorem EarD.dr {D : Int} {dd : De} (h : EarD D dd) : Dr D 1 dd := by
  cases dd with
  | settle z => exact name_short h
  | sell a b x =>
    obtain ⟨l, u⟩ := mil (c := 1) h.2.2.2.1 (by rw [one_c]; exact h.2.2.2.2) (by decide)
    exact ⟨name_short h.1, name_short h.2.1, by rw [Int.mul_one]; exact h.2.2.1, l, u⟩
  | _ => exact h.elim
/-- a sound state behind early deeds, all by one bottom -/
def SoB (n : Nat) (ds : List De) (st : LSt) : Prop := ∃ D, Lw D ds.length st ∧ D < 2 ^ n ∧ ∀ dd ∈ ds, EarD D dd
theorem SoB.so {n : Nat} {ds : List De} {st : LSt} (h : SoB n ds st) : So n ds.length st := by
  obtain ⟨D, lw, b, _⟩ := h
  exact ⟨D, lw, b⟩
theorem SoB.up {n m : Nat} {ds : List De} {st : LSt} (h : SoB n ds st) (e : n ≤ m) : SoB m ds st := by
  obtain ⟨D, lw, b, r⟩ := h
  exact ⟨D, lw, Int.lt_of_lt_of_le b (pow_le e), r⟩
theorem SoB.new' {z : Str} (h : nameB z = true) : SoB 1 [] (freshS z) := ⟨1, Lw.new' h, by decide, fun dd hd => nomatch hd⟩
theorem SoB.settle {n : Nat} {ds : List De} {st : LSt} {z : Str} {D : Int} (lw : Lw D ds.length st) (bd : D < 2 ^ n) (ear : ∀ dd ∈ ds, EarD D dd) (hn : nameB z = true) (hz : z ∉ st.names) (room : st.names.length + 1 ≤ 24) : SoB n (ds ++ [.settle z]) (didE st (.settle z)) := by
  refine ⟨D, ?_, bd, fun dd hd => ?_⟩
  · rw [List.length_append]
    exact (lw.join hn hz room).moreK (Nat.le_succ _)
  · rcases List.mem_append.1 hd with hd | hd
    · exact ear dd hd
    · rw [List.mem_singleton.1 hd]; exact hn
theorem SoB.sell {n j : Nat} {ds : List De} {st : LSt} {a b : Str} {x : Q2} {D f : Int} (lw : Lw D ds.length st) (bd : D < 2 ^ n) (ear : ∀ dd ∈ ds, EarD D dd) (f1 : 1 ≤ f) (f2 : f ≤ 2 ^ j) (dr : Dr D f (.sell a b x)) (ok : wordS st (.sell a b x) = none) : SoB (n + j) (ds ++ [.sell a b x]) (didE st (.sell a b x)) := by
  simp only [wordS, judgeG] at ok
  by_cases h1 : a ∈ st.names ∧ b ∈ st.names
  · rw [if_neg (fun q => q h1)] at ok
    by_cases h2 : a = b
    · rw [if_pos h2] at ok; cases ok
    rw [if_neg h2] at ok
    by_cases h3 : 0 < x.1
    · rw [if_neg (fun q => q h3)] at ok
      by_cases h4 : lessP (lfree st a) x = true
      · rw [if_pos h4] at ok; cases ok
      obtain ⟨_, _, px, _, _⟩ := dr
      have hF := lw.mulF (f := f) (by omega)
      have le0 := less_free (lw.pFree a).pos px.pos h4
      have le := le0
      rw [lw.vFree] at le
      have x0 := Rat.le_of_lt ((v_pos px.pos).1 h3)
      have x1 := lw.fLe h1.1
      refine ⟨D * f, ?_, pow_f bd lw.d0 (by omega) f2, fun dd hd => ?_⟩
      · rw [List.length_append]
        exact (hF.move h1.1 h1.2 h2 px x0 (by grind)).moreK (Nat.le_succ _)
      · rcases List.mem_append.1 hd with hd | hd
        · exact (ear dd hd).mono (Int.dvd_mul_right D f)
        · rw [List.mem_singleton.1 hd]
          exact ⟨lw.nb a h1.1, lw.nb b h1.2, px, x0, by grind⟩
    · rw [if_pos h3] at ok; cases ok
  · rw [if_pos h1] at ok; cases ok
/-- all states on the way are sound -/
def PreS (n : Nat) (s0 : LSt) (ds : List De) : Prop := ∀ j, j ≤ ds.length → So n j (stE s0 (ds.take j))
theorem PreS.up {n m : Nat} {s0 : LSt} {ds : List De} (h : PreS n s0 ds) (e : n ≤ m) : PreS m s0 ds := fun j hj => (h j hj).up e
theorem PreS.nil {n : Nat} {s0 : LSt} (h : So n 0 s0) : PreS n s0 [] := fun j hj => by
  obtain rfl : j = 0 := Nat.le_zero.1 hj
  exact h
theorem PreS.snoc {n : Nat} {s0 : LSt} {ds : List De} {dd : De} (h : PreS n s0 ds) (k : So n (ds.length + 1) (stE s0 (ds ++ [dd]))) : PreS n s0 (ds ++ [dd]) := fun j hj => by
  rw [List.length_append] at hj
  have hj : j ≤ ds.length + 1 := hj
  by_cases e : j ≤ ds.length
  · rw [List.take_append_of_le_length e]
    exact h j e
  · obtain rfl : j = ds.length + 1 := by omega
    rw [List.take_of_length_le (by rw [List.length_append]; exact Nat.le_refl _)]
    exact k
def sp_begunH (K : PySem.W.Frag) : Sp := fun vs H Q _ => ∃ (pr pp : Addr) (rs : List Int) (zs : List Str) (z0 : Str), vs = [.ref pr, .ref pp] ∧ RowOk H pr rs ∧ 3 ≤ rs.length ∧ PoolOk H pp zs ∧ zs[0]? = some z0 ∧
  ∀ H' t s dl st dvs ds, Same H H' → SqT K H' t [.ref s, .ref dl] → StD K dl H H' s st → H dl = none → H' dl = some (.lst dvs) → Al (DeV K H') dvs ds → ds.length ≤ 44 → ChE (freshS z0) ds → st = stE (freshS z0) ds → SoB 67 ds st → PreS 67 (freshS z0) ds → Q (.ref t) H'
/-- behind early deeds no hour has gone by -/
structure NoHrs (st : LSt) : Prop where
  g : ∀ x ∈ st.gain, x = (0, 1)
  c : ∀ x ∈ st.cnt, x = 0
  l : st.loans = []
  w : st.wet = 0
  d : st.dry = 0
theorem noHrs {z0 : Str} {D : Int} : ∀ (j : Nat) {ds : List De}, ds.length = j → (∀ dd ∈ ds, EarD D dd) → NoHrs (stE (freshS z0) ds)
  | 0, ds, hl, _ => by
    obtain rfl := List.eq_nil_of_length_eq_zero hl
    exact ⟨fun x hx => List.mem_singleton.1 hx, fun x hx => List.mem_singleton.1 hx, rfl, rfl, rfl⟩
  | j + 1, ds, hl, ear => by
    rcases List.eq_nil_or_concat ds with rfl | ⟨ds', dd, rfl⟩
    · cases hl
    rw [List.concat_eq_append] at hl ear ⊢
    have hl' : ds'.length = j := by rw [List.length_append] at hl; exact Nat.succ.inj hl
    have ih := noHrs (z0 := z0) j hl' fun y hy => ear y (by simp [hy])
    have ed := ear dd (by simp)
    rw [stE_snoc]
    cases dd with
    | settle z =>
      refine ⟨fun x hx => ?_, fun x hx => ?_, ih.l, ih.w, ih.d⟩
      · rcases List.mem_append.1 (show x ∈ _ ++ [(0, 1)] from hx) with hx | hx
        · exact ih.g x hx
        · exact List.mem_singleton.1 hx
      · rcases List.mem_append.1 (show x ∈ _ ++ [(0 : Int)] from hx) with hx | hx
        · exact ih.c x hx
        · exact List.mem_singleton.1 hx
    | sell a b x => exact ⟨ih.g, ih.c, ih.l, ih.w, ih.d⟩
    | _ => exact ed.elim
end DT

namespace DT
open PySem PySem.Spec PyProof.Rows L2 TL
-- END @early.lean
end DT
namespace DT
open PySem PySem.Spec PyProof.Rows L2
/-! ### a ditch's past, deed by deed -/
def ShE : De → Prop
  | .leave _ hs => hs.length ≤ 500
  | _ => True
theorem Dr.sh {D f : Int} {dd : De} (h : Dr D f dd) : ShE dd := by
  cases dd with
  | leave z hs => exact Nat.le_trans h.2.1 (by decide)
  | _ => trivial
theorem sh_ran {m : Mo} {dd : De} (h : ShE dd) : ShE (ranE m dd) := by
  cases dd with
  | leave z hs => exact h
  | _ => trivial
def PastE (K : PySem.W.Frag) (H : Hp) (ps : List V) (des : List De) : Prop := ∃ vs, PastT H ps vs ∧ Al (DeV K H) vs des ∧ ∀ dd ∈ des, ShE dd
theorem PastE.nil {K : PySem.W.Frag} {H : Hp} : PastE K H [] [] := ⟨[], .nil, .nil, fun _ z => nomatch z⟩
theorem PastE.same {K : PySem.W.Frag} {H H' : Hp} {ps : List V} {des : List De} (h : PastE K H ps des) (e : Same H H') : PastE K H' ps des := by
  obtain ⟨vs, a, b, c⟩ := h
  exact ⟨vs, a.same e, b.imp fun _ _ _ h => h.same e, c⟩
theorem PastE.snoc {K : PySem.W.Frag} {H : Hp} {ps : List V} {des : List De} {tt t n : Addr} {dd : De} (h : PastE K H ps des) (et : H tt = some (.tup [.ref t, .ref n])) (dv : DeV K H (.ref t) dd) (sh : ShE dd) : PastE K H (ps ++ [.ref tt]) (des ++ [dd]) := by
  obtain ⟨vs, a, b, c⟩ := h
  refine ⟨vs ++ [.ref t], a.snoc et, b.snoc dv, fun x hx => ?_⟩
  rcases List.mem_append.1 hx with hx | hx
  · exact c x hx
  · rw [List.mem_singleton.1 hx]; exact sh
theorem PastE.len {K : PySem.W.Frag} {H : Hp} {ps : List V} {des : List De} (h : PastE K H ps des) : ps.length = des.length := by
  obtain ⟨vs, a, b, _⟩ := h
  rw [a.len, b.1]
/-- the same past told in the whole heap -/
theorem PastE.up {K : PySem.W.Frag} {M : List Addr} {H : Hp} {ps : List V} {des : List De} (h : PastE K (del M H) ps des) : PastE K H ps des := h.same del_same
/-! ### the deeds to begin with, done at a ditch -/
def sp_setupE (K : PySem.W.Frag) (CM C : Addr) : Sp := fun vs H Q _ => ∃ (pr d dx n p u pp : Addr) (rs : List Int) (zs : List Str) (z0 : Str), vs = [.ref pr, .ref d, .ref pp] ∧ RowOk H pr rs ∧ 11 ≤ rs.length ∧ rs.length ≤ 900 ∧ PoolOk H pp zs ∧ zs[0]? = some z0 ∧ DiAt K CM C H d dx n p u (newMo z0) [] [] ∧
  ∀ H' s st m ps us u' r des, Same (del (mu d dx p u) H) (del (mu d dx p u') H') → DiAt K CM C H' d dx r p u' m ps us → ps.length ≤ 44 → Rl m st → So 67 ps.length st → StK K (del (mu d dx p u') H') s st → PastE K (del (mu d dx p u') H') ps des → (us = [] ∨ us.length ≤ 10) → Q (.ref s) H'
end DT

namespace DT
open PySem PySem.Spec PyProof.Rows L2 TL
-- END @past.lean
end DT
namespace DT
open PySem PySem.Spec PyProof.Rows L2
/-! ### hours to come -/
def passN : Nat → Mo → Mo
  | 0, m => m
  | j + 1, m => passM (passN j m)
def waterN : Nat → Mo → Mo
  | 0, m => m
  | j + 1, m => wateredM (waterN j m)
def hourN : Nat → LSt → LSt
  | 0, st => st
  | j + 1, st => hourS (hourN j st)
theorem ret_congr (o : List Str) : ∀ (ds : List Debt) (a b : Mo), a.free = b.free → a.port = b.port → (retM o a ds).free = (retM o b ds).free ∧ (retM o a ds).port = (retM o b ds).port
  | [], a, b, h1, h2 => ⟨h1, h2⟩
  | d :: ds, a, b, h1, h2 => by
    rw [ret_cons, ret_cons]
    by_cases h : d.2.2.2 = 1
    · rw [if_pos h, if_pos h]
      exact ret_congr o ds _ _ (by show addAt a.free _ _ = addAt b.free _ _; rw [h1]) (by show addAt (addAt a.port _ _) _ _ = addAt (addAt b.port _ _) _ _; rw [h2])
    · rw [if_neg h, if_neg h]
      exact ret_congr o ds a b h1 h2
/-- alike in all that loans touch -/
structure Lk (a b : Mo) : Prop where
  o : a.order = b.order
  h : a.hold = b.hold
  f : a.free = b.free
  q : a.port = b.port
  d : a.debts = b.debts
theorem Lk.passW {a b : Mo} (l : Lk a b) : Lk (passM a) (wateredM b) := by
  obtain ⟨p1, p2, _, _, p5, _, _⟩ := pass_rest a
  obtain ⟨r1, r2, _, _, r5, _, _⟩ := pass_rest b
  have e : (passM a).free = (passM b).free ∧ (passM a).port = (passM b).port := by
    unfold passM
    rw [l.o, l.d]
    exact ret_congr b.order b.debts _ _ l.f l.q
  exact ⟨p1.trans (l.o.trans r1.symm), p2.trans (l.h.trans r2.symm), e.1, e.2, by rw [p5, l.d]; exact r5.symm⟩
theorem lkN (m : Mo) : ∀ j, Lk (passN j m) (waterN j m)
  | 0 => ⟨rfl, rfl, rfl, rfl, rfl⟩
  | j + 1 => (lkN m j).passW
theorem Lk.passOk {a b : Mo} {N : Nat} (l : Lk a b) (h : PassOk N b) : PassOk N a := by
  obtain ⟨h1, h2, h3, h4⟩ := h
  refine ⟨by rw [l.d]; exact h1, h2, fun d hd => ?_, fun i hi => ?_⟩
  · rw [l.o]
    exact h3 d (by rw [← l.d]; exact hd)
  · have := h4 i (by rw [← l.d]; exact hi)
    have e := ret_congr b.order (b.debts.take i) { a with debts := decD b.debts } { b with debts := decD b.debts } l.f l.q
    rw [l.o, l.d]
    have ea : ({ order := b.order, hold := a.hold, free := a.free, port := a.port, arr := a.arr, cnt := a.cnt, debts := decD b.debts, wet := a.wet, dry := a.dry } : Mo) = { a with order := b.order, debts := decD b.debts } := rfl
    have e2 := ret_congr b.order (b.debts.take i) { a with order := b.order, debts := decD b.debts } { b with debts := decD b.debts } l.f l.q
    rw [e2.1, e2.2]
    exact this
theorem wf_pass {m : Mo} (w : Wf m) : Wf (passM m) := by
  obtain ⟨p1, p2, p3, p4, _, _, _⟩ := pass_rest m
  have kp := retM_keeps m.order m.debts { m with debts := decD m.debts }
  refine ⟨by rw [p2, p1]; exact w.h, ?_, ?_, by rw [p3, p1]; exact w.a, by rw [p4, p1]; exact w.c, by rw [p1]; exact w.few, by rw [p1]; exact w.nd, by rw [p1]; exact w.nl⟩
  · rw [p1]
    exact kp.2.2.2.2.2.2.2.1.trans w.f
  · rw [p1]
    exact kp.2.2.2.2.2.2.2.2.trans w.q
theorem wf_passN {m : Mo} (w : Wf m) : ∀ j, Wf (passN j m)
  | 0 => w
  | j + 1 => wf_pass (wf_passN w j)
section
variable {D : Int} {k : Nat} {st : LSt} {m : Mo}
theorem hoursN (r : Rl m st) (h : Lw D k st) (b : D < 2 ^ 1829) : ∀ j, k + j ≤ 900 → Rl (waterN j m) (hourN j st) ∧ Lw D (k + j) (hourN j st)
  | 0, _ => ⟨r, h⟩
  | j + 1, hj => by
    obtain ⟨r1, h1⟩ := hoursN r h b j (by clear b; omega)
    exact ⟨r1.hour h1 b (by clear b; omega), h1.hour (by clear b; omega)⟩
/-- all that the asking for hours to come wants -/
def AheadOk (m : Mo) (n : Nat) : Prop := Wf m ∧ ∀ j, j < n → PassOk 1850 (passN j m) ∧ Wf (waterN j m) ∧ PassOk 1850 (waterN j m) ∧ 0 < (waterN j m).order.length ∧ AllOk 1850 (waterN j m).arr ∧ AllOk 1850 (waterN j m).port
theorem ahead_ok (r : Rl m st) (h : Lw D k st) (b : D < 2 ^ 1829) {n : Nat} (hn : k + n ≤ 900) : AheadOk m n := by
  refine ⟨r.wf h h.short, fun j hj => ?_⟩
  obtain ⟨r1, h1⟩ := hoursN r h b j (by clear b; omega)
  have hk : k + j ≤ 900 := by clear b; omega
  have po := r1.passOk h1 b hk
  have lo := h1.lok b hk
  exact ⟨(lkN m j).passOk po, r1.wf h1 h1.short, po, by rw [r1.o]; exact h1.n0, r1.okA lo, r1.okQ lo⟩
end
def portsN (m : Mo) (n : Nat) : List (List Q2) := (List.range n).map fun j => (passN j m).port
def duesN (m : Mo) (n : Nat) : List Str := (List.range n).map fun j => dueM (waterN j m)
theorem portsN_succ (m : Mo) (n : Nat) : portsN m (n + 1) = portsN m n ++ [(passN n m).port] := by
  unfold portsN
  rw [List.range_succ, List.map_append]
  rfl
theorem duesN_succ (m : Mo) (n : Nat) : duesN m (n + 1) = duesN m n ++ [dueM (waterN n m)] := by
  unfold duesN
  rw [List.range_succ, List.map_append]
  rfl
theorem portsN_len (m : Mo) (n : Nat) : (portsN m n).length = n := by unfold portsN; rw [List.length_map, List.length_range]
theorem duesN_len (m : Mo) (n : Nat) : (duesN m n).length = n := by unfold duesN; rw [List.length_map, List.length_range]
/-- a row: a list of parts that stands apart from R -/
def RwV (K : PySem.W.Frag) (H : Hp) (v : V) (xs : List Q2) : Prop := ∃ q, v = .ref q ∧ LP K H q xs
theorem RwV.same {K : PySem.W.Frag} {H H' : Hp} {v : V} {xs : List Q2} (h : RwV K H v xs) (e : Same H H') : RwV K H' v xs := by
  obtain ⟨q, rfl, k⟩ := h
  exact ⟨q, rfl, k.same e⟩
theorem RwV.off {K : PySem.W.Frag} {H : Hp} {R : Addr} {v : V} {xs : List Q2} {us vs : List V} (h : RwV K H v xs) (hR : H R = some (.lst us)) (n : v ≠ .ref R) : RwV K (upd H R (.lst vs)) v xs := by
  obtain ⟨q, rfl, k⟩ := h
  exact ⟨q, rfl, k.off hR fun z => n (by rw [z])⟩
theorem RwV.dp {K : PySem.W.Frag} {H : Hp} {v : V} {xs : List Q2} (h : RwV K H v xs) : Dp K H v (.list (xs.map datP)) := by
  obtain ⟨q, rfl, k⟩ := h
  exact k.dp
def sp_ahead (K : PySem.W.Frag) (CM C CB : Addr) : Sp := fun vs H Q E => ∃ (d dx n p u : Addr) (m : Mo) (ps us : List V) (x : Int), vs = [.ref d, .int x] ∧ DiAt K CM C H d dx n p u m ps us ∧
  (0 ≤ x → x ≤ 100 → AheadOk m x.toNat ∧ ∀ H' r ws, Same H H' → H r = none → H' r = some (.lst ws) → Al (RwV K H') ws (portsN m x.toNat) → (∀ w ∈ ws, ∃ q, w = .ref q ∧ H q = none ∧ q ≠ r) → ws.Nodup → Q (.ref r) H') ∧
  (¬ (0 ≤ x ∧ x ≤ 100) → ∀ H', Same H H' → E (.ref CB) none H')
def sp_coming (K : PySem.W.Frag) (CM C CB : Addr) : Sp := fun vs H Q E => ∃ (d dx n p u : Addr) (m : Mo) (ps us : List V) (x : Int), vs = [.ref d, .int x] ∧ DiAt K CM C H d dx n p u m ps us ∧
  (0 ≤ x → x ≤ 100 → AheadOk m x.toNat ∧ ∀ H' r, Same H H' → H r = none → H' r = some (.lst ((duesN m x.toNat).map V.str)) → Q (.ref r) H') ∧
  (¬ (0 ≤ x ∧ x ≤ 100) → ∀ H', Same H H' → E (.ref CB) none H')
theorem due_is {m : Mo} {z : Str} (e : m.order[(hourM m.arr m.port).1]? = some z) : z = dueM m := by
  unfold dueM
  rw [List.getD, e]
  rfl
end DT

namespace DT
open PySem PySem.Spec PyProof.Rows L2 TL
-- END @ahead.lean
abbrev N_Ditch_due : List Str := ["self"]
theorem sc_Ditch_due : FnScope N_Ditch_due ["self"] (defScope s_Ditch_due) := ⟨rfl, rfl, rfl, by decide +kernel, rfl, by decide +kernel, by decide +kernel⟩
section
variable {P : Program} {w : World} {K : PySem.W.Frag} {mg : Str → Option Value} {base : Heap}
def sp_dueD (K : PySem.W.Frag) (CM C : Addr) : Sp := fun vs H Q _ => ∃ (d dx n p u : Addr) (m : Mo) (ps us : List V), vs = [.ref d] ∧ DiAt K CM C H d dx n p u m ps us ∧ Wf m ∧ 0 < m.order.length ∧ AllOk 1850 m.arr ∧ AllOk 1850 m.port ∧ ∀ H', Same H H' → Q (.str (dueM m)) H'
theorem ok_Ditch_due {k : Nat} (T : Env K w mg) : FnOk P w K mg base CX0 (k + 4) T.D_Ditch_due.f T.D_Ditch_due.fd ["self"] (sp_dueD K T.C_Moment T.C_Ditch) := by
  have G_raised : FnOk P w K mg base CX0 3 T.D_raised.f T.D_raised.fd ["lags", "shares"] (sp_raised K) := ok_raised T.D_raised T.D_common T.D_plus T.m_zip
  have G_turn_of : FnOk P w K mg base CX0 3 T.D_turn_of.f T.D_turn_of.fd ["row"] (sp_turn K) := ok_turn_of T.D_turn_of T.D_below T.m_enumerate
  refine T.D_Ditch_due.F.ok sc_Ditch_due (fun vs H Q E h => ?_) (fun cdv A outer s H vs Q E hr h => ?_)
  · obtain ⟨d, dx, n, p, u, m, ps, us, rfl, _⟩ := h
    rfl
  obtain ⟨d, dx, n, p, u, m, ps, us, rfl, di, wf, h0, oa, op, q⟩ := h
  refine ⟨_, (pss_one (ps_ret (pe_ix ix_list (pe_fld (pe_fld (pv 0) rfl) rfl) (pe_call G_turn_of (hr.mono (by omega)) (by rfl) T.D_turn_of.g T.D_turn_of.F.kp T.D_turn_of.b .nil pass0 (pa_cons (pe_call G_raised (hr.mono (by omega)) (by rfl) T.D_raised.g T.D_raised.F.kp T.D_raised.b .nil pass0 (pa_cons (pe_fld (pe_fld (pv 0) rfl) rfl) (pa_cons (pe_fld (pe_fld (pv 0) rfl) rfl) pa_nil))) pa_nil)) (fun _ _ => rfl)))), ?_⟩
  obtain ⟨o, hh, f, q', a, c, b, ⟨dn, en⟩, ls⟩ := di.moH
  have few := wf.few
  have wa := wf.a
  have wq := wf.q
  have lz : (List.zipWith addP m.arr m.port).length = m.order.length := by rw [List.length_zipWith]; omega
  have hf := firstM_lt (xs := List.zipWith addP m.arr m.port) (by omega)
  refine ⟨_, rfl, d, _, dx, _, _, rfl, di.raw, T.cl_Ditch, T.n_Ditch_now, df_now, n, _, dn, _, _, rfl, en, T.cl_Moment, T.n_Moment_order, mf_order, ?_⟩
  refine ⟨_, rfl, d, _, dx, _, _, rfl, di.raw, T.cl_Ditch, T.n_Ditch_now, df_now, n, _, dn, _, _, rfl, en, T.cl_Moment, T.n_Moment_arrears, mf_arrears, ?_⟩
  refine ⟨_, rfl, d, _, dx, _, _, rfl, di.raw, T.cl_Ditch, T.n_Ditch_now, df_now, n, _, dn, _, _, rfl, en, T.cl_Moment, T.n_Moment_portions, mf_portions, ?_⟩
  refine ⟨a, q', m.arr, m.port, rfl, ls.arr, ls.por, by omega, by omega, oa.mono (by decide), op.mono (by decide), fun H1 r s1 nr lr => ?_⟩
  refine ⟨r, _, rfl, lr, by omega, by omega, (zip_ok oa op).mono (by decide), fun H2 s2 => ?_⟩
  have S := s1.trans s2
  refine ⟨o, _, _, .str (dueM m), rfl, rfl, SqL.of (S _ _ ls.ord), ?_, q _ S⟩
  refine atI_nat ?_
  unfold dueM
  show (m.order.map V.str)[firstM (List.zipWith addP m.arr m.port)]? = some (V.str (m.order.getD (firstM (List.zipWith addP m.arr m.port)) ""))
  rw [List.getElem?_map, List.getD, List.getElem?_eq_getElem (by omega)]
  rfl

end
-- END Ditch_due
end DT
namespace DT
open PySem PySem.Spec PyProof.Rows L2
theorem ports_law {D : Int} {k : Nat} {st : LSt} {m : Mo} (r : Rl m st) (h : Lw D k st) (b : D < 2 ^ 1829) {j : Nat} (hj : k + j ≤ 900) : (passN j m).port = (hourN j st).names.map (lshare (hourN j st)) := by
  rw [(lkN m j).q]
  exact (hoursN r h b j hj).1.q
theorem due_law {D : Int} {k : Nat} {st : LSt} {m : Mo} (r : Rl m st) (h : Lw D k st) (b : D < 2 ^ 1829) {j : Nat} (hj : k + j ≤ 900) : dueM (waterN j m) = dueS (hourN j st) := due_eq (hoursN r h b j hj).1
def rowsD (xss : List (List Q2)) : PyData := .list (xss.map fun xs => .list (xs.map datP))
theorem rows_dp {K : PySem.W.Frag} {H : Hp} {R : Addr} {ws : List V} {xss : List (List Q2)} (e : H R = some (.lst ws)) (h : Al (RwV K H) ws xss) : Dp K H (.ref R) (rowsD xss) := .lst (SqL.of e) (al_dp2 (fun _ _ k => k.dp) h)
theorem rows_plain {xss : List (List Q2)} (h1 : xss.length ≤ 900) (h2 : ∀ xs ∈ xss, xs.length ≤ 900) : Plain 4 (rowsD xss) := plain_l (by rw [List.length_map]; exact h1) fun d hd => by
  obtain ⟨xs, hx, rfl⟩ := List.mem_map.1 hd
  exact plain_l (by rw [List.length_map]; exact h2 xs hx) fun d hd => by
    obtain ⟨x, _, rfl⟩ := List.mem_map.1 hd
    exact plain_pp _ x
theorem names_dp {K : PySem.W.Frag} {H : Hp} {R : Addr} {zs : List Str} (e : H R = some (.lst (zs.map V.str))) : Dp K H (.ref R) (.list (zs.map PyData.str)) := .lst (SqL.of e) (strs_dp zs)
theorem names_plain {zs : List Str} (h : zs.length ≤ 900) : Plain 4 (.list (zs.map PyData.str)) := plain_l (by rw [List.length_map]; exact h) fun d hd => by
  obtain ⟨z, _, rfl⟩ := List.mem_map.1 hd
  exact plain_s _ _
def sp_comes (K : PySem.W.Frag) (CM C : Addr) : Sp := fun vs H Q _ => ∃ (d dx n p u s : Addr) (m : Mo) (ps us : List V) (st : LSt) (D : Int) (k c : Nat), vs = [.ref d, .ref s, .int (c : Int)] ∧ DiAt K CM C H d dx n p u m ps us ∧ StK K H s st ∧ Rl m st ∧ Lw D k st ∧ D < 2 ^ 1829 ∧ k + c ≤ 800 ∧ c ≤ 100 ∧ ∀ H', Same H H' → Q (.bl true) H'
end DT

namespace DT
open PySem PySem.Spec PyProof.Rows L2 TL
-- END @comes2.lean
end DT
namespace DT
open PySem PySem.Spec PyProof.Rows L2
/-! ### a ditch and the law's own state that go together; what lay there ahead of them stays -/
structure Led (K : PySem.W.Frag) (CM C : Addr) (B : Hp) (d dx p : Addr) (H : Hp) (s nn u : Addr) (m : Mo) (st : LSt) (ps us : List V) (n k : Nat) : Prop where
  di : DiAt K CM C H d dx nn p u m ps us
  rl : Rl m st
  so : So n k st
  sk : StK K (del (mu d dx p u) H) s st
  kp : ∀ b o, B b = some o → del (mu d dx p u) H b = some o
section
variable {K : PySem.W.Frag} {CM C : Addr} {B : Hp} {d dx p : Addr} {H H' : Hp} {s nn u : Addr} {m : Mo} {st : LSt} {ps us : List V} {n k : Nat}
theorem Led.same (h : Led K CM C B d dx p H s nn u m st ps us n k) (e : Same H H') : Led K CM C B d dx p H' s nn u m st ps us n k :=
  ⟨h.di.same e, h.rl, h.so, h.sk.same (del_mono e), fun b o q => del_mono e _ _ (h.kp b o q)⟩
theorem Led.stk (h : Led K CM C B d dx p H s nn u m st ps us n k) : StK K H s st := h.sk.same del_same
theorem Led.up (h : Led K CM C B d dx p H s nn u m st ps us n k) {n' k' : Nat} (e : n ≤ n') (f : k ≤ k') : Led K CM C B d dx p H s nn u m st ps us n' k' := by
  obtain ⟨D, lw, b⟩ := h.so
  exact ⟨h.di, h.rl, ⟨D, lw.moreK f, Int.lt_of_lt_of_le b (pow_le e)⟩, h.sk, h.kp⟩
theorem Led.keep (h : Led K CM C B d dx p H s nn u m st ps us n k) {b : Addr} {o : HO} (e : B b = some o) : H b = some o := del_same _ _ (h.kp b o e)
/-- another state of the law's own for the same ditch -/
theorem Led.put {H0 : Hp} {s' : Addr} {st' : LSt} {n' k' : Nat} (h : Led K CM C B d dx p H0 s nn u m st ps us n k) (e : Same H0 H') (sn : StNew K H0 H' s' st') (r : Rl m st') (so : So n' k' st') : Led K CM C B d dx p H' s' nn u m st' ps us n' k' :=
  ⟨h.di.same e, r, so, sn.del (h.di.same e).aside (fun b hb => h.di.aside.some hb), fun b o q => del_mono e _ _ (h.kp b o q)⟩
end
theorem cut_mid (rs : List Int) (a b : Nat) (hb : b ≤ rs.length) (h : a ≤ b) : cutV (rs.map V.int) (some (a : Int)) (some (b : Int)) = ((rs.drop a).take (b - a)).map V.int := by
  rw [cut_map, HT.sIx_nat, HT.sIx_nat, Nat.min_eq_left (show a ≤ rs.length by omega), Nat.min_eq_left hb]
/-- a drawn deed at a led ditch: all that is asked of it -/
theorem led_deed {k : Nat} {st : LSt} {m : Mo} {D f : Int} {dd : De} (lw : Lw D k st) (rl : Rl m st) (dr : Dr D f dd) (f1 : 1 ≤ f) (f2 : f ≤ 2 ^ 22) (b : D * 2 ^ 22 < 2 ^ 1829) (hk : k ≤ 900) :
    LOk 1850 st ∧ Wf m ∧ MOk 1850 m dd ∧ DOk 1850 dd ∧ judge m dd = wordS st dd ∧ D < 2 ^ 1829 ∧ (wordS st dd = none → DidOk 1850 st dd ∧ Rl (doneE m dd) (didE st dd)) := by
  have bF : D * f < 2 ^ 1829 := Int.lt_of_le_of_lt (Int.mul_le_mul_of_nonneg_left f2 (Int.le_of_lt lw.d0)) b
  have b29 := lt_ofF lw.d0 f1 bF
  exact ⟨lw.lok b29 hk, rl.wf lw lw.short, rl.mok lw dr f1 bF hk, dr.dok lw.d0 f1 bF, rl.judge dd, b29, fun ok => ⟨lw.didok dr f1 bF hk ok, rl.step lw dr f1 b29 hk ok⟩⟩
theorem So.b22 {D : Int} {n k : Nat} {st : LSt} (lw : Lw D k st) (b : D < 2 ^ n) (hn : n ≤ 1800) : D * 2 ^ 22 < 2 ^ 1829 := Int.lt_of_lt_of_le (pow_f b lw.d0 (by decide) (Int.le_refl _)) (pow_le (by omega))
theorem lend_ok {st : LSt} {a b : Str} {x : Q2} {h h' : Int} (ok : wordS st (.lend a b x h) = none) (h1 : 1 ≤ h') (h2 : h' ≤ 999) : wordS st (.lend a b x h') = none := by
  simp only [wordS, judgeG] at ok ⊢
  by_cases c1 : a ∈ st.names ∧ b ∈ st.names
  · rw [if_neg (fun q => q c1)] at ok ⊢
    by_cases c2 : a = b
    · rw [if_pos c2] at ok; cases ok
    rw [if_neg c2] at ok ⊢
    by_cases c3 : 0 < x.1
    · rw [if_neg (fun q => q c3)] at ok ⊢
      by_cases c4 : 1 ≤ h ∧ h ≤ 999
      · rw [if_neg (fun q => q c4)] at ok
        rw [if_neg (fun q => q ⟨h1, h2⟩)]
        exact ok
      · rw [if_pos c4] at ok; cases ok
    · rw [if_pos c3] at ok; cases ok
  · rw [if_pos c1] at ok; cases ok
end DT

namespace DT
open PySem PySem.Spec PyProof.Rows L2 TL
-- END @led.lean
end DT
namespace DT
open PySem PySem.Spec PyProof.Rows L2
/-! ### deeds as data -/
def datH (h : Str × Int) : PyData := .tuple [.str h.1, .int h.2]
def datE : De → PyData
  | .settle z => .tuple [.str "settle", .str z]
  | .sell a b x => .tuple [.str "sell", .str a, .str b, datP x]
  | .lend a b x h => .tuple [.str "lend", .str a, .str b, datP x, .int h]
  | .leave z hs => .tuple [.str "leave", .str z, .tuple (hs.map datH)]
  | .hour z => .tuple [.str "hour", .str z]
  | .lose => .tuple [.str "lose"]
theorem DeV.dp {K : PySem.W.Frag} {H : Hp} {v : V} {dd : De} (h : DeV K H v dd) : Dp K H v (datE dd) := by
  cases dd with
  | settle z =>
    obtain ⟨t, rfl, h⟩ := h
    exact .tup h (.cons (.str _) (.cons (.str _) .nil))
  | sell a b x =>
    obtain ⟨t, vp, rfl, h, p⟩ := h
    exact .tup h (.cons (.str _) (.cons (.str _) (.cons (.str _) (.cons (Pr.dp p) .nil))))
  | lend a b x l =>
    obtain ⟨t, vp, rfl, h, p⟩ := h
    exact .tup h (.cons (.str _) (.cons (.str _) (.cons (.str _) (.cons (Pr.dp p) (.cons (.int _) .nil)))))
  | leave z hs =>
    obtain ⟨t, th, hv, rfl, h, p, a⟩ := h
    refine .tup h (.cons (.str _) (.cons (.str _) (.cons (.tup p (al_dp2 (fun v x k => ?_) a)) .nil)))
    obtain ⟨t', rfl, k⟩ := k
    exact .tup k (.cons (.str _) (.cons (.int _) .nil))
  | hour z =>
    obtain ⟨t, rfl, h⟩ := h
    exact .tup h (.cons (.str _) (.cons (.str _) .nil))
  | lose =>
    obtain ⟨t, rfl, h⟩ := h
    exact .tup h (.cons (.str _) .nil)
theorem plain_e {dd : De} (h : ShE dd) : Plain 3 (datE dd) := by
  cases dd with
  | settle z =>
    refine plain_t (by show 2 ≤ 900; decide) (fun d hd => ?_)
    simp only [List.mem_cons, List.not_mem_nil, or_false] at hd
    rcases hd with rfl | rfl <;> exact plain_s _ _
  | sell a b x =>
    refine plain_t (by show 4 ≤ 900; decide) (fun d hd => ?_)
    simp only [List.mem_cons, List.not_mem_nil, or_false] at hd
    rcases hd with rfl | rfl | rfl | rfl
    · exact plain_s _ _
    · exact plain_s _ _
    · exact plain_s _ _
    · exact plain_pp _ _
  | lend a b x l =>
    refine plain_t (by show 5 ≤ 900; decide) (fun d hd => ?_)
    simp only [List.mem_cons, List.not_mem_nil, or_false] at hd
    rcases hd with rfl | rfl | rfl | rfl | rfl
    · exact plain_s _ _
    · exact plain_s _ _
    · exact plain_s _ _
    · exact plain_pp _ _
    · exact plain_i _ _
  | leave z hs =>
    refine plain_t (by show 3 ≤ 900; decide) (fun d hd => ?_)
    simp only [List.mem_cons, List.not_mem_nil, or_false] at hd
    rcases hd with rfl | rfl | rfl
    · exact plain_s _ _
    · exact plain_s _ _
    · refine plain_t (by rw [List.length_map]; exact Nat.le_trans h (by decide)) (fun d hd => ?_)
      obtain ⟨x, _, rfl⟩ := List.mem_map.1 hd
      refine plain_t (by show 2 ≤ 900; decide) (fun d hd => ?_)
      simp only [List.mem_cons, List.not_mem_nil, or_false] at hd
      rcases hd with rfl | rfl
      · exact plain_s _ _
      · exact plain_i _ _
  | hour z =>
    refine plain_t (by show 2 ≤ 900; decide) (fun d hd => ?_)
    simp only [List.mem_cons, List.not_mem_nil, or_false] at hd
    rcases hd with rfl | rfl <;> exact plain_s _ _
  | lose =>
    refine plain_t (by show 1 ≤ 900; decide) (fun d hd => ?_)
    rw [List.mem_singleton.1 hd]; exact plain_s _ _
def logD (des : List De) : PyData := .list (des.map datE)
theorem log_plain {des : List De} (h1 : des.length ≤ 900) (h2 : ∀ dd ∈ des, ShE dd) : Plain 4 (logD des) := plain_l (by rw [List.length_map]; exact h1) fun d hd => by
  obtain ⟨dd, hdd, rfl⟩ := List.mem_map.1 hd
  exact plain_e (h2 dd hdd)
theorem log_dp {K : PySem.W.Frag} {H : Hp} {R : Addr} {vs : List V} {des : List De} (e : H R = some (.lst vs)) (a : Al (DeV K H) vs des) : Dp K H (.ref R) (logD des) := .lst (SqL.of e) (al_dp2 (fun _ _ k => k.dp) a)
theorem did_ran (st : LSt) (m : Mo) (dd : De) : didE st (ranE m dd) = didE st dd := by cases dd <;> rfl
theorem didok_ran {N : Nat} {st : LSt} {m : Mo} {dd : De} (h : DidOk N st dd) : DidOk N st (ranE m dd) := by cases dd <;> exact h
end DT

namespace DT
open PySem PySem.Spec PyProof.Rows L2 TL
-- END @logd.lean
end DT
namespace DT
open PySem PySem.Spec PyProof.Rows L2
/-! ### a ditch that goes as some state of the law's own would, which need not lie anywhere -/
structure Liv (K : PySem.W.Frag) (CM C : Addr) (B : Hp) (d dx p : Addr) (H : Hp) (nn u : Addr) (m : Mo) (st : LSt) (ps us : List V) (n k : Nat) : Prop where
  di : DiAt K CM C H d dx nn p u m ps us
  rl : Rl m st
  so : So n k st
  kp : ∀ b o, B b = some o → del (mu d dx p u) H b = some o
section
variable {K : PySem.W.Frag} {CM C : Addr} {B : Hp} {d dx p : Addr} {H H' : Hp} {s nn u : Addr} {m : Mo} {st : LSt} {ps us : List V} {n k : Nat}
theorem Led.liv (h : Led K CM C B d dx p H s nn u m st ps us n k) : Liv K CM C B d dx p H nn u m st ps us n k := ⟨h.di, h.rl, h.so, h.kp⟩
theorem Liv.same (h : Liv K CM C B d dx p H nn u m st ps us n k) (e : Same H H') : Liv K CM C B d dx p H' nn u m st ps us n k := ⟨h.di.same e, h.rl, h.so, fun b o q => del_mono e _ _ (h.kp b o q)⟩
theorem So.upK {n k n' k' : Nat} {st : LSt} (h : So n k st) (e : n ≤ n') (f : k ≤ k') : So n' k' st := by
  obtain ⟨D, lw, b⟩ := h
  exact ⟨D, lw.moreK f, Int.lt_of_lt_of_le b (pow_le e)⟩
theorem Liv.up (h : Liv K CM C B d dx p H nn u m st ps us n k) {n' k' : Nat} (e : n ≤ n') (f : k ≤ k') : Liv K CM C B d dx p H nn u m st ps us n' k' := ⟨h.di, h.rl, h.so.upK e f, h.kp⟩
theorem Liv.keep (h : Liv K CM C B d dx p H nn u m st ps us n k) {b : Addr} {o : HO} (e : B b = some o) : H b = some o := del_same _ _ (h.kp b o e)
/-- what a try of a drawn deed leaves -/
theorem Liv.tried {D f : Int} {dd : De} {Q : VK} (v : Liv K CM C B d dx p H nn u m st ps us n k) (lw : Lw D k st) (bd : D < 2 ^ n) (dr : Dr D f dd) (f1 : 1 ≤ f) (f2 : f ≤ 2 ^ 22) (hn : n ≤ 1800) (hk : k ≤ 900)
    (q1 : ∀ H' u' r tt t tv, wordS st dd = none → Liv K CM C B d dx p H' r u' (doneE m dd) (didE st dd) (ps ++ [.ref tt]) [] (n + 22) (k + 1) → Same (del (mu d dx p u) H) (del (mu d dx p u') H') → del (mu d dx p u') H' tt = some (.tup [.ref t, .ref nn]) → DeV K (del (mu d dx p u') H') (.ref t) (ranE m dd) → H u' = none → SqT K H' tv [.str ("" : Str), retE m dd] → Q (.ref tv) H')
    (q2 : ∀ H' tv c, wordS st dd = some c → Same H H' → SqT K H' tv [.str (wordR c), .non] → Q (.ref tv) H') : Tried K CM C H d dx nn p u m ps us dd Q := by
  obtain ⟨lo, wf, mok, dok, jd, b29, did⟩ := led_deed lw v.rl dr f1 f2 (So.b22 lw bd hn) hk
  have so1 : wordS st dd = none → So (n + 22) (k + 1) (didE st dd) := fun ok => So.step (j := 22) lw bd dr f1 f2 hk ok
  unfold Tried
  rw [jd]
  clear b29
  cases ow : wordS st dd with
  | none =>
    intro H' u' r tt t tv s9 di9 et dvt nu ht
    exact q1 H' u' r tt t tv ow ⟨di9, (did ow).2, so1 ow, fun b o e => s9 _ _ (v.kp b o e)⟩ s9 et dvt nu ht
  | some c => exact fun H' tv s9 ht => q2 H' tv c ow s9 ht
/-- all that a try of a drawn deed asks -/
theorem Liv.asks {D f : Int} {dd : De} (v : Liv K CM C B d dx p H nn u m st ps us n k) (lw : Lw D k st) (bd : D < 2 ^ n) (dr : Dr D f dd) (f1 : 1 ≤ f) (f2 : f ≤ 2 ^ 22) (hn : n ≤ 1800) (hk : k ≤ 900) : Wf m ∧ MOk 1850 m dd := by
  obtain ⟨lo, wf, mok, dok, jd, b29, did⟩ := led_deed lw v.rl dr f1 f2 (So.b22 lw bd hn) hk
  exact ⟨wf, mok⟩
theorem Liv.wf (v : Liv K CM C B d dx p H nn u m st ps us n k) : Wf m := by
  obtain ⟨D, lw, _⟩ := v.so
  exact v.rl.wf lw lw.short
theorem Liv.okF (v : Liv K CM C B d dx p H nn u m st ps us n k) (hn : n ≤ 1829) (hk : k ≤ 900) : AllOk 1850 m.free := by
  obtain ⟨D, lw, b⟩ := v.so
  have lo := lw.lok (Int.lt_of_lt_of_le b (pow_le hn)) hk
  intro x hx
  rw [v.rl.f] at hx
  obtain ⟨z, hz, rfl⟩ := List.mem_map.1 hx
  exact ⟨lo.of z hz, lo.lf hz⟩
end
theorem sqTk {K : PySem.W.Frag} {H H' : Hp} {t : Addr} {xs : List V} (q : SqT K H t xs) (k : TK H H') : SqT K H' t xs := by
  rcases q with (q | ⟨o, q⟩) | q
  · exact .inl (.inl (k _ _ q (.inl ⟨_, rfl⟩)))
  · exact .inl (.inr ⟨o, k _ _ q (.inr ⟨_, _, rfl⟩)⟩)
  · exact .inr q
theorem putK_le (kvs : List (Key × V)) (k : Key) (v : V) : (putK kvs k v).length ≤ kvs.length + 1 := by
  unfold putK
  split
  · rw [List.length_map]; omega
  · rw [List.length_append]; exact Nat.le_refl _
/-! ### the state that a law makes of what a ditch tells -/
def seenS (m : Mo) : LSt := ⟨m.order, m.free, [], [], [], 0, 0⟩
def sp_seen (K : PySem.W.Frag) (CM C : Addr) : Sp := fun vs H Q _ => ∃ (d dx n p u : Addr) (m : Mo) (ps us : List V), vs = [.ref d] ∧ DiAt K CM C H d dx n p u m ps us ∧ Wf m ∧ ∀ H' r, Same H H' → StV K H' r (seenS m) → Q (.ref r) H'
theorem mergeK_zk : ∀ {l : List Str} {vs : List V} (acc : List (Key × V)), l.Nodup → (∀ z ∈ l, valV acc (Sum.inr z) = none) → mergeK acc (zk l vs) = acc ++ zk l vs
  | [], vs, acc, _, _ => by
    have e : zk [] vs = [] := by cases vs <;> rfl
    rw [e, List.append_nil]
    rfl
  | a :: l, [], acc, _, _ => by
    have e : zk (a :: l) [] = [] := rfl
    rw [e, List.append_nil]
    rfl
  | a :: l, v :: vs, acc, nd, h => by
    have nd' := List.nodup_cons.1 nd
    show mergeK (putK acc (Sum.inr a) v) (zk l vs) = acc ++ (Sum.inr a, v) :: zk l vs
    rw [putK_new v (h a (by simp)), mergeK_zk _ nd'.2 (fun z hz => ?_), List.append_assoc]
    · rfl
    · rw [valV_snoc _ _ _ _ (h a (by simp)), if_neg (fun e => nd'.1 (by rw [← Sum.inr.inj e]; exact hz)), h z (by simp [hz])]
theorem seen_free {m : Mo} {st : LSt} {D : Int} {k : Nat} {z : Str} (r : Rl m st) (h : Lw D k st) (hz : z ∈ m.order) : Pt D (lfree (seenS m) z) ∧ val (lfree (seenS m) z) = val (lfree st z) := by
  have hz' : z ∈ st.names := by rw [← r.o]; exact hz
  have e : lfree (seenS m) z = subP (lfree st z) (0, 1) := by
    show subP (itemP m.free (idxS m.order z)) (0, 1) = _
    rw [r.o, freeM r hz']
  rw [e]
  refine ⟨(h.pFree z).sub h.d0 (pt0 D), ?_⟩
  rw [val_sub (h.pFree z).pos (pt0 D).pos, val_zero']
  grind
theorem seen_vw {m : Mo} {st : LSt} {D : Int} {k : Nat} (r : Rl m st) (h : Lw D k st) (hk : k ≤ 900) : Vw D (seenS m) := by
  refine ⟨h.d0, by show 0 < m.order.length; rw [r.o]; exact h.n0, by show m.free.length = m.order.length; rw [r.f, r.o, List.length_map], by show m.order.length ≤ 24; rw [r.o]; exact h.wl.few, fun z hz => h.short z (by rw [← r.o]; exact hz), fun b => ?_, fun z hz => ?_⟩
  · have lo := h.lok b hk
    refine ⟨by show m.free.length = m.order.length; rw [r.f, r.o, List.length_map], by show m.order.length ≤ 24; rw [r.o]; exact h.wl.few, by decide, by decide, Nat.zero_le _, fun x hx => ?_, (fun d hd => nomatch hd), fun z i => ?_⟩
    · rw [show (seenS m).own = m.free from rfl, r.f] at hx
      obtain ⟨z, hz, rfl⟩ := List.mem_map.1 hx
      exact ⟨lo.of z hz, lo.lf hz⟩
    · have e : (outs (seenS m) z).take i = [] := by
        have : outs (seenS m) z = [] := rfl
        rw [this, List.take_nil]
      rw [e]
      exact ok01N (by decide)
  · have hz' : z ∈ st.names := by rw [← r.o]; exact hz
    obtain ⟨a, e⟩ := seen_free r h hz
    rw [e]
    exact ⟨a, h.fNN hz', h.fLe hz'⟩
end DT

namespace DT
open PySem PySem.Spec PyProof.Rows L2 TL
-- END @liv.lean
end DT
namespace DT
open PySem PySem.Spec PyProof.Rows L2
/-! ### all shares together are one -/
def sw (f : Str → Rat) : List Str → Rat
  | [] => 0
  | z :: l => f z + sw f l
theorem sw_add (f g : Str → Rat) : ∀ l, sw (fun z => f z + g z) l = sw f l + sw g l
  | [] => by show (0 : Rat) = 0 + 0; grind
  | z :: l => by
    show f z + g z + sw (fun z => f z + g z) l = (f z + sw f l) + (g z + sw g l)
    rw [sw_add f g l]
    grind
theorem sw_congr {f g : Str → Rat} : ∀ {l : List Str}, (∀ z ∈ l, f z = g z) → sw f l = sw g l
  | [], _ => rfl
  | z :: l, h => by
    show f z + sw f l = g z + sw g l
    rw [h z (by simp), sw_congr fun y hy => h y (by simp [hy])]
theorem sw_zero : ∀ l, sw (fun _ => 0) l = 0
  | [] => rfl
  | z :: l => by
    show (0 : Rat) + sw _ l = 0
    rw [sw_zero l]
    grind
theorem sw_ite {a : Str} {v : Rat} : ∀ {l : List Str}, l.Nodup → sw (fun z => if a = z then v else 0) l = if a ∈ l then v else 0
  | [], _ => rfl
  | z :: l, nd => by
    have nd' := List.nodup_cons.1 nd
    show (if a = z then v else 0) + sw _ l = _
    rw [sw_ite nd'.2]
    by_cases e : a = z
    · rw [if_pos e, if_neg (by rw [e]; exact nd'.1), if_pos (by rw [e]; simp)]
      grind
    · rw [if_neg e]
      by_cases m : a ∈ l
      · rw [if_pos m, if_pos (by simp [m])]; grind
      · rw [if_neg m, if_neg (by simp [m, e])]; grind
theorem worth_map (g : Str → Q2) : ∀ l, worth (l.map g) = sw (fun z => val (g z)) l
  | [] => rfl
  | z :: l => by
    rw [List.map_cons, worth_cons, worth_map g l]
    rfl
def totD : List Debt → Rat
  | [] => 0
  | d :: ds => val d.2.2.1 + totD ds
theorem sw_wo {ns : List Str} (nd : ns.Nodup) : ∀ {ds : List Debt}, (∀ d ∈ ds, d.1 ∈ ns) → sw (fun z => wo z ds) ns = totD ds
  | [], _ => sw_zero ns
  | d :: ds, h => by
    have ih := sw_wo nd (ds := ds) fun e he => h e (by simp [he])
    have e := sw_add (fun z => if d.1 = z then val d.2.2.1 else 0) (fun z => wo z ds) ns
    show sw (fun z => (if d.1 = z then val d.2.2.1 else 0) + wo z ds) ns = val d.2.2.1 + totD ds
    rw [e, ih, sw_ite nd, if_pos (h d (by simp))]
theorem sw_wi {ns : List Str} (nd : ns.Nodup) : ∀ {ds : List Debt}, (∀ d ∈ ds, d.2.1 ∈ ns) → sw (fun z => wi z ds) ns = totD ds
  | [], _ => sw_zero ns
  | d :: ds, h => by
    have ih := sw_wi nd (ds := ds) fun e he => h e (by simp [he])
    have e := sw_add (fun z => if d.2.1 = z then val d.2.2.1 else 0) (fun z => wi z ds) ns
    show sw (fun z => (if d.2.1 = z then val d.2.2.1 else 0) + wi z ds) ns = val d.2.2.1 + totD ds
    rw [e, ih, sw_ite nd, if_pos (h d (by simp))]
theorem strs_get {l : List Str} {i : Nat} {x : V} (hx : (l.map V.str)[i]? = some x) : ∃ z, l[i]? = some z ∧ x = .str z := by
  rw [List.getElem?_map] at hx
  cases e : l[i]? with
  | none => rw [e] at hx; cases hx
  | some z => rw [e] at hx; exact ⟨z, rfl, (Option.some.inj hx).symm⟩
section
variable {D : Int} {k : Nat} {st : LSt} {m : Mo} {z : Str}
theorem Lw.share1 (h : Lw D k st) : worth (st.names.map (lshare st)) = 1 := by
  have nd := h.wl.nd
  have eo : st.own = st.names.map fun z => itemP st.own (idxS st.names z) := map_ext nd h.wl.o (pt_low h.ow) (fun z _ => (item_pt h.ow _).low) (fun z _ => rfl)
  have o1 := h.o1
  rw [eo, worth_map] at o1
  have s1 : sw (fun z => val (lshare st z) + wo z st.loans) st.names = sw (fun z => val (itemP st.own (idxS st.names z)) + wi z st.loans) st.names := sw_congr fun z _ => by rw [h.vShare]; grind
  have a1 := sw_add (fun z => val (lshare st z)) (fun z => wo z st.loans) st.names
  have a2 := sw_add (fun z => val (itemP st.own (idxS st.names z))) (fun z => wi z st.loans) st.names
  rw [a1, a2, sw_wo nd fun d hd => (h.lo d hd).1, sw_wi nd fun d hd => (h.lo d hd).2.1] at s1
  rw [worth_map]
  simp only [itemP] at *
  grind
theorem sum_is {xs : List Q2} {x : Q2} (h : ∀ y ∈ xs, Pt D y) (hD : 0 < D) (e : worth xs = val x) (lx : Low x.1 x.2) : sumP xs = x :=
  val_inj (Pt.sum hD h).low lx (by rw [sumP_worth (low_pos (pt_low h))]; exact e)
theorem val_one' : val (1, 1) = 1 := by rw [val_int]; exact Rat.intCast_one
theorem low_one : Low ((1, 1) : Q2).1 ((1, 1) : Q2).2 := (pt1 1).low
theorem Lw.ownSum (h : Lw D k st) : sumP st.own = (1, 1) := sum_is h.ow h.d0 (by rw [h.o1, val_one']) low_one
theorem Lw.shareSum (h : Lw D k st) : sumP (st.names.map (lshare st)) = (1, 1) := sum_is (fun y hy => by obtain ⟨z, _, rfl⟩ := List.mem_map.1 hy; exact h.pShare z) h.d0 (by rw [h.share1, val_one']) low_one
theorem Lw.owes (h : Lw D k st) (z : Str) : subP (itemP st.own (idxS st.names z)) (lfree st z) = sumP (outs st z) := by
  refine val_inj ((item_pt h.ow _).sub h.d0 (h.pFree z)).low (Pt.sum h.d0 (h.outs_pt z)).low ?_
  rw [val_sub (item_pt h.ow _).pos (h.pFree z).pos, h.vFree, h.vOut]
  grind
theorem Lw.has (h : Lw D k st) (z : Str) : subP (lshare st z) (lfree st z) = sumP (inns st z) := by
  refine val_inj ((h.pShare z).sub h.d0 (h.pFree z)).low (Pt.sum h.d0 (h.inns_pt z)).low ?_
  rw [val_sub (h.pShare z).pos (h.pFree z).pos, h.vFree, h.vShare, h.vInn]
  grind
/-- partial sums of what is not below nought stay small -/
theorem sums_ok {xs : List Q2} (hD : 0 < D) (b : D < 2 ^ 1829) (h : ∀ x ∈ xs, Pt D x ∧ 0 ≤ val x) {c : Int} (e : worth xs ≤ (c : Rat)) (hc : c ≤ 1000000) (i : Nat) : Ok 1850 (sumP (xs.take i)) := by
  have p : ∀ x ∈ xs.take i, Pt D x := fun x hx => (h x (List.mem_of_mem_take hx)).1
  have w := sumP_worth (low_pos (pt_low p))
  have a := worth_nn (xs := xs.take i) fun x hx => (h x (List.mem_of_mem_take hx)).2
  have a2 := worth_nn (xs := xs.drop i) fun x hx => (h x (List.mem_of_mem_drop hx)).2
  have s : worth xs = worth (xs.take i) + worth (xs.drop i) := by rw [← worth_app, List.take_append_drop]
  rw [← w] at a
  obtain ⟨l, u⟩ := mil (c := c) a (by rw [w]; grind) hc
  exact (Pt.sum hD p).ok hD b l u
end
end DT

namespace DT
open PySem PySem.Spec PyProof.Rows L2 TL
-- END @share1.lean
end DT
namespace DT
open PySem PySem.Spec PyProof.Rows L2
/-! ### a method called within a try's body -/
abbrev mCall (o : Expr) (m : Str) (apos : Pos) (es : List Expr) (pos : Pos) (env : PySem.Env) (pl : Sem Bool) : Sem Value := (do let ov ← eval o env; standAt apos.atName; let (f, first) ← holding [ov] (getMethod ov m pl); callWith pos f first (backTo pos (starEach es env)) (backToKw pos (keywordEach [] env)))
section
variable {X : Cx} {CX : CXT} {k : Nat} {C f : Addr} {fd : FuncData} {ps : List Str} {sp : Sp} {E : L2.St → XK} {m : Str} {o e : Expr} {es : List Expr} {ta : TE} {t : TA} {apos pos : Pos}
def tMethT (C : Addr) (m : Str) (sp : Sp) (E : L2.St → XK) (ta : TE) (t : TA) : TE := fun σ H Q => ta σ H fun x H1 => ∃ a dx fs, x = .ref a ∧ H1 a = some (.ins C dx fs) ∧ fs.lookup m = none ∧ t σ H1 fun vs H2 => sp (x :: vs) H2 Q (E σ)
theorem pe_methT {pl : Sem Bool} (he : PE X o ta) (c : Cls X.K C) (hm : Meth X.K C m f) (F : FnOk X.prog X.w X.K X.mg X.base CX k f fd ps sp) (room : Room k X.A) (bi : Binds X.K fd ps []) (pass : ∀ σ, PassesAt CX X σ (E σ)) (ha : PA X (e :: es) t)
    (star1 : starEach (e :: es) X.env = (false, eval e X.env) :: starEach es X.env := by rfl) (plain : (backTo pos (starEach es X.env)).any (·.1) = false := by rfl) (ht : eval (.Call (.Attribute o m apos) (e :: es) [] pos) X.env = mCall o m apos (e :: es) pos X.env pl := by rfl) :
    PE X (.Call (.Attribute o m apos) (e :: es) [] pos) (tMethT C m sp E ta t) := by
  constructor
  intro pins s σ H Q I h
  apply PySem.W.methodCall_KW (pl := pl) _ ht
  apply thn (he.run pins s σ H _ I h)
  intro u s1 z
  obtain ⟨x, H1, I1, rx, a, dx, fs, ex, ea, l, q⟩ := z
  subst ex
  obtain rfl : u = Value.ref a := rx
  apply getmeth_ok I1 ea c hm l
  apply PySem.W.callWith_K (first := [.ref a]) (h₀ := X.base) I.ok.mod.kin hm.kp _ star1 plain
  apply thn (ha.run pos pins s1 σ H1 _ I1 q)
  intro us s2 z2
  obtain ⟨vs, H2, I2, r, q2⟩ := z2
  exact ⟨I2.kIn, run_fnS (us := .ref a :: us) (vs := .ref a :: vs) F room bi (pass σ) I2 (.cons rfl r) q2⟩
theorem pe_methT0 {pl : Sem Bool} (he : PE X o ta) (c : Cls X.K C) (hm : Meth X.K C m f) (F : FnOk X.prog X.w X.K X.mg X.base CX k f fd ps sp) (room : Room k X.A) (bi : Binds X.K fd ps []) (pass : ∀ σ, PassesAt CX X σ (E σ))
    (ht : eval (.Call (.Attribute o m apos) [] [] pos) X.env = mCall o m apos [] pos X.env pl := by rfl) :
    PE X (.Call (.Attribute o m apos) [] [] pos) (tMethT C m sp E ta tNil) := by
  constructor
  intro pins s σ H Q I h
  apply PySem.W.methodCall_KW (pl := pl) _ ht
  apply thn (he.run pins s σ H _ I h)
  intro u s1 z
  obtain ⟨x, H1, I1, rx, a, dx, fs, ex, ea, l, q⟩ := z
  subst ex
  obtain rfl : u = Value.ref a := rx
  apply getmeth_ok I1 ea c hm l
  exact PySem.W.callWith_K0 (first := [.ref a]) I1.kIn hm.kp (run_fnS (us := [.ref a]) (vs := [.ref a]) F room bi (pass σ) I1 (.cons rfl .nil) q)
end
end DT

namespace DT
open PySem PySem.Spec PyProof.Rows L2 TL
-- END @methT.lean
end DT
namespace DT
open PySem PySem.Spec PyProof.Rows L2
/-! ### shapes of told data -/
theorem name_strOk {z : Str} (h : nameB z = true) : PyData.strOk z = true := by
  unfold PyData.strOk
  rw [← Array.all_toList]
  rw [List.all_eq_true]
  intro c hc
  unfold nameB at h
  simp only [Bool.and_eq_true, List.all_eq_true, decide_eq_true_eq] at h
  have := h.2.2 c hc
  revert this
  have : ∀ c ∈ lets, decide (c < 1114112) = true := by decide +kernel
  exact fun q => this c q
theorem shp_strs0 : ∀ zs : List Str, (∀ z ∈ zs, nameB z = true) → PyData.canLayAll0 (zs.map PyData.str) = true ∧ PyData.depthAll (zs.map PyData.str) = 0
  | [], _ => ⟨rfl, rfl⟩
  | z :: zs, h => by
    obtain ⟨a, b⟩ := shp_strs0 zs fun y hy => h y (by simp [hy])
    exact ⟨by simp [PyData.canLayAll0, PyData.canLay0, a, name_strOk (h z (by simp))], by simp [PyData.depthAll, PyData.depth, b]⟩
theorem shp_strs {zs : List Str} (h : ∀ z ∈ zs, nameB z = true) : SeqAt.shaped (.list (zs.map PyData.str)) = true := by
  obtain ⟨a, b⟩ := shp_strs0 zs h
  unfold SeqAt.shaped
  simp [PyData.canLay0, PyData.depth, a, b]
theorem eqv_strs {zs : List Str} (h : ∀ z ∈ zs, nameB z = true) : PyData.eqv (.list (zs.map PyData.str)) (.list (zs.map PyData.str)) = true := SeqAt.eqv_refl _ (by simp [PyData.canLay0, (shp_strs0 zs h).1])
theorem bl3 : SeqAt.shaped (.list [.bool true, .bool false, .bool true]) = true := by decide
end DT
namespace DT
open PySem PySem.Spec PyProof.Rows L2
theorem plain_up : ∀ {n : Nat} {d : PyData}, Plain n d → Plain (n + 1) d := by
  intro n
  induction n with
  | zero =>
    intro d h
    cases d <;> first | trivial | exact h.elim
  | succ n ih =>
    intro d h
    cases d with
    | list ds => exact ⟨h.1, fun d hd => ih (h.2 d hd)⟩
    | tuple ds => exact ⟨h.1, fun d hd => ih (h.2 d hd)⟩
    | _ => first | trivial | exact h.elim
end DT

namespace DT
open PySem PySem.Spec PyProof.Rows L2 TL
-- END @shp.lean
end DT
namespace DT
open PySem PySem.Spec PyProof.Rows L2
/-! ### bounds: sums of fractions, for up to 24 fields -/
def units (f : Int) (n : Nat) : List Q2 := (List.range n).map fun (i : Nat) => ((1, f + (i : Int)) : Q2)
theorem units_succ (f : Int) (n : Nat) : units f (n + 1) = units f n ++ [(1, f + (n : Int))] := by
  unfold units
  rw [List.range_succ, List.map_append]
  rfl
theorem ok_n1 {n : Int} (h1 : 0 ≤ n) (h2 : n ≤ 40) : Ok 6 ((n, 1) : Q2) :=
  ⟨show (0 : Int) < 1 by decide, Bd.of (m := 60) (by show (-60 : Int) < n; omega) (by show n < 60; omega) (by decide), show Bd 6 (1 : Int) by unfold Bd; decide⟩
theorem units_len (f : Int) (n : Nat) : (units f n).length = n := by
  unfold units
  rw [List.length_map, List.length_range]
theorem units_in {f : Int} {n : Nat} {x : Q2} (hf : 1 ≤ f) (hf2 : f ≤ 30) (hn : n ≤ 30) (h : x ∈ units f n) : Ok 200 x ∧ Low x.1 x.2 := by
  unfold units at h
  obtain ⟨i, hi, rfl⟩ := List.mem_map.1 h
  have hi := List.mem_range.1 hi
  exact ⟨⟨by show (0 : Int) < f + i; omega, show Bd 200 (1 : Int) by unfold Bd; decide +kernel, Bd.of (m := 100) (by show (-100 : Int) < f + i; omega) (by show f + (i : Int) < 100; omega) (by decide +kernel)⟩, by show (0 : Int) < f + i; omega, Int.one_gcd⟩
def usum (f l : Int) : Q2 := sumP (units f (l + 1 - f).toNat)
def sp_unit (K : PySem.W.Frag) : Sp := fun vs H Q _ => ∃ f l : Int, vs = [.int f, .int l] ∧ (1 ≤ f ∧ f ≤ 30) ∧ (0 ≤ l ∧ l ≤ 24) ∧ ∀ H' r, Same H H' → Pp K H' r (usum f l) → Ok 6300 (usum f l) → Low (usum f l).1 (usum f l).2 → Q r H'
/-- a def of one number n from 1 to 24 that hands back the pair f n -/
def sp_of (K : PySem.W.Frag) (f : Int → Q2) : Sp := fun vs H Q _ => ∃ n : Int, vs = [.int n] ∧ (1 ≤ n ∧ n ≤ 24) ∧ ∀ H' r, Same H H' → Pp K H' r (f n) → Ok 6300 (f n) → Low (f n).1 (f n).2 → Q r H'
def behindM (n : Int) : Q2 := usum 2 n
def beforeM (n : Int) : Q2 := lowP (n - 1) n
def mostM (n k : Int) : Q2 := mulP (k, 1) (usum (k + 1) n)
def lmostF (k : Int) : Nat → Q2
  | 0 => (0, 1)
  | i + 1 => addP (lmostF k i) (k, k + 1 + (i : Int))
def lmost (n k : Int) : Q2 := lmostF k (n + 1 - (k + 1)).toNat
theorem lmost_ok {k : Int} (h1 : 1 ≤ k) (h2 : k ≤ 24) : ∀ i : Nat, i ≤ 30 → Ok (7 * (i + 1)) (lmostF k i)
  | 0, _ => (⟨by decide, by unfold Bd; decide, by unfold Bd; decide⟩ : Ok 7 ((0, 1) : Q2))
  | i + 1, h => by
    have ih := lmost_ok h1 h2 i (by omega)
    have o : Ok 6 ((k, k + 1 + (i : Int)) : Q2) := ⟨by show (0 : Int) < k + 1 + i; omega, Bd.of (m := 60) (by show (-60 : Int) < k; omega) (by show k < 60; omega) (by decide), Bd.of (m := 60) (by show (-60 : Int) < k + 1 + i; omega) (by show k + 1 + (i : Int) < 60; omega) (by decide)⟩
    exact (addP_ok ih o).mono (by omega)
end DT

namespace DT
open PySem PySem.Spec PyProof.Rows L2 TL
-- END @bounds.lean
end DT
namespace DT
/-! ### the greatest of a list, by what they are worth -/
def Desc (l : List Rat) : Prop := l.Pairwise (fun a b => b ≤ a)
theorem rsum_perm {l m : List Rat} (h : l.Perm m) : rsum l = rsum m := by
  induction h with
  | nil => rfl
  | cons a _ ih => rw [rsum_cons, rsum_cons, ih]
  | swap a b l => rw [rsum_cons, rsum_cons, rsum_cons, rsum_cons]; grind
  | trans _ _ h1 h2 => rw [h1, h2]
theorem take_le {a : Rat} {s : List Rat} (h : Desc (a :: s)) : ∀ k, k ≤ s.length → rsum (s.take k) ≤ rsum ((a :: s).take k) := by
  intro k
  induction k with
  | zero => intro _; exact Rat.le_refl
  | succ k _ =>
    intro hk
    have hm : s[k]? = some s[k] := List.getElem?_eq_getElem hk
    have h1 : s.take (k + 1) = s.take k ++ [s[k]] := by
      rw [List.take_add_one, hm]
      rfl
    have h2 : s[k] ≤ a := (List.pairwise_cons.1 h).1 _ (List.getElem_mem hk)
    rw [h1, rsum_app, List.take_succ_cons, rsum_cons, rsum_cons, rsum_nil]
    grind
/-- no part of a list is worth more than as many of the greatest -/
theorem top_le : ∀ (s l1 l2 : List Rat), Desc s → (l1 ++ l2).Perm s → rsum l1 ≤ rsum (s.take l1.length)
  | [], l1, l2, _, h => by
    have : l1 = [] := by
      have := h.length_eq
      simp only [List.length_append, List.length_nil] at this
      exact List.length_eq_zero_iff.1 (by omega)
    rw [this]
    exact Rat.le_refl
  | a :: s, l1, l2, hs, h => by
    have hs' : Desc s := (List.pairwise_cons.1 hs).2
    have ha : a ∈ l1 ++ l2 := h.mem_iff.2 List.mem_cons_self
    rcases List.mem_append.1 ha with h1 | h2
    · have p1 := List.perm_cons_erase h1
      have p2 : (l1.erase a ++ l2).Perm s := by
        have : (a :: (l1.erase a ++ l2)).Perm (a :: s) := by
          rw [← List.cons_append]
          exact (p1.symm.append_right l2).trans h
        exact this.cons_inv
      have ih := top_le s (l1.erase a) l2 hs' p2
      have hl : l1.length = (l1.erase a).length + 1 := by
        have := p1.length_eq
        simpa using this
      rw [rsum_perm p1, rsum_cons, hl, List.take_succ_cons, rsum_cons]
      grind
    · have p1 := List.perm_cons_erase h2
      have p2 : (l1 ++ l2.erase a).Perm s := by
        have : (a :: (l1 ++ l2.erase a)).Perm (a :: s) := by
          refine List.Perm.trans ?_ h
          exact (List.perm_middle.symm).trans (p1.symm.append_left l1)
        exact this.cons_inv
      have ih := top_le s l1 (l2.erase a) hs' p2
      have hl : l1.length ≤ s.length := by
        have := p2.length_eq
        simp only [List.length_append] at this
        omega
      exact Rat.le_trans ih (take_le hs _ hl)
/-! ### the bounds -/
/-- 1/(k + 1) + .. + 1/n -/
def hs (n : Nat) : Nat → Rat
  | 0 => 0
  | i + 1 => 1 / ((n - i : Nat) : Rat) + hs n i
/-- from k + 1 to n: the last n - k terms -/
def hk (n k : Nat) : Rat := hs n (n - k)
theorem hk_step {n k : Nat} (h : k < n) : hk n k = 1 / ((k + 1 : Nat) : Rat) + hk n (k + 1) := by
  unfold hk
  rw [show n - k = (n - (k + 1)) + 1 by omega]
  show 1 / ((n - (n - (k + 1)) : Nat) : Rat) + hs n (n - (k + 1)) = _
  rw [show n - (n - (k + 1)) = k + 1 by omega]
theorem hk_self (n : Nat) : hk n n = 0 := by
  unfold hk
  rw [Nat.sub_self]
  rfl
/-- the sums of any k are within the bound, and none is too low -/
structure KeepsL (l : List Rat) : Prop where
  top : ∀ l1 l2, (l1 ++ l2).Perm l → 1 ≤ l1.length → rsum l1 ≤ (l1.length : Rat) * hk l.length l1.length
  low : ∀ a ∈ l, 1 / (l.length : Rat) - 1 ≤ a
theorem rsum_le {l : List Rat} {c : Rat} (h : ∀ a ∈ l, a ≤ c) : rsum l ≤ (l.length : Rat) * c := by
  induction l with
  | nil => show (0 : Rat) ≤ ((0 : Nat) : Rat) * c; grind
  | cons a l ih =>
    have h1 := h a List.mem_cons_self
    have h2 := ih fun b hb => h b (List.mem_cons_of_mem _ hb)
    rw [rsum_cons, List.length_cons]
    have e : ((l.length + 1 : Nat) : Rat) = (l.length : Rat) + 1 := by simp
    rw [e]
    grind
theorem rsum_nonneg {l : List Rat} (h : ∀ a ∈ l, 0 ≤ a) : 0 ≤ rsum l := by
  induction l with
  | nil => exact Rat.le_refl
  | cons a l ih =>
    have h1 := h a List.mem_cons_self
    have h2 := ih fun b hb => h b (List.mem_cons_of_mem _ hb)
    rw [rsum_cons]
    grind
theorem rsum_map_add {α : Type} (l : List α) (f g : α → Rat) : rsum (l.map fun x => f x + g x) = rsum (l.map f) + rsum (l.map g) := by
  induction l with
  | nil => show (0 : Rat) = 0 + 0; grind
  | cons a l ih => rw [List.map_cons, List.map_cons, List.map_cons, rsum_cons, rsum_cons, rsum_cons, ih]; grind
theorem perm_lift {α β : Type} (f : α → β) : ∀ {m l : List β}, m.Perm l → ∀ p : List α, p.map f = l → ∃ q : List α, q.Perm p ∧ q.map f = m := by
  intro m l h
  induction h with
  | nil => intro p hp; exact ⟨p, List.Perm.refl _, hp⟩
  | cons a _ ih =>
    intro p hp
    cases p with
    | nil => cases hp
    | cons b p =>
      rw [List.map_cons] at hp
      obtain ⟨e1, e2⟩ := List.cons.inj hp
      obtain ⟨q, h1, h2⟩ := ih p e2
      exact ⟨b :: q, h1.cons b, by rw [List.map_cons, e1, h2]⟩
  | swap a b l =>
    intro p hp
    match p, hp with
    | c :: d :: p, hp =>
      rw [List.map_cons, List.map_cons] at hp
      obtain ⟨e1, e2⟩ := List.cons.inj hp
      obtain ⟨e3, e4⟩ := List.cons.inj e2
      exact ⟨d :: c :: p, List.Perm.swap _ _ _, by rw [List.map_cons, List.map_cons, e1, e3, e4]⟩
  | trans _ _ h1 h2 =>
    intro p hp
    obtain ⟨q, k1, k2⟩ := h2 p hp
    obtain ⟨r, k3, k4⟩ := h1 q k2
    exact ⟨r, k3.trans k1, k4⟩
/-- one hour: R the others (lag, share), (a, s) the one whose turn it is -/
theorem hour_keeps (a s : Rat) (R : List (Rat × Rat)) (hs0 : 0 ≤ s) (hR : ∀ x ∈ R, 0 ≤ x.2) (h1 : s + rsum (R.map (·.2)) = 1) (h0 : a + rsum (R.map (·.1)) = 0)
    (hmax : ∀ x ∈ R, x.1 + x.2 ≤ a + s) (hk' : KeepsL (a :: R.map (·.1))) : KeepsL ((a + s - 1) :: R.map fun x => x.1 + x.2) := by
  have len : ((a + s - 1) :: R.map fun x => x.1 + x.2).length = R.length + 1 := by rw [List.length_cons, List.length_map]
  have len2 : (a :: R.map (·.1)).length = R.length + 1 := by rw [List.length_cons, List.length_map]
  have sub : ∀ A B : List (Rat × Rat), (A ++ B).Perm R → rsum (A.map (·.2)) ≤ rsum (R.map (·.2)) := by
    intro A B h
    have e := rsum_perm (h.map (·.2))
    rw [List.map_append, rsum_app] at e
    have : 0 ≤ rsum (B.map (·.2)) := rsum_nonneg fun x hx => by
      obtain ⟨y, hy, rfl⟩ := List.mem_map.1 hx
      exact hR y (h.mem_iff.1 (List.mem_append.2 (.inr hy)))
    grind
  refine ⟨fun l1 l2 h hl => ?_, fun z hz => ?_⟩
  · rw [len]
    have hm : (a + s - 1) ∈ l1 ++ l2 := h.mem_iff.2 List.mem_cons_self
    by_cases hin : (a + s - 1) ∈ l1
    · -- the marked one may be taken to stand in l1
      have p1 := List.perm_cons_erase hin
      have p2 : (l1.erase (a + s - 1) ++ l2).Perm (R.map fun x => x.1 + x.2) := by
        have : ((a + s - 1) :: (l1.erase (a + s - 1) ++ l2)).Perm ((a + s - 1) :: R.map fun x => x.1 + x.2) := by
          rw [← List.cons_append]
          exact (p1.symm.append_right l2).trans h
        exact this.cons_inv
      obtain ⟨q, hq, eq⟩ := perm_lift (fun x : Rat × Rat => x.1 + x.2) p2 R rfl
      obtain ⟨A, B, rfl, eA, eB⟩ := List.map_eq_append_iff.1 eq
      have hA : l1.length = A.length + 1 := by
        have := p1.length_eq
        rw [List.length_cons, ← eA, List.length_map] at this
        exact this
      have hx := hk'.top (a :: A.map (·.1)) (B.map (·.1)) (by
        rw [List.cons_append, ← List.map_append]
        exact (hq.map _).cons a) (by simp)
      rw [len2, List.length_cons, List.length_map, rsum_cons] at hx
      have hs2 := sub A B hq
      have e1 : rsum l1 = (a + s - 1) + (rsum (A.map (·.1)) + rsum (A.map (·.2))) := by
        rw [rsum_perm p1, rsum_cons, ← eA, rsum_map_add]
      rw [e1, hA]
      grind
    · have hin2 : (a + s - 1) ∈ l2 := by
        rcases List.mem_append.1 hm with z | z
        · exact absurd z hin
        · exact z
      have p1 := List.perm_cons_erase hin2
      have p2 : (l1 ++ l2.erase (a + s - 1)).Perm (R.map fun x => x.1 + x.2) := by
        have : ((a + s - 1) :: (l1 ++ l2.erase (a + s - 1))).Perm ((a + s - 1) :: R.map fun x => x.1 + x.2) := by
          refine List.Perm.trans ?_ h
          exact (List.perm_middle.symm).trans (p1.symm.append_left l1)
        exact this.cons_inv
      obtain ⟨q, hq, eq⟩ := perm_lift (fun x : Rat × Rat => x.1 + x.2) p2 R rfl
      obtain ⟨A, B, rfl, eA, eB⟩ := List.map_eq_append_iff.1 eq
      have hA : l1.length = A.length := by rw [← eA, List.length_map]
      have hAR : A.length < R.length + 1 := by
        have := hq.length_eq
        rw [List.length_append] at this
        omega
      have hx := hk'.top (a :: A.map (·.1)) (B.map (·.1)) (by
        rw [List.cons_append, ← List.map_append]
        exact (hq.map _).cons a) (by simp)
      rw [len2, List.length_cons, List.length_map, rsum_cons] at hx
      have hs2 := sub A B hq
      have e1 : rsum l1 = rsum (A.map (·.1)) + rsum (A.map (·.2)) := by rw [← eA, rsum_map_add]
      have hle : rsum l1 ≤ (A.length : Rat) * (a + s) := by
        have := rsum_le (l := A.map fun x => x.1 + x.2) (c := a + s) fun z hz => by
          obtain ⟨y, hy, rfl⟩ := List.mem_map.1 hz
          exact hmax y (hq.mem_iff.1 (List.mem_append.2 (.inl hy)))
        rw [← eA]
        rw [List.length_map] at this
        exact this
      rw [hA, hk_step hAR]
      have ec : ((A.length + 1 : Nat) : Rat) = (A.length : Rat) + 1 := by simp
      rw [ec] at hx ⊢
      have hk0 : (0 : Rat) ≤ (A.length : Rat) := Rat.intCast_nonneg.2 (Int.natCast_nonneg A.length)
      generalize hk (R.length + 1) (A.length + 1) = hh at hx ⊢
      generalize (A.length : Rat) = k at hx hle hk0 ⊢
      generalize rsum l1 = S at e1 hle ⊢
      -- (k + 1) S = k S + S ≤ k S + k (a + s) = k (S + a + s) ≤ k ((k + 1) hh + 1)
      have e2 : S + (a + s) ≤ (k + 1) * hh + 1 := by grind
      have e3 : k * (S + (a + s)) ≤ k * ((k + 1) * hh + 1) := Rat.mul_le_mul_of_nonneg_left e2 hk0
      have kp : (0 : Rat) < k + 1 := by grind
      have e4 : (k + 1) * S ≤ (k + 1) * (k * (1 / (k + 1) + hh)) := by
        have : (k + 1) * (k * (1 / (k + 1) + hh)) = k * ((k + 1) * hh + 1) := by grind
        rw [this]
        grind
      exact Rat.not_lt.1 fun h => absurd e4 (Rat.not_le.2 (Rat.mul_lt_mul_of_pos_left h kp))
  · rw [len]
    rcases List.mem_cons.1 hz with e | hz
    · rw [e]
      have hle : rsum (R.map fun x => x.1 + x.2) ≤ (R.length : Rat) * (a + s) := by
        have := rsum_le (l := R.map fun x => x.1 + x.2) (c := a + s) fun z hz => by
          obtain ⟨y, hy, rfl⟩ := List.mem_map.1 hz
          exact hmax y hy
        rw [List.length_map] at this
        exact this
      rw [rsum_map_add] at hle
      have ec : ((R.length + 1 : Nat) : Rat) = (R.length : Rat) + 1 := by simp
      rw [ec]
      have hk0 : (0 : Rat) ≤ (R.length : Rat) := Rat.intCast_nonneg.2 (Int.natCast_nonneg R.length)
      generalize (R.length : Rat) = k at hle hk0 ⊢
      have kp : (0 : Rat) < k + 1 := by grind
      have e5 : (1 : Rat) ≤ (a + s) * (k + 1) := by grind
      have e6 : 1 / (k + 1) ≤ a + s := by
        exact Rat.not_lt.1 fun h => absurd e5 (Rat.not_le.2 ((Rat.lt_div_iff kp).1 h))
      grind
    · obtain ⟨y, hy, rfl⟩ := List.mem_map.1 hz
      have h2 := hk'.low y.1 (List.mem_cons_of_mem _ (List.mem_map.2 ⟨y, hy, rfl⟩))
      rw [len2] at h2
      have h3 := hR y hy
      grind
end DT

namespace DT
open PySem PySem.Spec PyProof.Rows L2 TL
-- END @keeps.lean
end DT
namespace DT
/-! ### the falling row -/
theorem first_max {xs : List Q2} (hp : AllPos xs) : ∀ i, i ≤ xs.length → ∀ j, j < i → val (itemP xs j) ≤ val (itemP xs (firstF xs i))
  | 0, _, j, hj => absurd hj (by omega)
  | i + 1, hi, j, hj => by
    have ih := first_max hp i (by omega)
    have hf := firstF_lt xs i
    have pos : ∀ k, k < xs.length → 0 < (itemP xs k).2 := fun k hk => hp _ (List.mem_of_getElem? (item_some hk))
    have p1 := pos (firstF xs i) (by omega)
    have p2 := pos i (by omega)
    show _ ≤ val (itemP xs (if lessP (itemP xs (firstF xs i)) (itemP xs i) = true then i else firstF xs i))
    by_cases h : lessP (itemP xs (firstF xs i)) (itemP xs i) = true
    · rw [if_pos h]
      have h1 := (lessP_iff p1 p2).1 h
      by_cases hji : j = i
      · rw [hji]
        exact Rat.le_refl
      · exact Rat.le_trans (ih j (by omega)) (Rat.le_of_lt h1)
    · rw [if_neg h]
      by_cases hji : j = i
      · rw [hji]
        exact Rat.not_lt.1 fun h1 => h ((lessP_iff p1 p2).2 h1)
      · exact ih j (by omega)
theorem firstM_max {xs : List Q2} (hp : AllPos xs) {x : Q2} (hx : x ∈ xs) : val x ≤ val (itemP xs (firstM xs)) := by
  obtain ⟨j, hj, e⟩ := List.mem_iff_getElem.1 hx
  have := first_max hp xs.length (Nat.le_refl _) j hj
  have e2 : itemP xs j = x := by
    have := item_some hj
    rw [List.getElem?_eq_getElem hj, e] at this
    exact (Option.some.inj this).symm
  rw [e2] at this
  exact this
def fallF : Nat → List Q2 → List Q2
  | 0, _ => []
  | i + 1, xs => match xs with
    | [] => []
    | _ => itemP xs (firstM xs) :: fallF i (xs.eraseIdx (firstM xs))
def fallM (xs : List Q2) : List Q2 := fallF xs.length xs
theorem fall_nil : fallM [] = [] := rfl
theorem fall_step {xs : List Q2} (h : 0 < xs.length) : fallM xs = itemP xs (firstM xs) :: fallM (xs.eraseIdx (firstM xs)) := by
  have hl : (xs.eraseIdx (firstM xs)).length = xs.length - 1 := by
    rw [List.length_eraseIdx]
    rw [if_pos (firstM_lt h)]
  unfold fallM
  rw [hl]
  cases xs with
  | nil => cases h
  | cons x r => rfl
theorem erase_at {α : Type} : ∀ (xs : List α) (i : Nat) (h : i < xs.length), (xs[i] :: xs.eraseIdx i).Perm xs
  | x :: xs, 0, _ => List.Perm.refl _
  | x :: xs, i + 1, h => by
    have ih := erase_at xs i (by simpa using h)
    show (xs[i]'(by simpa using h) :: x :: xs.eraseIdx i).Perm (x :: xs)
    exact (List.Perm.swap _ _ _).trans (ih.cons x)
theorem erase_perm {xs : List Q2} (h : 0 < xs.length) : (itemP xs (firstM xs) :: xs.eraseIdx (firstM xs)).Perm xs := by
  have hf := firstM_lt h
  have e : itemP xs (firstM xs) = xs[firstM xs] := by
    have := item_some hf
    rw [List.getElem?_eq_getElem hf] at this
    exact (Option.some.inj this).symm
  rw [e]
  exact erase_at xs _ hf
theorem fall_all : ∀ (n : Nat) (xs : List Q2), xs.length = n → AllPos xs → (fallM xs).Perm xs ∧ Desc ((fallM xs).map val) := by
  intro n
  induction n with
  | zero =>
    intro xs hl _
    rw [List.length_eq_zero_iff.1 hl]
    exact ⟨List.Perm.refl _, List.Pairwise.nil⟩
  | succ n ih =>
    intro xs hl hp
    have h0 : 0 < xs.length := by omega
    have hf := firstM_lt h0
    have pe := erase_perm h0
    have hl2 : (xs.eraseIdx (firstM xs)).length = n := by
      rw [List.length_eraseIdx, if_pos hf]
      omega
    have hp2 : AllPos (xs.eraseIdx (firstM xs)) := fun x hx => hp x (pe.mem_iff.1 (List.mem_cons_of_mem _ hx))
    obtain ⟨h1, h2⟩ := ih _ hl2 hp2
    rw [fall_step h0]
    refine ⟨(h1.cons _).trans pe, ?_⟩
    rw [List.map_cons]
    refine List.pairwise_cons.2 ⟨fun b hb => ?_, h2⟩
    obtain ⟨y, hy, rfl⟩ := List.mem_map.1 hb
    exact firstM_max hp (pe.mem_iff.1 (List.mem_cons_of_mem _ (h1.mem_iff.1 hy)))
theorem fall_len {xs : List Q2} (hp : AllPos xs) : (fallM xs).length = xs.length := (fall_all _ xs rfl hp).1.length_eq
theorem fall_ok {n : Nat} {xs : List Q2} (h : AllOk n xs) : AllOk n (fallM xs) := fun x hx => h x ((fall_all _ xs rfl h.pos).1.mem_iff.1 hx)
/-! ### the bounds as the law tests them -/
def bndF (n : Nat) : Nat → Q2
  | 0 => (0, 1)
  | i + 1 => addP (bndF n i) (1, ((n - i : Nat) : Int))
theorem bnd_val {n : Nat} : ∀ i, i ≤ n → val (bndF n i) = hs n i ∧ 0 < (bndF n i).2
  | 0, _ => ⟨val_zero', (by decide : (0 : Int) < 1)⟩
  | i + 1, h => by
    obtain ⟨e, p⟩ := bnd_val (n := n) i (by omega)
    have p2 : 0 < (((1, ((n - i : Nat) : Int)) : Q2)).2 := by show (0 : Int) < ((n - i : Nat) : Int); omega
    refine ⟨?_, (addP_low p p2).pos⟩
    show val (addP (bndF n i) (1, ((n - i : Nat) : Int))) = 1 / ((n - i : Nat) : Rat) + hs n i
    rw [val_add p p2, e]
    have : val ((1, ((n - i : Nat) : Int)) : Q2) = 1 / ((n - i : Nat) : Rat) := by
      unfold val
      show ((1 : Int) : Rat) / (((n - i : Nat) : Int) : Rat) = _
      rw [Rat.intCast_one]
      rfl
    rw [this]
    exact Rat.add_comm _ _
def okAt (xs : List Q2) (i : Nat) : Bool :=
  !(lessP (mulP (bndF xs.length (xs.length - (i + 1))) (((i + 1 : Nat) : Int), 1)) (sumP ((fallM xs).take (i + 1)))) && !(lessP (itemP (fallM xs) i) (1 - (xs.length : Int), (xs.length : Int)))
def keepsB (xs : List Q2) : Bool := (List.range xs.length).all (okAt xs)
theorem take_pos {xs : List Q2} (h : AllPos xs) (k : Nat) : AllPos (xs.take k) := fun x hx => h x (List.mem_of_mem_take hx)
theorem okAt_iff {xs : List Q2} (hp : AllPos xs) {i : Nat} (hi : i < xs.length) : okAt xs i = true ↔ rsum (((fallM xs).map val).take (i + 1)) ≤ ((i + 1 : Nat) : Rat) * hk xs.length (i + 1) ∧ 1 / (xs.length : Rat) - 1 ≤ val (itemP (fallM xs) i) := by
  have hn : (0 : Int) < (xs.length : Int) := by omega
  obtain ⟨perm, _⟩ := fall_all _ xs rfl hp
  have hpf : AllPos (fallM xs) := fun x hx => hp x (perm.mem_iff.1 hx)
  have hfl := fall_len hp
  obtain ⟨eb, pb⟩ := bnd_val (n := xs.length) (xs.length - (i + 1)) (by omega)
  have p1 : 0 < ((((i + 1 : Nat) : Int), 1) : Q2).2 := (by decide : (0 : Int) < 1)
  have pm : 0 < (mulP (bndF xs.length (xs.length - (i + 1))) (((i + 1 : Nat) : Int), 1)).2 := (lowP_low (Int.mul_pos pb p1)).pos
  have ps : 0 < (sumP ((fallM xs).take (i + 1))).2 := (fold_worth _ (0, 1) (by decide) (take_pos hpf _)).2
  have pi : 0 < (itemP (fallM xs) i).2 := hpf _ (List.mem_of_getElem? (item_some (by omega)))
  have vm : val (mulP (bndF xs.length (xs.length - (i + 1))) (((i + 1 : Nat) : Int), 1)) = ((i + 1 : Nat) : Rat) * hk xs.length (i + 1) := by
    rw [val_mul pb p1, eb]
    have : val ((((i + 1 : Nat) : Int), 1) : Q2) = ((i + 1 : Nat) : Rat) := by
      unfold val
      show (((i + 1 : Nat) : Int) : Rat) / ((1 : Int) : Rat) = _
      rw [Rat.intCast_one]
      show ((i + 1 : Nat) : Rat) / 1 = _
      grind
    rw [this]
    exact Rat.mul_comm _ _
  have vs : val (sumP ((fallM xs).take (i + 1))) = rsum (((fallM xs).map val).take (i + 1)) := by
    rw [sumP_worth (take_pos hpf _)]
    unfold worth
    rw [List.map_take]
  have vl : val ((1 - (xs.length : Int), (xs.length : Int)) : Q2) = 1 / (xs.length : Rat) - 1 := by
    unfold val
    show ((1 - (xs.length : Int) : Int) : Rat) / ((xs.length : Int) : Rat) = _
    have h1 := r_ne hn
    have e1 : ((xs.length : Int) : Rat) = (xs.length : Rat) := rfl
    rw [Rat.intCast_sub, Rat.intCast_one, e1]
    rw [e1] at h1
    grind
  unfold okAt
  rw [Bool.and_eq_true, Bool.not_eq_true', Bool.not_eq_true', ← Bool.not_eq_true, ← Bool.not_eq_true, lessP_iff pm ps, lessP_iff pi hn, vm, vs, vl, Rat.not_lt, Rat.not_lt]
theorem keepsB_iff {xs : List Q2} (hp : AllPos xs) : keepsB xs = true ↔ KeepsL (xs.map val) := by
  obtain ⟨perm, desc⟩ := fall_all _ xs rfl hp
  have hfl := fall_len hp
  have hml : (xs.map val).length = xs.length := List.length_map _
  have pv := perm.map val
  unfold keepsB
  rw [List.all_eq_true]
  constructor
  · intro h
    have h' : ∀ i, i < xs.length → _ := fun i hi => (okAt_iff hp hi).1 (h i (List.mem_range.2 hi))
    refine ⟨fun l1 l2 hq hl => ?_, fun a ha => ?_⟩
    · have hle := top_le _ l1 l2 desc (hq.trans pv.symm)
      have hl2 : l1.length ≤ xs.length := by
        have := hq.length_eq
        rw [List.length_append, hml] at this
        omega
      obtain ⟨k, ek⟩ : ∃ k, l1.length = k + 1 := ⟨l1.length - 1, by omega⟩
      have h2 := (h' k (by omega)).1
      rw [ek] at hle hl2 ⊢
      rw [hml]
      exact Rat.le_trans hle h2
    · obtain ⟨x, hx, rfl⟩ := List.mem_map.1 ha
      obtain ⟨i, hi, e⟩ := List.mem_iff_getElem.1 (perm.mem_iff.2 hx)
      have h2 := (h' i (by omega)).2
      have e2 : itemP (fallM xs) i = x := by
        have := item_some hi
        rw [List.getElem?_eq_getElem hi, e] at this
        exact (Option.some.inj this).symm
      rw [e2] at h2
      rw [hml]
      exact h2
  · intro h i hi
    have hi := List.mem_range.1 hi
    refine (okAt_iff hp hi).2 ⟨?_, ?_⟩
    · have ht := h.top (((fallM xs).map val).take (i + 1)) (((fallM xs).map val).drop (i + 1)) (by rw [List.take_append_drop]; exact pv) (by rw [List.length_take, List.length_map]; omega)
      have el : (((fallM xs).map val).take (i + 1)).length = i + 1 := by
        rw [List.length_take, List.length_map]
        omega
      rw [el, hml] at ht
      exact ht
    · have hm : itemP (fallM xs) i ∈ fallM xs := List.mem_of_getElem? (item_some (by omega))
      have := h.low (val (itemP (fallM xs) i)) (List.mem_map.2 ⟨_, perm.mem_iff.1 hm, rfl⟩)
      rw [hml] at this
      exact this
/-! ### one hour, and a nought put in -/
theorem perm_set {α : Type} : ∀ (l : List α) (i : Nat) (y : α), i < l.length → (l.set i y).Perm (y :: l.eraseIdx i)
  | x :: l, 0, y, _ => List.Perm.refl _
  | x :: l, i + 1, y, h => by
    have ih := perm_set l i y (by simpa using h)
    show (x :: l.set i y).Perm (y :: x :: l.eraseIdx i)
    exact (ih.cons x).trans (List.Perm.swap _ _ _)
theorem KeepsL.perm {l m : List Rat} (h : KeepsL l) (p : l.Perm m) : KeepsL m := by
  have e := p.length_eq
  refine ⟨fun l1 l2 hq hl => ?_, fun a ha => ?_⟩
  · rw [← e]
    exact h.top l1 l2 (hq.trans p.symm) hl
  · rw [← e]
    exact h.low a (p.mem_iff.2 ha)
/-- the list of lags and shares, zipped, as values -/
theorem zip_vals : ∀ (xs ys : List Q2), xs.length = ys.length → AllPos xs → AllPos ys → (List.zipWith addP xs ys).map val = (List.zip (xs.map val) (ys.map val)).map fun p => p.1 + p.2
  | [], [], _, _, _ => rfl
  | x :: xs, y :: ys, h, hx, hy => by
    rw [List.zipWith_cons_cons, List.map_cons, List.map_cons, List.map_cons, List.zip_cons_cons, List.map_cons,
      zip_vals xs ys (by simpa using h) (fun z hz => hx z (List.mem_cons_of_mem _ hz)) (fun z hz => hy z (List.mem_cons_of_mem _ hz)), val_add (hx x List.mem_cons_self) (hy y List.mem_cons_self)]
theorem erase_map {α β : Type} (f : α → β) : ∀ (l : List α) (i : Nat), (l.map f).eraseIdx i = (l.eraseIdx i).map f
  | [], _ => rfl
  | x :: l, 0 => rfl
  | x :: l, i + 1 => by
    show f x :: (l.map f).eraseIdx i = f x :: (l.eraseIdx i).map f
    rw [erase_map f l i]
theorem hour_keepsB {n m : Nat} {xs ys : List Q2} (hx : AllOk n xs) (hy : AllOk m ys) (hl : xs.length = ys.length) (h0 : 0 < xs.length) (hz : worth xs = 0) (h1 : worth ys = 1) (hn : ∀ y ∈ ys, 0 ≤ val y) (hk' : keepsB xs = true) : keepsB (hourM xs ys).2 = true := by
  have hho := hour_ok hx hy hl h0
  have kx := (keepsB_iff hx.pos).1 hk'
  refine (keepsB_iff hho.1.pos).2 ?_
  have oz := zip_ok hx hy
  have lz : (List.zipWith addP xs ys).length = xs.length := by rw [List.length_zipWith]; omega
  have hf := firstM_lt (xs := List.zipWith addP xs ys) (by omega)
  obtain ⟨f, ef⟩ : ∃ f, f = firstM (List.zipWith addP xs ys) := ⟨_, rfl⟩
  -- the pairs (lag, share)
  obtain ⟨Z, eZ⟩ : ∃ Z, Z = List.zip (xs.map val) (ys.map val) := ⟨_, rfl⟩
  have lZ : Z.length = xs.length := by
    rw [eZ, List.length_zip, List.length_map, List.length_map]
    omega
  have hfZ : f < Z.length := by rw [ef]; omega
  have zv := zip_vals xs ys hl hx.pos hy.pos
  have Zf : Z.map (·.1) = xs.map val := by rw [eZ]; exact List.map_fst_zip (by rw [List.length_map, List.length_map]; omega)
  have Zs : Z.map (·.2) = ys.map val := by rw [eZ]; exact List.map_snd_zip (by rw [List.length_map, List.length_map]; omega)
  have pz := erase_at Z f hfZ
  have e1 : rsum (Z.map (·.1)) = 0 := by rw [Zf]; exact hz
  have e2 : rsum (Z.map (·.2)) = 1 := by rw [Zs]; exact h1
  rw [← rsum_perm (pz.map (·.1)), List.map_cons, rsum_cons] at e1
  rw [← rsum_perm (pz.map (·.2)), List.map_cons, rsum_cons] at e2
  have nn : ∀ x ∈ Z, 0 ≤ x.2 := fun x hx' => by
    have : x.2 ∈ Z.map (·.2) := List.mem_map.2 ⟨x, hx', rfl⟩
    rw [Zs] at this
    obtain ⟨y, hy', e⟩ := List.mem_map.1 this
    rw [← e]
    exact hn y hy'
  have vi : val (itemP (List.zipWith addP xs ys) f) = Z[f].1 + Z[f].2 := by
    have h3 : ((List.zipWith addP xs ys).map val)[f]? = some (val (itemP (List.zipWith addP xs ys) f)) := by
      rw [List.getElem?_map, item_some (by rw [ef]; exact hf)]
      rfl
    rw [zv, ← eZ, List.getElem?_map, List.getElem?_eq_getElem hfZ] at h3
    exact (Option.some.inj h3).symm
  have hmax : ∀ x ∈ Z.eraseIdx f, x.1 + x.2 ≤ Z[f].1 + Z[f].2 := fun x hx' => by
    have hm : x ∈ Z := pz.mem_iff.1 (List.mem_cons_of_mem _ hx')
    have h3 : x.1 + x.2 ∈ (List.zipWith addP xs ys).map val := by
      rw [zv, ← eZ]
      exact List.mem_map.2 ⟨x, hm, rfl⟩
    obtain ⟨y, hy', e⟩ := List.mem_map.1 h3
    rw [← e, ← vi, ef]
    exact firstM_max oz.pos hy'
  have kz : KeepsL (Z[f].1 :: (Z.eraseIdx f).map (·.1)) := by
    have : (Z.map (·.1)).Perm (Z[f].1 :: (Z.eraseIdx f).map (·.1)) := by
      rw [← List.map_cons]
      exact (pz.map (·.1)).symm
    rw [Zf] at this
    exact kx.perm this
  have key := hour_keeps Z[f].1 Z[f].2 (Z.eraseIdx f) (nn _ (List.getElem_mem hfZ)) (fun x hx' => nn x (pz.mem_iff.1 (List.mem_cons_of_mem _ hx'))) e2 e1 hmax kz
  refine key.perm ?_
  -- the told lags are these
  have oi := item_ok oz hf
  have e5 : (hourM xs ys).2.map val = (Z.map fun p => p.1 + p.2).set f (Z[f].1 + Z[f].2 - 1) := by
    show ((List.zipWith addP xs ys).set (firstM (List.zipWith addP xs ys)) (subP (itemP (List.zipWith addP xs ys) (firstM (List.zipWith addP xs ys))) (1, 1))).map val = _
    rw [List.map_set, zv, ← eZ, ← ef, val_sub (by rw [ef]; exact oi.1.pos) ok11.pos, val_one, vi]
  rw [e5]
  have p6 := perm_set (Z.map fun p => p.1 + p.2) f (Z[f].1 + Z[f].2 - 1) (by rw [List.length_map]; exact hfZ)
  refine List.Perm.trans ?_ p6.symm
  rw [erase_map]
theorem hk_facts : ∀ n : Nat, n < 24 → ∀ k : Nat, k ≤ n → (k : Rat) * hk n k ≤ ((k + 1 : Nat) : Rat) * hk (n + 1) (k + 1) ∧ (k : Rat) * hk n k ≤ (k : Rat) * hk (n + 1) k := by decide +kernel
theorem nought_keeps {l : List Rat} (h : KeepsL l) (hl : l.length < 24) (h1 : 1 ≤ l.length) : KeepsL (0 :: l) := by
  refine ⟨fun l1 l2 hq hl1 => ?_, fun a ha => ?_⟩
  · rw [List.length_cons]
    have hm : (0 : Rat) ∈ l1 ++ l2 := hq.mem_iff.2 List.mem_cons_self
    by_cases hin : (0 : Rat) ∈ l1
    · have p1 := List.perm_cons_erase hin
      have p2 : (l1.erase 0 ++ l2).Perm l := by
        have : ((0 : Rat) :: (l1.erase 0 ++ l2)).Perm (0 :: l) := by
          rw [← List.cons_append]
          exact (p1.symm.append_right l2).trans hq
        exact this.cons_inv
      have e1 : l1.length = (l1.erase 0).length + 1 := by
        have := p1.length_eq
        simpa using this
      have hA : (l1.erase 0).length ≤ l.length := by
        have := p2.length_eq
        rw [List.length_append] at this
        omega
      have f := (hk_facts l.length hl _ hA).1
      rw [e1]
      refine Rat.le_trans ?_ f
      rw [rsum_perm p1, rsum_cons, Rat.zero_add]
      by_cases h0 : (l1.erase 0).length = 0
      · rw [List.length_eq_zero_iff.1 h0]
        show (0 : Rat) ≤ ((0 : Nat) : Rat) * _
        grind
      · exact h.top _ l2 p2 (by omega)
    · have hin2 : (0 : Rat) ∈ l2 := by
        rcases List.mem_append.1 hm with z | z
        · exact absurd z hin
        · exact z
      have p1 := List.perm_cons_erase hin2
      have p2 : (l1 ++ l2.erase 0).Perm l := by
        have : ((0 : Rat) :: (l1 ++ l2.erase 0)).Perm (0 :: l) := by
          refine List.Perm.trans ?_ hq
          exact (List.perm_middle.symm).trans (p1.symm.append_left l1)
        exact this.cons_inv
      have hA : l1.length ≤ l.length := by
        have := p2.length_eq
        rw [List.length_append] at this
        omega
      exact Rat.le_trans (h.top l1 _ p2 hl1) (hk_facts l.length hl _ hA).2
  · rw [List.length_cons]
    have hp : (0 : Rat) < (l.length : Rat) := Rat.intCast_pos.2 (by omega : (0 : Int) < (l.length : Int))
    have ec : ((l.length + 1 : Nat) : Rat) = (l.length : Rat) + 1 := by simp
    have hp1 : (0 : Rat) < (l.length : Rat) + 1 := by grind
    have le1 : 1 / ((l.length : Rat) + 1) ≤ 1 := by
      refine Rat.not_lt.1 fun z => ?_
      have := (Rat.lt_div_iff hp1).1 z
      grind
    have le2 : 1 / ((l.length : Rat) + 1) ≤ 1 / (l.length : Rat) := by
      refine Rat.not_lt.1 fun z => ?_
      have z2 := (Rat.lt_div_iff hp1).1 z
      have e : 1 / (l.length : Rat) * ((l.length : Rat) + 1) = 1 + 1 / (l.length : Rat) := by
        have := r_ne (a := (l.length : Int)) (by omega)
        have e3 : ((l.length : Int) : Rat) = (l.length : Rat) := rfl
        rw [e3] at this
        grind
      rw [e] at z2
      have : (0 : Rat) < 1 / (l.length : Rat) := (Rat.lt_div_iff hp).2 (by grind)
      grind
    rw [ec]
    rcases List.mem_cons.1 ha with e | e
    · rw [e]
      grind
    · have := h.low a e
      grind
end DT

namespace DT
open PySem PySem.Spec PyProof.Rows L2 TL
-- END @fall.lean
end DT
namespace DT
open PySem PySem.Spec PyProof.Rows L2
def sp_fall (K : PySem.W.Frag) : Sp := fun vs H Q _ => ∃ (p : Addr) (xs : List Q2), vs = [.ref p] ∧ LP K H p xs ∧ xs.length ≤ 900 ∧ AllOk 4000 xs ∧ ∀ H' r, Same H H' → H r = none → LP K H' r (fallM xs) → Q (.ref r) H'
theorem six_nat {n j : Nat} (h : j < n) : seqIndex? (j : Int) n = some j := by
  have h1 : ¬ ((j : Int) < 0) := by omega
  simp [seqIndex?, h1, h]
theorem Pps.erase {K : PySem.W.Frag} {H : Hp} : ∀ {us : List V} {xs : List Q2} (i : Nat), Pps K H us xs → Pps K H (us.eraseIdx i) (xs.eraseIdx i)
  | _, _, _, .nil => .nil
  | _, _, 0, .cons _ t => t
  | _, _, i + 1, .cons g t => .cons g (t.erase i)
theorem AllOk.erase {n : Nat} {xs : List Q2} (h : AllOk n xs) (i : Nat) : AllOk n (xs.eraseIdx i) := fun x hx => h x (List.mem_of_mem_eraseIdx hx)
/-- two lists, one that empties while the other grows -/
def fallW (K : PySem.W.Frag) (H : Hp) (xs : List Q2) (pr pf : Addr) (f : L2.St → Prop) (m : Nat) (σ : L2.St) (H' : Hp) : Prop := ∃ ys done : List Q2, f σ ∧ m = ys.length ∧ LP K H' pr ys ∧ LP K H' pf done ∧ fallM xs = done ++ fallM ys ∧ done.length + ys.length ≤ 900 ∧ AllOk 4000 ys ∧ Same H H'
/-- a row that empties while another grows -/
theorem fall_split {xs done ys : List Q2} (h : fallM xs = done ++ fallM ys) (h0 : 0 < ys.length) : fallM xs = (done ++ [itemP ys (firstM ys)]) ++ fallM (ys.eraseIdx (firstM ys)) := by
  rw [h, fall_step h0, List.append_assoc]
  rfl
end DT

namespace DT
open PySem PySem.Spec PyProof.Rows L2 TL
-- END @fallsp.lean
end DT
namespace DT
open PySem PySem.Spec PyProof.Rows L2
theorem bnd_ok {n : Nat} (hn : n ≤ 24) : ∀ i, i ≤ n → Ok (7 * (i + 1)) (bndF n i)
  | 0, _ => (⟨by decide, by unfold Bd; decide, by unfold Bd; decide⟩ : Ok 7 ((0, 1) : Q2))
  | i + 1, h => by
    have ih := bnd_ok hn i (by omega)
    have o : Ok 6 ((1, ((n - i : Nat) : Int)) : Q2) := ⟨by show (0 : Int) < ((n - i : Nat) : Int); omega, show Bd 6 (1 : Int) by unfold Bd; decide, Bd.of (m := 60) (by show (-60 : Int) < ((n - i : Nat) : Int); omega) (by show ((n - i : Nat) : Int) < 60; omega) (by decide)⟩
    exact (addP_ok ih o).mono (by omega)
def bnds (n i : Nat) : List Q2 := (List.range (i + 1)).map (bndF n)
theorem bnds_succ (n i : Nat) : bnds n (i + 1) = bnds n i ++ [bndF n (i + 1)] := by
  unfold bnds
  rw [List.range_succ, List.map_append]
  rfl
theorem bnds_len (n i : Nat) : (bnds n i).length = i + 1 := by
  unfold bnds
  rw [List.length_map, List.length_range]
theorem bnds_at {n i j : Nat} (h : j ≤ i) : (bnds n i)[j]? = some (bndF n j) := by
  unfold bnds
  rw [List.getElem?_map, List.getElem?_range (by omega)]
  rfl
theorem at_last {xs : List V} {i : Nat} {v : V} (hl : xs.length = i + 1) (h : xs[i]? = some v) : atI xs (-1) = some v := by
  unfold atI ixN
  rw [if_neg (by omega), if_pos (by omega), hl, show (-1 + ((i + 1 : Nat) : Int)).toNat = i by omega]
  exact h
def sp__law_keeps (K : PySem.W.Frag) : Sp := fun vs H Q _ => ∃ (p : Addr) (xs : List Q2), vs = [.ref p] ∧ LP K H p xs ∧ 1 ≤ xs.length ∧ xs.length ≤ 24 ∧ AllOk 354 xs ∧ ∀ H', Same H H' → Q (.bl (keepsB xs)) H'
theorem keeps_no {xs : List Q2} {i : Nat} (hi : i < xs.length) (h : okAt xs i = false) : keepsB xs = false := by
  unfold keepsB
  rw [List.all_eq_false]
  exact ⟨i, List.mem_range.2 hi, by rw [h]; decide⟩
theorem keeps_yes {xs : List Q2} (h : ∀ j, j < xs.length → okAt xs j = true) : keepsB xs = true := by
  unfold keepsB
  rw [List.all_eq_true]
  exact fun i hi => h i (List.mem_range.1 hi)
def sp_great (K : PySem.W.Frag) : Sp := fun vs H Q _ => ∃ (p : Addr) (xs : List Q2) (k : Nat), vs = [.ref p, .int k] ∧ LP K H p xs ∧ 1 ≤ xs.length ∧ xs.length ≤ 24 ∧ k ≤ xs.length ∧ AllOk 320 xs ∧ ∀ H' r, Same H H' → Pp K H' r (sumP ((fallM xs).take k)) → Q r H'
end DT

namespace DT
open PySem PySem.Spec PyProof.Rows L2 TL
-- END @keepsq.lean
end DT
namespace DT
open PySem PySem.Spec PyProof.Rows L2
/-! ### the bounds, moment by moment -/
theorem hs_nn (n : Nat) : ∀ i, i ≤ n → 0 ≤ hs n i
  | 0, _ => Rat.le_refl
  | i + 1, h => by
    have ih := hs_nn n i (by omega)
    have hp : (0 : Rat) < ((n - i : Nat) : Rat) := Rat.intCast_pos.2 (by omega : (0 : Int) < ((n - i : Nat) : Int))
    have : (0 : Rat) < 1 / ((n - i : Nat) : Rat) := (Rat.lt_div_iff hp).2 (by grind)
    show 0 ≤ 1 / ((n - i : Nat) : Rat) + hs n i
    grind
theorem one_keeps : keepsB [((0, 1) : Q2)] = true := by decide +kernel
theorem nought_end {xs : List Q2} (hp : AllPos xs) (h1 : 1 ≤ xs.length) (h2 : xs.length < 24) (k : keepsB xs = true) : keepsB (xs ++ [(0, 1)]) = true := by
  have kx := (keepsB_iff hp).1 k
  have hp' : AllPos (xs ++ [(0, 1)]) := fun x hx => by
    rcases List.mem_append.1 hx with z | z
    · exact hp x z
    · rw [List.mem_singleton.1 z]; decide
  refine (keepsB_iff hp').2 ?_
  have nk := nought_keeps kx (by rw [List.length_map]; exact h2) (by rw [List.length_map]; exact h1)
  refine nk.perm ?_
  rw [List.map_append, List.map_singleton, val_zero']
  exact (List.perm_append_singleton _ _).symm
theorem noughts_end {xs : List Q2} (hp : AllPos xs) (h1 : 1 ≤ xs.length) (k : keepsB xs = true) : ∀ n, xs.length + n ≤ 24 → keepsB (xs ++ List.replicate n (0, 1)) = true
  | 0, _ => by rw [List.replicate_zero, List.append_nil]; exact k
  | n + 1, h => by
    have ih := noughts_end hp h1 k n (by omega)
    rw [List.replicate_succ', ← List.append_assoc]
    refine nought_end (fun x hx => ?_) (by rw [List.length_append]; omega) (by rw [List.length_append, List.length_replicate]; omega) ih
    rcases List.mem_append.1 hx with z | z
    · exact hp x z
    · rw [(List.mem_replicate.1 z).2]; decide
structure Kp (m : Mo) : Prop where
  z : worth m.arr = 0
  k : keepsB m.arr = true
theorem Kp.new (z : Str) : Kp (newMo z) := ⟨by show worth [(0, 1)] = 0; rw [worth_cons, val_zero']; show (0 : Rat) + 0 = 0; grind, one_keeps⟩
theorem worth_noughts : ∀ n, worth (List.replicate n ((0, 1) : Q2)) = 0
  | 0 => rfl
  | n + 1 => by rw [List.replicate_succ, worth_cons, worth_noughts n, val_zero']; grind
theorem Kp.step {m : Mo} {st : LSt} {D : Int} {k : Nat} {dd : De} (h : Kp m) (r : Rl m st) (lw : Lw D k st) (b : D < 2 ^ 1829) (hk : k ≤ 900) (ok : wordS st dd = none) (r' : Rl (doneE m dd) (didE st dd)) : Kp (doneE m dd) := by
  have lo := lw.lok b hk
  have pos : AllPos m.arr := (r.okA lo).pos
  have n1 : 1 ≤ m.arr.length := by rw [r.al]; exact lw.n0
  cases dd with
  | settle z =>
    simp only [wordS, judgeG] at ok
    by_cases h1 : nameB z = false
    · rw [if_pos h1] at ok; cases ok
    rw [if_neg h1] at ok
    by_cases h2 : z ∈ st.names
    · rw [if_pos h2] at ok; cases ok
    rw [if_neg h2] at ok
    by_cases h3 : 24 < st.names.length + 1
    · rw [if_pos h3] at ok; cases ok
    refine ⟨?_, nought_end pos n1 (by rw [r.al]; omega) h.k⟩
    show worth (m.arr ++ [(0, 1)]) = 0
    rw [worth_app, h.z, worth_cons, val_zero']
    show (0 : Rat) + (0 + 0) = 0
    grind
  | sell a b x => exact ⟨h.z, h.k⟩
  | lend a b x l => exact ⟨h.z, h.k⟩
  | leave z hs =>
    simp only [wordS, judgeG] at ok
    by_cases h1 : z ∈ st.names
    · rw [if_neg (fun q => q h1)] at ok
      by_cases h2 : hs = []
      · rw [if_pos h2] at ok; cases ok
      rw [if_neg h2] at ok
      cases hb : heirBad st.names hs with
      | some c => rw [hb] at ok; cases ok
      | none =>
        rw [hb] at ok
        by_cases h3 : 24 < st.names.length + hs.length
        · exact absurd ok (by show ¬ (if 24 < st.names.length + hs.length then some Rf.full else none) = none; rw [if_pos h3]; intro z; cases z)
        have ea : (doneE m (.leave z hs)).arr = m.arr ++ List.replicate hs.length (0, 1) := (leftG_parts _ _ hs _).2.2.2.2.1
        refine ⟨?_, ?_⟩
        · rw [ea, worth_app, h.z, worth_noughts]; grind
        · rw [ea]; exact noughts_end pos n1 h.k _ (by rw [r.al]; omega)
    · rw [if_pos h1] at ok; cases ok
  | hour z =>
    have oa := r.okA lo
    have oq := r.okQ lo
    have hl : m.arr.length = m.port.length := by rw [r.al, r.ql]
    have p1 : worth m.port = 1 := by rw [r.q]; exact lw.share1
    refine ⟨?_, hour_keepsB oa oq hl n1 h.z p1 (fun y hy => ?_) h.k⟩
    · show worth (hourM m.arr m.port).2 = 0
      rw [hour_worth oa oq hl n1, h.z, p1]; grind
    · rw [r.q] at hy
      obtain ⟨z, hz, rfl⟩ := List.mem_map.1 hy
      exact lw.sNN hz
  | lose =>
    have ea : (doneE m .lose).arr = m.arr := by rw [r'.a, r.a]; rfl
    exact ⟨by rw [ea]; exact h.z, by rw [ea]; exact h.k⟩
theorem Kp.early {m : Mo} {st : LSt} {D : Int} {k : Nat} (nh : NoHrs st) (r : Rl m st) (lw : Lw D k st) : Kp m := by
  have few := lw.wl.few
  have n0 := lw.n0
  have e : m.arr = List.replicate st.names.length (0, 1) := by
    rw [r.a]
    refine List.eq_replicate_iff.2 ⟨List.length_map _, fun x hx => ?_⟩
    obtain ⟨z, hz, rfl⟩ := List.mem_map.1 hx
    have hi := idx_lt hz
    have g : itemP st.gain (idxS st.names z) = (0, 1) := nh.g _ (item_mem (by rw [lw.wl.g]; exact hi))
    have c : st.cnt.getD (idxS st.names z) 0 = 0 := by
      rw [List.getD_eq_getElem?_getD, List.getElem?_eq_getElem (by rw [lw.wl.c]; exact hi)]
      exact nh.c _ (List.getElem_mem _)
    unfold llagz llag
    rw [g, c]
    exact s00
  refine ⟨by rw [e]; exact worth_noughts _, ?_⟩
  rw [e]
  obtain ⟨j, ej⟩ : ∃ j, st.names.length = j + 1 := ⟨st.names.length - 1, by omega⟩
  rw [ej, List.replicate_succ]
  exact noughts_end (xs := [(0, 1)]) (fun x hx => by rw [List.mem_singleton.1 hx]; decide) (Nat.le_refl 1) one_keeps j (by show 1 + j ≤ 24; omega)
theorem hk_one : ∀ n : Nat, n < 25 → hk n 1 ≤ 24 := by decide +kernel
/-- no lag is far from nought then -/
theorem keeps_bd {xs : List Q2} (hp : AllPos xs) (h24 : xs.length ≤ 24) (k : keepsB xs = true) : ∀ x ∈ xs, (-1 : Rat) ≤ val x ∧ val x ≤ 24 := fun x hx => by
  have kx := (keepsB_iff hp).1 k
  have hv : val x ∈ xs.map val := List.mem_map.2 ⟨x, hx, rfl⟩
  have lo := kx.low _ hv
  have n0 : 0 < xs.length := List.length_pos_of_mem hx
  rw [List.length_map] at lo
  have hpos : (0 : Rat) < (xs.length : Rat) := Rat.intCast_pos.2 (by omega : (0 : Int) < (xs.length : Int))
  have h1 : (0 : Rat) < 1 / (xs.length : Rat) := (Rat.lt_div_iff hpos).2 (by grind)
  have tp := kx.top [val x] ((xs.map val).erase (val x)) (List.perm_cons_erase hv).symm (Nat.le_refl 1)
  rw [List.length_map] at tp
  have h2 := hk_one xs.length (by omega)
  have e1 : rsum [val x] = val x := by rw [rsum_cons, rsum_nil]; grind
  rw [e1] at tp
  have e2 : (([val x].length : Nat) : Rat) = 1 := rfl
  rw [e2, show [val x].length = 1 from rfl] at tp
  constructor <;> grind
theorem worth_bd : ∀ {ys : List Q2}, (∀ y ∈ ys, (-1 : Rat) ≤ val y ∧ val y ≤ 24) → -(ys.length : Rat) ≤ worth ys ∧ worth ys ≤ 24 * (ys.length : Rat)
  | [], _ => by
    show -((0 : Nat) : Rat) ≤ (0 : Rat) ∧ (0 : Rat) ≤ 24 * ((0 : Nat) : Rat)
    constructor <;> decide +kernel
  | y :: ys, h => by
    obtain ⟨a, b⟩ := h y (by simp)
    obtain ⟨c, d⟩ := worth_bd (ys := ys) fun z hz => h z (by simp [hz])
    rw [worth_cons]
    have e : (((y :: ys).length : Nat) : Rat) = (ys.length : Rat) + 1 := by rw [List.length_cons]; simp
    rw [e]
    constructor <;> grind
theorem lag_sums {D : Int} {xs ys : List Q2} (hD : 0 < D) (b : D < 2 ^ 1829) (hpt : ∀ x ∈ xs, Pt D x) (h24 : xs.length ≤ 24) (k : keepsB xs = true) (sub : ∀ y ∈ ys, y ∈ xs) (hl : ys.length ≤ 24) : Ok 1850 (sumP ys) := by
  have bd := keeps_bd (low_pos (pt_low hpt)) h24 k
  have hy : ∀ y ∈ ys, Pt D y := fun y hy => hpt y (sub y hy)
  obtain ⟨l, u⟩ := worth_bd fun y hy => bd y (sub y hy)
  have w := sumP_worth (low_pos (pt_low hy))
  have c : ((ys.length : Int) : Rat) ≤ ((24 : Int) : Rat) := castK (by omega)
  have c' : (ys.length : Rat) ≤ ((24 : Int) : Rat) := c
  have e24 : ((24 : Int) : Rat) = 24 := rfl
  have m1 : ((-1000000 : Int) : Rat) ≤ -24 := by decide +kernel
  have m2 : (576 : Rat) ≤ ((1000000 : Int) : Rat) := by decide +kernel
  refine (Pt.sum hD hy).ok hD b ?_ ?_
  · rw [w]; grind
  · rw [w]; grind
theorem fall_mem {xs : List Q2} (hp : AllPos xs) {i : Nat} {y : Q2} (h : y ∈ (fallM xs).take i) : y ∈ xs := ((fall_all _ xs rfl hp).1).mem_iff.1 (List.mem_of_mem_take h)
/-- what the law's own look at the bounds asks -/
structure KeepOk (xs : List Q2) : Prop where
  n1 : 1 ≤ xs.length
  n24 : xs.length ≤ 24
  ok : AllOk 1850 xs
  fs : ∀ i, Ok 1850 (sumP ((fallM xs).take i))
theorem Kp.ok {m : Mo} {st : LSt} {D : Int} {k : Nat} (h : Kp m) (r : Rl m st) (lw : Lw D k st) (b : D < 2 ^ 1829) (hk : k ≤ 900) : KeepOk m.arr ∧ (∀ i, Ok 1850 (sumP (m.arr.take i))) ∧ sumP m.arr = (0, 1) := by
  have lo := lw.lok b hk
  have oa := r.okA lo
  have pt := r.pa lw
  have few := lw.wl.few
  have l24 : m.arr.length ≤ 24 := by rw [r.al]; exact few
  have fl : (fallM m.arr).length = m.arr.length := fall_len oa.pos
  refine ⟨⟨by rw [r.al]; exact lw.n0, l24, oa, fun i => lag_sums lw.d0 b pt l24 h.k (fun y hy => fall_mem oa.pos hy) (by rw [List.length_take]; omega)⟩, fun i => lag_sums lw.d0 b pt l24 h.k (fun y hy => List.mem_of_mem_take hy) (by rw [List.length_take]; omega), ?_⟩
  exact sum_is pt lw.d0 (by rw [h.z, val_zero']) (pt0 D).low
def sp__law_keepsN (K : PySem.W.Frag) : Sp := fun vs H Q _ => ∃ (p : Addr) (xs : List Q2), vs = [.ref p] ∧ LP K H p xs ∧ KeepOk xs ∧ ∀ H', Same H H' → Q (.bl (keepsB xs)) H'
end DT

namespace DT
open PySem PySem.Spec PyProof.Rows L2 TL
-- END @kpm.lean
abbrev N__law_most : List Str := ["_law_n", "_law_k", "_law_found", "_law_j"]
theorem sc__law_most : FnScope N__law_most ["_law_n", "_law_k"] (defScope s__law_most) := ⟨rfl, rfl, rfl, by decide +kernel, rfl, by decide +kernel, by decide +kernel⟩
section
variable {P : Program} {w : World} {K : PySem.W.Frag} {mg : Str → Option Value} {base : Heap}
def sp_lmost (K : PySem.W.Frag) : Sp := fun vs H Q _ => ∃ n k : Int, vs = [.int n, .int k] ∧ (1 ≤ n ∧ n ≤ 24) ∧ (1 ≤ k ∧ k ≤ n) ∧ ∀ H' r, Same H H' → Pp K H' r (lmost n k) → Ok 250 (lmost n k) → Q r H'
theorem ok__law_most {k : Nat} (D : Df K mg "_law_most" s__law_most ["_law_n", "_law_k"]) (D__law_low : Df K mg "_law_low" s__law_low ["_law_top", "_law_bottom"]) (D__law_add : Df K mg "_law_add" s__law_add ["_law_a", "_law_b"]) (m_abs : mg "abs" = none) (m_range : mg "range" = none) : FnOk P w K mg base CX0 (k + 3) D.f D.fd ["_law_n", "_law_k"] (sp_lmost K) := by
  have G__law_add : FnOk P w K mg base CX0 2 D__law_add.f D__law_add.fd ["_law_a", "_law_b"] (sp_two K anyC addP) := ok__law_add D__law_add D__law_low m_abs
  refine D.F.ok sc__law_most (fun vs H Q E h => ?_) (fun cdv A outer s H vs Q E hr h => ?_)
  · obtain ⟨n, k, rfl, _⟩ := h
    rfl
  obtain ⟨n, k, rfl, hn, hk, q⟩ := h
  refine ⟨_, (pss_cons (ps_set (i := 2) sc__law_most.nd rfl (.inl rfl) (pe_tup (pa_cons pe_int (pa_cons pe_int pa_nil))))
      (pss_cons (ps_for PassesOwn.never rfl (pi_range2 (by rfl) m_range (pa_cons (pe_op op_add (pv 1) pe_int) (pa_cons (pe_op op_add (pv 0) pe_int) pa_nil))) (pg_name (i := 3) sc__law_most.nd rfl (.inl rfl)) (pss_one (ps_set (i := 2) sc__law_most.nd rfl (.inl rfl) (pe_call G__law_add (hr.mono (by omega)) (by rfl) D__law_add.g D__law_add.F.kp D__law_add.b .nil pass0 (pa_cons (pv 2) (pa_cons (pe_tup (pa_cons (pv 1) (pa_cons (pv 3) pa_nil))) pa_nil))))))
      (pss_one (ps_ret (pv 2))))), ?_⟩
  refine ⟨(by show 2 ≤ sizeLine; decide), fun t ht => ?_⟩
  refine ⟨_, rfl, _, _, rfl, rfl, _, rfl, _, _, rfl, rfl, _, _, rfl, ⟨by omega, by omega, by omega, by omega⟩, ?_⟩
  refine for_range (n := (n + 1 - (k + 1)).toNat) (fun i σ H3 => ∃ v y3, σ = [some (.int n), some (.int k), some v, y3] ∧ Same H H3 ∧ Pp K H3 v (lmostF k i)) ⟨_, _, rfl, same_upd ht, Pr.new⟩ (fun i σ H3 hi hW => ?_) (fun σ H3 hW => ?_)
  · obtain ⟨v, y3, rfl, sm, pv'⟩ := hW
    have o := lmost_ok (k := k) (by omega) (by omega) i (by omega)
    have o2 : Ok 6 ((k, k + 1 + (i : Int)) : Q2) := ⟨by show (0 : Int) < k + 1 + i; omega, Bd.of (m := 60) (by show (-60 : Int) < k; omega) (by show k < 60; omega) (by decide), Bd.of (m := 60) (by show (-60 : Int) < k + 1 + i; omega) (by show k + 1 + (i : Int) < 60; omega) (by decide)⟩
    refine ⟨_, rfl, _, rfl, _, rfl, (by show 2 ≤ sizeLine; decide), fun t2 ht2 => ?_⟩
    refine ⟨_, _, _, (k, k + 1 + (i : Int)), 7 * (i + 1), 6, rfl, pv'.same (same_upd ht2), Pr.new, o, o2, by omega, True.intro, fun H4 r sm4 pr => ?_⟩
    exact ⟨r, _, rfl, sm.trans ((same_upd ht2).trans sm4), pr⟩
  · obtain ⟨v, y3, rfl, sm, pv'⟩ := hW
    exact ⟨_, rfl, q _ _ sm pv' ((lmost_ok (k := k) (by omega) (by omega) _ (by omega)).mono (by omega))⟩

end
-- END _law_most
abbrev N__law_falling : List Str := ["_law_row", "_law_rest", "_law_found", "_law_at", "_law_k"]
theorem sc__law_falling : FnScope N__law_falling ["_law_row"] (defScope s__law_falling) := ⟨rfl, rfl, rfl, by decide +kernel, rfl, by decide +kernel, by decide +kernel⟩
section
variable {P : Program} {w : World} {K : PySem.W.Frag} {mg : Str → Option Value} {base : Heap}
theorem ok__law_falling {k : Nat} (D : Df K mg "_law_falling" s__law_falling ["_law_row"]) (D__law_less : Df K mg "_law_less" s__law_less ["_law_a", "_law_b"]) (m_range : mg "range" = none) (m_len : mg "len" = none) (m_list : mg "list" = none) : FnOk P w K mg base CX0 (k + 2) D.f D.fd ["_law_row"] (sp_fall K) := by
  have G__law_less : FnOk P w K mg base CX0 1 D__law_less.f D__law_less.fd ["_law_a", "_law_b"] (sp_less K) := ok__law_less D__law_less
  refine D.F.ok sc__law_falling (fun vs H Q E h => ?_) (fun cdv A outer s H vs Q E hr h => ?_)
  · obtain ⟨p, xs, rfl, _⟩ := h
    rfl
  obtain ⟨p, xs, rfl, ⟨us, ep, hP⟩, hn, hx, q⟩ := h
  refine ⟨_, (pss_cons (ps_set (i := 1) sc__law_falling.nd rfl (.inl rfl) (pe_callTy call_list_of (by rfl) m_list PyProof.Rows.boot_list (pa_cons (pv 0) pa_nil)))
      (pss_cons (ps_set (i := 2) sc__law_falling.nd rfl (.inl rfl) (pe_lst pa_nil))
      (pss_cons (ps_while PassesOwn.never (pt_truth (pv 1) (by intro _; rfl)) (pss_cons (ps_set (i := 3) sc__law_falling.nd rfl (.inl rfl) pe_int)
      (pss_cons (ps_for PassesOwn.never rfl (pi_range1 (by rfl) m_range (pa_cons (pe_callB call_len_seq (by rfl) m_len PySem.boot_len (pa_cons (pv 1) pa_nil)) pa_nil)) (pg_name (i := 4) sc__law_falling.nd rfl (.inl rfl)) (pss_one (ps_if (pt_val (pe_call G__law_less (hr.mono (by omega)) (by rfl) D__law_less.g D__law_less.F.kp D__law_less.b .nil pass0 (pa_cons (pe_ix ix_list (pv 1) (pv 3) (fun _ _ => rfl)) (pa_cons (pe_ix ix_list (pv 1) (pv 4) (fun _ _ => rfl)) pa_nil)))) (pss_one (ps_set (i := 3) sc__law_falling.nd rfl (.inl rfl) (pv 4))) pss_nil)))
      (pss_one (ps_expr (pe_bm PySem.F.plainAttrs_list PySem.F.slot_list_append PySem.F.type_list_append mt_append (pv 2) (pa_cons (pe_bm PySem.F.plainAttrs_list PySem.F.slot_list_pop PySem.F.type_list_pop mt_popAt (pv 1) (pa_cons (pv 3) pa_nil)) pa_nil)))))))
      (pss_one (ps_ret (pv 2)))))), ?_⟩
  refine ⟨_, rfl, p, us, rfl, .inl (SqL.of ep), fun pr npr => ?_⟩
  have s1 := same_upd (o := .lst us) npr
  refine ⟨(by show 0 ≤ sizeLine; decide), fun pf npf' => ?_⟩
  have npf : H pf = none := s1.free npf'
  have hne : pr ≠ pf := ne_of_none (upd_same (H := H) (a := pr) (o := .lst us)) npf'
  refine ⟨fallW K H xs pr pf (fun σ => ∃ y3 y4 : Option V, σ = [some (.ref p), some (.ref pr), some (.ref pf), y3, y4]), ⟨_, xs, [], ⟨_, _, rfl⟩, rfl, ⟨us, same_upd npf' _ _ upd_same, (hP.same s1).same (same_upd npf')⟩, ⟨[], upd_same, .nil⟩, rfl, by rw [List.length_nil]; omega, hx, s1.trans (same_upd npf')⟩, fun m σ H' hW => ?_⟩
  obtain ⟨ys, done, ⟨y3, y4, rfl⟩, rfl, ⟨vs, evs, hvs⟩, ⟨ws, ews, hws⟩, hf, hl, hy, sm⟩ := hW
  refine ⟨_, rfl, _, .inl ⟨vs, SqL.of evs, rfl⟩, ite2 (fun e => ?_) (fun e => ?_)⟩
  · have h0 : 0 < ys.length := by
      rw [← hvs.len]
      cases vs with
      | nil => cases e
      | cons => exact Nat.succ_pos _
    have hul := hvs.len
    have ff := firstM_lt h0
    refine ⟨fun σ' H'' => ∃ m', m' < ys.length ∧ fallW K H xs pr pf (fun σ => ∃ y3 y4 : Option V, σ = [some (.ref p), some (.ref pr), some (.ref pf), y3, y4]) m' σ' H'', fun _ _ hN => hN, ?_⟩
    refine ⟨_, rfl, pr, vs, rfl, .inl (SqL.of evs), _, rfl, by omega, by omega, ?_⟩
    refine for_range (n := vs.length) (fun i σ H3 => ∃ y4, σ = [some (.ref p), some (.ref pr), some (.ref pf), some (.int (firstF ys i : Int)), y4] ∧ H3 = H') ⟨_, rfl, rfl⟩ (fun i σ H3 hi hW => ?_) (fun σ H3 hW => ?_)
    · obtain ⟨y2, rfl, rfl⟩ := hW
      have hf := firstF_lt ys i
      have hfl : firstF ys i < ys.length := by omega
      have hil : i < ys.length := by omega
      obtain ⟨v1, g1, p1⟩ := pps_at hvs (item_some hfl)
      obtain ⟨v2, g2, p2⟩ := pps_at hvs (item_some hil)
      have o1 := (item_ok hy hfl).1
      have o2 := (item_ok hy hil).1
      refine ⟨_, rfl, _, rfl, pr, vs, _, v1, rfl, rfl, SqL.of evs, atI_nat g1, _, rfl, _, rfl, pr, vs, _, v2, rfl, rfl, SqL.of evs, at_of (by omega) g2, v1, v2, _, _, _, _, 4000, rfl, p1, p2, ⟨o1.top, o1.bot, o2.top, o2.bot⟩, by decide, _, rfl, ite2 (fun e => ?_) (fun e => ?_)⟩
      · refine ⟨_, rfl, ?_⟩
        refine ⟨some (.int (0 + (i : Int))), ?_, rfl⟩
        have : firstF ys (i + 1) = i := by
          unfold firstF
          exact if_pos e
        rw [this, Int.zero_add]
        rfl
      · refine ⟨some (.int (0 + (i : Int))), ?_, rfl⟩
        have : firstF ys (i + 1) = firstF ys i := by
          show (if lessP (itemP ys (firstF ys i)) (itemP ys i) = true then i else firstF ys i) = _
          exact if_neg e
        rw [this]
        rfl
    · obtain ⟨y4', rfl, rfl⟩ := hW
      rw [hul]
      obtain ⟨v1, g1, p1⟩ := pps_at hvs (item_some ff)
      refine ⟨_, rfl, .inl ⟨rfl, _, SqL.of ews⟩, _, rfl, .inl ⟨rfl, _, SqL.of evs⟩, _, rfl, pr, vs, _, firstM ys, v1, rfl, rfl, evs, by omega, by show ((firstM ys : Nat) : Int) < 2 ^ 63; omega, by rw [hul]; exact six_nat ff, g1, ?_⟩
      have nw : pf ≠ pr := fun z => hne z.symm
      have e2 : upd H3 pr (.lst (vs.eraseIdx (firstM ys))) pf = some (.lst ws) := by rw [upd_ne nw]; exact ews
      have hk : ∀ b o, H3 b = some o → b ≠ pr → upd H3 pr (.lst (vs.eraseIdx (firstM ys))) b = some o := fun b o eb nb => by rw [upd_ne nb]; exact eb
      have hws2 := hws.off hk evs
      have hvs2 := (hvs.erase (firstM ys)).off hk evs
      have p2 := p1.off hk evs
      refine ⟨pf, ws, v1, rfl, rfl, e2, small1000 (by rw [hws.len]; omega), ?_⟩
      have hk2 : ∀ b o, upd H3 pr (.lst (vs.eraseIdx (firstM ys))) b = some o → b ≠ pf → upd (upd H3 pr (.lst (vs.eraseIdx (firstM ys)))) pf (.lst (ws ++ [v1])) b = some o := fun b o eb nb => by rw [upd_ne nb]; exact eb
      refine ⟨(ys.eraseIdx (firstM ys)).length, by rw [List.length_eraseIdx, if_pos ff]; omega, ys.eraseIdx (firstM ys), done ++ [itemP ys (firstM ys)], ⟨_, _, rfl⟩, rfl, ⟨_, by rw [upd_ne hne]; exact upd_same, hvs2.off hk2 e2⟩, ⟨_, upd_same, pps_grow e2 hws2 p2⟩, fall_split hf h0, by rw [List.length_append, List.length_eraseIdx, if_pos ff]; simp; omega, hy.erase _, same_at npf (same_at npr sm)⟩
  · have h0 : ys = [] := by
      have := hvs.len
      cases vs with
      | nil => exact List.length_eq_zero_iff.1 this.symm
      | cons v vs => exact absurd rfl e
    subst h0
    refine ⟨_, rfl, q _ _ sm npf ⟨ws, ews, ?_⟩⟩
    rw [hf, fall_nil, List.append_nil]
    exact hws

end
-- END _law_falling
abbrev N__law_keeps : List Str := ["_law_lags", "_law_n", "_law_bounds", "_law_j", "_law_so_far", "_law_k", "_law_lag"]
theorem sc__law_keeps : FnScope N__law_keeps ["_law_lags"] (defScope s__law_keeps) := ⟨rfl, rfl, rfl, by decide +kernel, rfl, by decide +kernel, by decide +kernel⟩
section
variable {P : Program} {w : World} {K : PySem.W.Frag} {mg : Str → Option Value} {base : Heap}
theorem ok__law_keeps {k : Nat} (D : Df K mg "_law_keeps" s__law_keeps ["_law_lags"]) (D__law_low : Df K mg "_law_low" s__law_low ["_law_top", "_law_bottom"]) (D__law_add : Df K mg "_law_add" s__law_add ["_law_a", "_law_b"]) (D__law_mul : Df K mg "_law_mul" s__law_mul ["_law_a", "_law_b"]) (D__law_less : Df K mg "_law_less" s__law_less ["_law_a", "_law_b"]) (D__law_falling : Df K mg "_law_falling" s__law_falling ["_law_row"])
    (m_abs : mg "abs" = none) (m_range : mg "range" = none) (m_len : mg "len" = none) (m_list : mg "list" = none) : FnOk P w K mg base CX0 (k + 4) D.f D.fd ["_law_lags"] (sp__law_keepsN K) := by
  have G__law_add : FnOk P w K mg base CX0 3 D__law_add.f D__law_add.fd ["_law_a", "_law_b"] (sp_two K anyC addP) := ok__law_add D__law_add D__law_low m_abs
  have G__law_mul : FnOk P w K mg base CX0 3 D__law_mul.f D__law_mul.fd ["_law_a", "_law_b"] (sp_two K anyC mulP) := ok__law_mul D__law_mul D__law_low m_abs
  have G__law_less : FnOk P w K mg base CX0 3 D__law_less.f D__law_less.fd ["_law_a", "_law_b"] (sp_less K) := ok__law_less D__law_less
  have G__law_falling : FnOk P w K mg base CX0 3 D__law_falling.f D__law_falling.fd ["_law_row"] (sp_fall K) := ok__law_falling D__law_falling D__law_less m_range m_len m_list
  refine D.F.ok sc__law_keeps (fun vs H Q E h => ?_) (fun cdv A outer s H vs Q E hr h => ?_)
  · obtain ⟨p, xs, rfl, _⟩ := h
    rfl
  obtain ⟨p, xs, rfl, lp, ⟨h1, h24, hx, hps⟩, q⟩ := h
  obtain ⟨us, eus, hus⟩ := id lp
  refine ⟨_, (pss_cons (ps_set (i := 1) sc__law_keeps.nd rfl (.inl rfl) (pe_callB call_len_seq (by rfl) m_len PySem.boot_len (pa_cons (pv 0) pa_nil)))
      (pss_cons (ps_set (i := 2) sc__law_keeps.nd rfl (.inl rfl) (pe_lst (pa_cons (pe_tup (pa_cons pe_int (pa_cons pe_int pa_nil))) pa_nil)))
      (pss_cons (ps_for PassesOwn.never rfl (pi_range3 (by rfl) m_range (pa_cons (pv 1) (pa_cons pe_int (pa_cons (pe_un un_neg pe_int) pa_nil)))) (pg_name (i := 3) sc__law_keeps.nd rfl (.inl rfl)) (pss_one (ps_expr (pe_bm PySem.F.plainAttrs_list PySem.F.slot_list_append PySem.F.type_list_append mt_append (pv 2) (pa_cons (pe_call G__law_add (hr.mono (by omega)) (by rfl) D__law_add.g D__law_add.F.kp D__law_add.b .nil pass0 (pa_cons (pe_ix ix_list (pv 2) (pe_un un_neg pe_int) (fun _ _ => rfl)) (pa_cons (pe_tup (pa_cons pe_int (pa_cons (pv 3) pa_nil))) pa_nil))) pa_nil)))))
      (pss_cons (ps_set (i := 4) sc__law_keeps.nd rfl (.inl rfl) (pe_tup (pa_cons pe_int (pa_cons pe_int pa_nil))))
      (pss_cons (ps_set (i := 5) sc__law_keeps.nd rfl (.inl rfl) pe_int)
      (pss_cons (ps_for PassesOwn.never rfl (pi_list (pe_call G__law_falling (hr.mono (by omega)) (by rfl) D__law_falling.g D__law_falling.F.kp D__law_falling.b .nil pass0 (pa_cons (pv 0) pa_nil))) (pg_name (i := 6) sc__law_keeps.nd rfl (.inl rfl)) (pss_cons (ps_set (i := 5) sc__law_keeps.nd rfl (.inl rfl) (pe_op op_add (pv 5) pe_int))
      (pss_cons (ps_set (i := 4) sc__law_keeps.nd rfl (.inl rfl) (pe_call G__law_add (hr.mono (by omega)) (by rfl) D__law_add.g D__law_add.F.kp D__law_add.b .nil pass0 (pa_cons (pv 4) (pa_cons (pv 6) pa_nil))))
      (pss_one (ps_if (PW.pt (pw_or (pt_val (pe_call G__law_less (hr.mono (by omega)) (by rfl) D__law_less.g D__law_less.F.kp D__law_less.b .nil pass0 (pa_cons (pe_call G__law_mul (hr.mono (by omega)) (by rfl) D__law_mul.g D__law_mul.F.kp D__law_mul.b .nil pass0 (pa_cons (pe_ix ix_list (pv 2) (pe_op op_sub (pv 1) (pv 5)) (fun _ _ => rfl)) (pa_cons (pe_tup (pa_cons (pv 5) (pa_cons pe_int pa_nil))) pa_nil))) (pa_cons (pv 4) pa_nil)))) (pw_or1 (pt_val (pe_call G__law_less (hr.mono (by omega)) (by rfl) D__law_less.g D__law_less.F.kp D__law_less.b .nil pass0 (pa_cons (pv 6) (pa_cons (pe_tup (pa_cons (pe_op op_sub pe_int (pv 1)) (pa_cons (pv 1) pa_nil))) pa_nil))))))) (pss_one (ps_ret pe_bl)) pss_nil)))))
      (pss_one (ps_ret pe_bl)))))))), ?_⟩
  refine ⟨_, rfl, p, us, rfl, .inl (SqL.of eus), ?_⟩
  rw [hus.len]
  obtain ⟨n, en⟩ : ∃ n, n = xs.length := ⟨_, rfl⟩
  rw [← en]
  rw [← en] at h1 h24
  -- the bounds
  refine ⟨(by show 2 ≤ sizeLine; decide), fun t ht => ?_⟩
  have st := same_upd (o := .tup [.int 0, .int 1]) ht
  refine ⟨(by show 1 ≤ sizeLine; decide), fun pb hpb => ?_⟩
  have sb := same_upd (o := .lst [.ref t]) hpb
  have npb : H pb = none := st.free hpb
  refine ⟨_, rfl, _, rfl, (n : Int), 0, -1, ((n : Int) - 0).toNat, rfl, RgC.neg (by omega) (by omega) (by omega) (by omega), ?_⟩
  have ez : ((n : Int) - 0).toNat = n := by omega
  rw [ez]
  refine for_rangeC (lo := (n : Int)) (c := -1) (n := n) (fun i σ H' => ∃ y3, σ = [some (.ref p), some (.int n), some (.ref pb), y3, none, none, none] ∧ LP K H' pb (bnds n i) ∧ Same H H')
    ⟨_, rfl, ⟨_, upd_same, .cons ((Pr.new (a := 0) (b := 1)).same sb) .nil⟩, st.trans sb⟩ (fun i σ H' hi hW => ?_) (fun σ H1 hW => ?_)
  · obtain ⟨y3, rfl, ⟨ws, ews, hws⟩, sm⟩ := hW
    have hwl := hws.len
    rw [bnds_len] at hwl
    obtain ⟨v, gv, pv'⟩ := pps_at hws (bnds_at (n := n) (i := i) (j := i) (Nat.le_refl _))
    have o1 := bnd_ok h24 i (by omega)
    have ec : (n : Int) + (i : Nat) * (-1 : Int) = ((n - i : Nat) : Int) := by omega
    have o2 : Ok 6 ((1, ((n - i : Nat) : Int)) : Q2) := ⟨by show (0 : Int) < ((n - i : Nat) : Int); omega, show Bd 6 (1 : Int) by unfold Bd; decide, Bd.of (m := 60) (by show (-60 : Int) < ((n - i : Nat) : Int); omega) (by show ((n - i : Nat) : Int) < 60; omega) (by decide)⟩
    rw [ec]
    refine ⟨_, rfl, .inl ⟨rfl, _, SqL.of ews⟩, _, rfl, _, rfl, pb, ws, _, v, rfl, rfl, SqL.of ews, at_last hwl gv, _, rfl, (by show 2 ≤ sizeLine; decide), fun t2 ht2 => ?_⟩
    have st2 := same_upd (o := .tup [.int 1, .int ((n - i : Nat) : Int)]) ht2
    refine ⟨v, .ref t2, _, (1, ((n - i : Nat) : Int)), _, 6, rfl, pv'.same st2, Pr.new, o1, o2, by omega, True.intro, fun H4 v4 s4 p4 => ?_⟩
    have e4 := s4 _ _ (st2 _ _ ews)
    refine ⟨pb, ws, v4, rfl, rfl, e4, small1000 (by omega), _, rfl, ⟨ws ++ [v4], upd_same, ?_⟩, same_at npb (sm.trans (st2.trans s4))⟩
    rw [bnds_succ]
    exact pps_grow e4 ((hws.same st2).same s4) p4
  obtain ⟨y3, rfl, lb, s1⟩ := hW
  -- the sums
  refine ⟨(by show 2 ≤ sizeLine; decide), fun ts hts => ?_⟩
  have sts := same_upd (o := .tup [.int 0, .int 1]) hts
  refine ⟨_, rfl, p, xs, rfl, (lp.same s1).same sts, by omega, hx.mono (by decide), fun H4 pf s4 npf lpf => ?_⟩
  obtain ⟨fs, efs, hfs⟩ := lpf
  have hfl := fall_len hx.pos
  have hfo := fall_ok hx
  refine ⟨pf, rfl, ⟨_, SqL.of efs⟩, ?_⟩
  have lb4 := (lb.same sts).same s4
  have S4 : Same H H4 := s1.trans (sts.trans s4)
  obtain ⟨bs, ebs, hbs⟩ := lb4
  refine for_list (xs := fs) (fun i σ H' => ∃ v y3 y6, σ = [some (.ref p), some (.int n), some (.ref pb), y3, some v, some (.int (i : Int)), y6] ∧ Same H4 H' ∧ Pp K H' v (sumP ((fallM xs).take i)) ∧ Ok 1850 (sumP ((fallM xs).take i)) ∧ ∀ j, j < i → okAt xs j = true)
    ⟨_, _, _, rfl, Same.refl _, (Pr.new (a := 0) (b := 1)).same s4, hps 0, fun j hj => absurd hj (by omega)⟩ (fun i σ H' _ hW => ?_) (fun i z σ H' hz hW => ?_) (fun σ H' hW => ?_)
  · obtain ⟨v, y3, y6, rfl, sm, _⟩ := hW
    exact SqL.of (sm _ _ efs)
  · obtain ⟨v, y3, y6, rfl, sm, pv', ov, hok⟩ := hW
    obtain ⟨x, hx', px⟩ := pps_get hfs hz
    have hi : i < xs.length := by
      rw [← hfl]
      exact (List.getElem?_eq_some_iff.1 hx').1
    have ex : itemP (fallM xs) i = x := by
      have := item_some (xs := fallM xs) (i := i) (by omega)
      rw [hx'] at this
      exact (Option.some.inj this).symm
    have oxx := (hfo x (List.mem_of_getElem? hx')).1
    have es := sumP_take hx'
    refine ⟨_, rfl, _, _, rfl, rfl, ?_⟩
    refine ⟨_, rfl, _, rfl, v, z, _, x, _, 1850, rfl, pv', px.same sm, ov, oxx, by omega, True.intro, fun H5 r s5 pr => ?_⟩
    have oso : Ok 1850 (sumP ((fallM xs).take (i + 1))) := hps (i + 1)
    rw [← es] at pr
    have sm5 := sm.trans s5
    -- bounds[n - k]
    obtain ⟨vb, gb, pvb⟩ := pps_at hbs (bnds_at (n := n) (i := n) (j := n - (i + 1)) (by omega))
    have ob := bnd_ok h24 (n - (i + 1)) (by omega)
    have ok1 : Ok 6 ((((i + 1 : Nat) : Int), 1) : Q2) := ok_n1 (by omega) (by omega)
    refine ⟨_, rfl, _, rfl, _, rfl, _, _, rfl, rfl, pb, bs, _, vb, rfl, rfl, SqL.of (sm5 _ _ ebs), at_of (by omega) gb, _, rfl, (by show 2 ≤ sizeLine; decide), fun t6 ht6 => ?_⟩
    have st6 := same_upd (o := .tup [.int ((i : Int) + 1), .int 1]) ht6
    refine ⟨vb, .ref t6, _, (((i + 1 : Nat) : Int), 1), _, 6, rfl, (pvb.same sm5).same st6, Pr.new, ob, ok1, by omega, True.intro, fun H7 v7 s7 p7 => ?_⟩
    have om := mulP_ok ob ok1
    have pr7 := (Pp.same (x := sumP ((fallM xs).take (i + 1))) pr st6).same s7
    refine ⟨_, rfl, v7, r, _, _, _, _, 8890, rfl, p7, pr7, ⟨om.top.mono (by omega), om.bot.mono (by omega), oso.top.mono (by omega), oso.bot.mono (by omega)⟩, by decide, _, rfl, ite2 (fun e => ?_) (fun e => ?_)⟩
    · refine iteT ?_
      have : keepsB xs = false := keeps_no hi (by
        unfold okAt
        rw [← en]
        have e' : lessP (mulP (bndF n (n - (i + 1))) (((i + 1 : Nat) : Int), 1)) (sumP ((fallM xs).take (i + 1))) = true := e
        rw [e']
        rfl)
      rw [this] at q
      exact q _ (S4.trans (sm5.trans (st6.trans s7)))
    refine ⟨_, rfl, _, rfl, _, _, rfl, rfl, _, rfl, (by show 2 ≤ sizeLine; decide), fun t8 ht8 => ?_⟩
    have st8 := same_upd (o := .tup [.int (1 - (n : Int)), .int (n : Int)]) ht8
    have sm8 := (sm5.trans (st6.trans s7)).trans st8
    refine ⟨z, .ref t8, x.1, x.2, 1 - (n : Int), (n : Int), 1850, rfl, px.same sm8, Pr.new, ⟨oxx.top, oxx.bot, (Bd.of (n := 5) (m := 30) (by omega) (by omega) (by decide)).mono (by decide), (Bd.of (n := 5) (m := 30) (by omega) (by omega) (by decide)).mono (by decide)⟩, by decide, _, rfl, ite2 (fun e2 => ?_) (fun e2 => ?_)⟩
    · have : keepsB xs = false := keeps_no hi (by
        unfold okAt
        rw [← en, ex]
        have e' : lessP x (1 - (n : Int), (n : Int)) = true := e2
        rw [e', Bool.and_comm]
        rfl)
      rw [this] at q
      exact q _ (S4.trans sm8)
    · refine ⟨r, _, _, rfl, sm8, pr7.same st8, oso, fun j hj => ?_⟩
      by_cases ej : j = i
      · rw [ej]
        unfold okAt
        rw [← en, ex, Bool.and_eq_true, Bool.not_eq_true', Bool.not_eq_true', ← Bool.not_eq_true, ← Bool.not_eq_true]
        exact ⟨e, e2⟩
      · exact hok j (by omega)
  · obtain ⟨v, y3, y6, rfl, sm, _, _, hok⟩ := hW
    have : keepsB xs = true := keeps_yes fun j hj => hok j (by rw [hfs.len, hfl]; exact hj)
    rw [this] at q
    exact q _ (S4.trans sm)

end
-- END _law_keeps
end DT
namespace DT
open PySem PySem.Spec PyProof.Rows L2
/-! ### what was gained, and how often it was a field's turn, beside the state -/
def gainOf (st : LSt) (z : Str) : Q2 := itemP st.gain (idxS st.names z)
def cntOf (st : LSt) (z : Str) : Int := st.cnt.getD (idxS st.names z) 0
/-- no hour in between: all gains stay, new fields have none -/
def Kept (a b : LSt) : Prop := ∃ more : List Str, b.names = a.names ++ more ∧ b.gain = a.gain ++ more.map (fun _ => (0, 1)) ∧ b.cnt = a.cnt ++ more.map (fun _ => 0) ∧ b.wet = a.wet
theorem Kept.refl (a : LSt) : Kept a a := ⟨[], by simp, by simp, by simp, rfl⟩
theorem Kept.trans {a b c : LSt} (h : Kept a b) (k : Kept b c) : Kept a c := by
  obtain ⟨m1, n1, g1, c1, w1⟩ := h
  obtain ⟨m2, n2, g2, c2, w2⟩ := k
  exact ⟨m1 ++ m2, by rw [n2, n1, List.append_assoc], by rw [g2, g1, List.map_append, List.append_assoc], by rw [c2, c1, List.map_append, List.append_assoc], w2.trans w1⟩
theorem Kept.join (a : LSt) (z : Str) : Kept a (joinS a z) := ⟨[z], rfl, rfl, rfl, rfl⟩
theorem Kept.move (a : LSt) (x y : Str) (q : Q2) : Kept a (moveS a x y q) := ⟨[], by simp [moveS], by simp [moveS], by simp [moveS], rfl⟩
theorem Kept.leave (z : Str) (f : Q2) (W : Int) : ∀ (hs : List (Str × Int)) (a : LSt), Kept a (leaveS z f W a hs)
  | [], a => Kept.refl a
  | h :: hs, a => ((Kept.join a h.1).trans (Kept.move _ _ _ _)).trans (Kept.leave z f W hs _)
theorem Kept.did {st : LSt} {dd : De} (h : ∀ z, dd ≠ .hour z) : Kept st (didE st dd) := by
  cases dd with
  | settle z => exact Kept.join st z
  | sell a b x => exact Kept.move st a b x
  | lend a b x l => exact ⟨[], by simp [didE], by simp [didE], by simp [didE], rfl⟩
  | leave z hs => exact Kept.leave z _ _ hs st
  | hour z => exact absurd rfl (h z)
  | lose => exact ⟨[], by simp [didE, goneS], by simp [didE, goneS], by simp [didE, goneS], rfl⟩
theorem idx_left {l m : List Str} {z : Str} (hz : z ∈ l) : idxS (l ++ m) z = idxS l z := by
  have hi := idx_lt hz
  unfold idxS at hi ⊢
  rw [List.findIdx_append, if_pos hi]
theorem idx_right {l m : List Str} {z : Str} (hz : z ∉ l) : l.length ≤ idxS (l ++ m) z := by
  unfold idxS
  rw [List.findIdx_append]
  have e : l.findIdx (fun y => decide (y = z)) = l.length := List.findIdx_eq_length.2 fun y hy => decide_eq_false fun e => hz (by rw [← e]; exact hy)
  rw [if_neg (by omega)]
  omega
theorem getD_left {α : Type} {xs ys : List α} {i : Nat} {d : α} (h : i < xs.length) : (xs ++ ys).getD i d = xs.getD i d := by
  rw [List.getD_eq_getElem?_getD, List.getD_eq_getElem?_getD, List.getElem?_append_left h]
theorem getD_right {α β : Type} {xs : List α} {m : List β} {i : Nat} {d : α} (h : xs.length ≤ i) : (xs ++ m.map (fun _ => d)).getD i d = d := by
  rw [List.getD_eq_getElem?_getD, List.getElem?_append_right h, List.getElem?_map]
  cases m[i - xs.length]? <;> rfl
theorem Kept.old {a b : LSt} (h : Kept a b) (hg : a.gain.length = a.names.length) (hc : a.cnt.length = a.names.length) {z : Str} (hz : z ∈ a.names) : gainOf b z = gainOf a z ∧ cntOf b z = cntOf a z := by
  obtain ⟨m, n, g, c, _⟩ := h
  have hi := idx_lt hz
  unfold gainOf cntOf itemP
  rw [n, idx_left hz, g, c, getD_left (by omega), getD_left (by omega)]
  exact ⟨rfl, rfl⟩
theorem Kept.new {a b : LSt} (h : Kept a b) (hg : a.gain.length = a.names.length) (hc : a.cnt.length = a.names.length) {z : Str} (hz : z ∉ a.names) : gainOf b z = (0, 1) ∧ cntOf b z = 0 := by
  obtain ⟨m, n, g, c, _⟩ := h
  have hi := idx_right (m := m) hz
  unfold gainOf cntOf itemP
  rw [n, g, c]
  exact ⟨getD_right (by omega), getD_right (by omega)⟩
theorem Kept.names {a b : LSt} (h : Kept a b) {z : Str} (hz : z ∉ b.names) : z ∉ a.names := by
  obtain ⟨m, n, _⟩ := h
  intro hm
  rw [n] at hz
  exact hz (List.mem_append_left _ hm)
theorem gain_hour {st : LSt} {z : Str} (hz : z ∈ st.names) : gainOf (hourS st) z = addP (gainOf st z) (lshare st z) := item_mapI (g := gainZ st) hz
theorem cnt_hour {st : LSt} (hc : st.cnt.length = st.names.length) {z : Str} (hz : z ∈ st.names) (hd : dueS st ∈ st.names) : cntOf (hourS st) z = if z = dueS st then cntOf st z + 1 else cntOf st z := by
  have hi := idx_lt hz
  have hj := idx_lt hd
  show (st.cnt.set (idxS st.names (dueS st)) (st.cnt.getD (idxS st.names (dueS st)) 0 + 1)).getD (idxS st.names z) 0 = _
  rw [List.getD_eq_getElem?_getD, List.getElem?_set]
  by_cases h : z = dueS st
  · subst h
    rw [if_pos rfl, if_pos rfl, if_pos (by omega)]
    rfl
  · rw [if_neg (fun e => h ?_), if_neg h]
    · unfold cntOf
      rw [List.getD_eq_getElem?_getD]
    · have a := idx_at hz
      have b := idx_at hd
      rw [← e, b] at a
      exact (Option.some.inj a).symm
/-- the law's own two dicts tell what the state tells -/
def Told (K : PySem.W.Frag) (H : Hp) (gk ck : List (Key × V)) (st : LSt) : Prop :=
  (∀ z ∈ st.names, (∀ v, valV gk (Sum.inr z) = some v → Pp K H v (gainOf st z)) ∧ (valV gk (Sum.inr z) = none → gainOf st z = (0, 1)) ∧ (valV ck (Sum.inr z)).getD (.int 0) = .int (cntOf st z)) ∧
  ∀ z, z ∉ st.names → valV gk (Sum.inr z) = none ∧ valV ck (Sum.inr z) = none
theorem Told.same {K : PySem.W.Frag} {H H' : Hp} {gk ck : List (Key × V)} {st : LSt} (h : Told K H gk ck st) (e : Same H H') : Told K H' gk ck st :=
  ⟨fun z hz => ⟨fun v hv => ((h.1 z hz).1 v hv).same e, (h.1 z hz).2⟩, h.2⟩
theorem Told.kept {K : PySem.W.Frag} {H : Hp} {gk ck : List (Key × V)} {a b : LSt} (h : Told K H gk ck a) (k : Kept a b) (hg : a.gain.length = a.names.length) (hc : a.cnt.length = a.names.length) : Told K H gk ck b := by
  refine ⟨fun z hz => ?_, fun z hz => h.2 z (k.names hz)⟩
  by_cases ha : z ∈ a.names
  · obtain ⟨e1, e2⟩ := k.old hg hc ha
    rw [e1, e2]
    exact h.1 z ha
  · obtain ⟨e1, e2⟩ := k.new hg hc ha
    obtain ⟨f1, f2⟩ := h.2 z ha
    rw [e1, e2, f1, f2]
    exact ⟨(fun v hv => by cases hv), fun _ => rfl, rfl⟩
theorem Told.hourd {K : PySem.W.Frag} {H : Hp} {gk ck gk' : List (Key × V)} {st : LSt} (h : Told K H gk ck st) (hc : st.cnt.length = st.names.length) (hd : dueS st ∈ st.names)
    (g1 : ∀ z ∈ st.names, ∃ v, valV gk' (Sum.inr z) = some v ∧ Pp K H v (addP (gainOf st z) (lshare st z))) (g0 : ∀ z, z ∉ st.names → valV gk' (Sum.inr z) = none) :
    Told K H gk' (putK ck (Sum.inr (dueS st)) (.int (cntOf st (dueS st) + 1))) (hourS st) := by
  refine ⟨fun z hz => ?_, fun z hz => ?_⟩
  · have hz : z ∈ st.names := hz
    obtain ⟨v, ev, pv⟩ := g1 z hz
    rw [gain_hour hz, cnt_hour hc hz hd, ev, valV_put]
    refine ⟨fun u hu => by cases hu; exact pv, (fun hu => by cases hu), ?_⟩
    by_cases e : z = dueS st
    · rw [if_pos (by rw [e]), if_pos e, e]
      rfl
    · rw [if_neg (fun z => e (Sum.inr.inj z)), if_neg e]
      exact (h.1 z hz).2.2
  · have hz : z ∉ st.names := hz
    refine ⟨g0 z hz, ?_⟩
    rw [valV_put, if_neg (fun e => hz (by rw [Sum.inr.inj e]; exact hd))]
    exact (h.2 z hz).2
theorem Told.none {K : PySem.W.Frag} {H : Hp} {st : LSt} (h : NoHrs st) (hg : st.gain.length = st.names.length) (hc : st.cnt.length = st.names.length) : Told K H [] [] st := by
  refine ⟨fun z hz => ⟨(fun v hv => by cases hv), fun _ => ?_, ?_⟩, fun z _ => ⟨rfl, rfl⟩⟩
  · exact h.g _ (item_mem (by rw [hg]; exact idx_lt hz))
  · have hi := idx_lt hz
    have e : cntOf st z = 0 := by
      unfold cntOf
      rw [List.getD_eq_getElem?_getD, List.getElem?_eq_getElem (by rw [hc]; exact hi)]
      exact h.c _ (List.getElem_mem _)
    rw [e]
    rfl
theorem gain_lag {D : Int} {k : Nat} {st : LSt} (h : Lw D k st) (z : Str) : addP (llagz st z) (cntOf st z, 1) = gainOf st z := by
  have g0 := item_pt (fun x hx => (h.gn x hx).1) (idxS st.names z)
  refine val_inj (addP_low (h.pLag z).pos (by show (0 : Int) < 1; decide)) g0.low ?_
  rw [val_add (h.pLag z).pos (by show (0 : Int) < 1; decide), h.vLag, val_int]
  unfold gainOf cntOf
  grind
/-- a field and its share, as told -/
def ShV (K : PySem.W.Frag) (H : Hp) (st : LSt) (v : V) (z : Str) : Prop := ∃ t vp, v = .ref t ∧ SqT K H t [.str z, vp] ∧ Pp K H vp (lshare st z)
theorem ShV.by {K : PySem.W.Frag} {H H' : Hp} {st : LSt} {v : V} {z : Str} (h : ShV K H st v z) (sq : ∀ {t : Addr} {xs : List V}, SqT K H t xs → SqT K H' t xs) : ShV K H' st v z := by
  obtain ⟨t, vp, rfl, a, y, rfl, b⟩ := h
  exact ⟨t, _, rfl, sq a, y, rfl, sq b⟩
def headW : De → Str
  | .settle _ => "settle"
  | .sell _ _ _ => "sell"
  | .lend _ _ _ _ => "lend"
  | .leave _ _ => "leave"
  | .hour _ => "hour"
  | .lose => "lose"
theorem DeV.head {K : PySem.W.Frag} {H : Hp} {v : V} {dd : De} (h : DeV K H v dd) : ∃ t zs, v = .ref t ∧ SqT K H t (.str (headW dd) :: zs) := by
  cases dd with
  | settle z => obtain ⟨t, rfl, h⟩ := h; exact ⟨t, _, rfl, h⟩
  | sell a b x => obtain ⟨t, vp, rfl, h, _⟩ := h; exact ⟨t, _, rfl, h⟩
  | lend a b x l => obtain ⟨t, vp, rfl, h, _⟩ := h; exact ⟨t, _, rfl, h⟩
  | leave z hs => obtain ⟨t, th, hv, rfl, h, _⟩ := h; exact ⟨t, _, rfl, h⟩
  | hour z => obtain ⟨t, rfl, h⟩ := h; exact ⟨t, _, rfl, h⟩
  | lose => obtain ⟨t, rfl, h⟩ := h; exact ⟨t, _, rfl, h⟩
theorem leave_dry (z : Str) (f : Q2) (W : Int) : ∀ (hs : List (Str × Int)) (a : LSt), (leaveS z f W a hs).dry = a.dry
  | [], _ => rfl
  | _ :: hs, _ => leave_dry z f W hs _
theorem kinds3 (st : LSt) (dd : De) : (∃ z, dd = .hour z) ∨ dd = .lose ∨ (headW dd ≠ "hour" ∧ headW dd ≠ "lose" ∧ (didE st dd).dry = st.dry ∧ ∀ z, dd ≠ .hour z) := by
  cases dd with
  | settle z => exact .inr (.inr ⟨by show ("settle" : Str) ≠ "hour"; decide, by show ("settle" : Str) ≠ "lose"; decide, rfl, fun z e => nomatch e⟩)
  | sell a b x => exact .inr (.inr ⟨by show ("sell" : Str) ≠ "hour"; decide, by show ("sell" : Str) ≠ "lose"; decide, rfl, fun z e => nomatch e⟩)
  | lend a b x l => exact .inr (.inr ⟨by show ("lend" : Str) ≠ "hour"; decide, by show ("lend" : Str) ≠ "lose"; decide, rfl, fun z e => nomatch e⟩)
  | leave z hs => exact .inr (.inr ⟨by show ("leave" : Str) ≠ "hour"; decide, by show ("leave" : Str) ≠ "lose"; decide, leave_dry _ _ _ hs st, fun z e => nomatch e⟩)
  | hour z => exact .inl ⟨z, rfl⟩
  | lose => exact .inr (.inl rfl)
theorem word_some (c : Rf) : wordR c ≠ "" := by cases c <;> decide
end DT

namespace DT
open PySem PySem.Spec PyProof.Rows L2 TL
-- END @k30m.lean
end DT
namespace DT
open PySem PySem.Spec PyProof.Rows L2
/-! ### the foe in a ditch: whoever has had a turn hands all it owns to those who still wait -/
def ov (st : LSt) (z : Str) : Rat := val (itemP st.own (idxS st.names z))
theorem ov_free {D : Int} {k : Nat} {st : LSt} (lw : Lw D k st) (ln : st.loans = []) (z : Str) : val (lfree st z) = ov st z := by
  rw [lw.vFree, ln]
  show ov st z - 0 = ov st z
  grind
theorem ov_share {D : Int} {k : Nat} {st : LSt} (lw : Lw D k st) (ln : st.loans = []) (z : Str) : val (lshare st z) = ov st z := by
  rw [lw.vShare, ln]
  show ov st z - 0 + 0 = ov st z
  grind
theorem idx_eq {ns : List Str} {y z : Str} (hy : y ∈ ns) (hz : z ∈ ns) : idxS ns z = idxS ns y ↔ z = y := by
  constructor
  · intro e
    have a := idx_at hz
    rw [e, idx_at hy] at a
    exact (Option.some.inj a).symm
  · intro e
    rw [e]
theorem ov_move {D : Int} {k : Nat} {st : LSt} (lw : Lw D k st) {a b : Str} {x : Q2} (ha : a ∈ st.names) (hb : b ∈ st.names) (px : 0 < x.2) {z : Str} (hz : z ∈ st.names) :
    ov (moveS st a b x) z = ov st z + (if z = a then - val x else 0) + (if z = b then val x else 0) := by
  unfold ov
  rw [move_own]
  show val (itemP (addAt (addAt st.own (idxS st.names a) (negP x)) (idxS st.names b) x) (idxS st.names z)) = _
  have h1 : AllPos st.own := low_pos (pt_low lw.ow)
  have nx : 0 < (negP x).2 := px
  have h2 : AllPos (addAt st.own (idxS st.names a) (negP x)) := fun y hy => by
    rcases List.mem_or_eq_of_mem_set hy with q | q
    · exact h1 y q
    · rw [q]
      exact (addP_low (item_pos h1 _) nx).pos
  rw [addAt_val h2 px (by rw [addAt_len]; exact lw.ownZ hb), addAt_val h1 nx (lw.ownZ ha), val_neg]
  have ea : (idxS st.names z = idxS st.names a) = (z = a) := propext (idx_eq ha hz)
  have eb : (idxS st.names z = idxS st.names b) = (z = b) := propext (idx_eq hb hz)
  simp only [ea, eb]
theorem due_max {D : Int} {k N : Nat} {st : LSt} (lw : Lw D k st) (lo : LOk N st) {z : Str} (hz : z ∈ st.names) : val (llagz st z) + val (lshare st z) ≤ val (llagz st (dueS st)) + val (lshare st (dueS st)) := by
  have hd := due_at lo lw.n0
  have li := due_lt lo lw.n0
  have pl : ∀ y, 0 < (llagz st y).2 := fun y => (lw.pLag y).pos
  have ps : ∀ y, 0 < (lshare st y).2 := fun y => (lw.pShare y).pos
  have ez : ∀ y ∈ st.names, addP (llagz st y) (lshare st y) ∈ List.zipWith addP (st.names.map (llagz st)) (st.names.map (lshare st)) := fun y hy => by
    obtain ⟨i, hi⟩ := List.mem_iff_getElem?.1 hy
    refine List.mem_iff_getElem?.2 ⟨i, ?_⟩
    rw [List.getElem?_zipWith, List.getElem?_map, List.getElem?_map, hi]
    rfl
  have ap : AllPos (List.zipWith addP (st.names.map (llagz st)) (st.names.map (lshare st))) := fun y hy => by
    obtain ⟨i, hi⟩ := List.mem_iff_getElem?.1 hy
    rw [List.getElem?_zipWith, List.getElem?_map, List.getElem?_map] at hi
    cases e : st.names[i]? with
    | none => rw [e] at hi; cases hi
    | some u =>
      rw [e] at hi
      rw [← Option.some.inj hi]
      exact (addP_low (pl u) (ps u)).pos
  have m := firstM_max ap (ez z hz)
  have e0 : (hourM (st.names.map (llagz st)) (st.names.map (lshare st))).1 = firstM (List.zipWith addP (st.names.map (llagz st)) (st.names.map (lshare st))) := rfl
  rw [e0] at hd li
  have e1 : itemP (List.zipWith addP (st.names.map (llagz st)) (st.names.map (lshare st))) (firstM (List.zipWith addP (st.names.map (llagz st)) (st.names.map (lshare st)))) = addP (llagz st (dueS st)) (lshare st (dueS st)) := by
    generalize firstM (List.zipWith addP (st.names.map (llagz st)) (st.names.map (lshare st))) = i at hd
    unfold itemP
    rw [List.getD_eq_getElem?_getD, List.getElem?_zipWith, List.getElem?_map, List.getElem?_map, hd]
    rfl
  rw [e1, val_add (pl z) (ps z), val_add (pl _) (ps _)] at m
  exact m
theorem lag_hr {D : Int} {k : Nat} {st : LSt} (lw : Lw D k st) {z : Str} (hz : z ∈ st.names) (hd : dueS st ∈ st.names) (ne : z ≠ dueS st) : val (llagz (hourS st) z) = val (llagz st z) + val (lshare st z) := by
  have g0 := item_pt (fun x hx => (lw.gn x hx).1) (idxS st.names z)
  have e1 : llagz (hourS st) z = subP (addP (gainOf st z) (lshare st z)) (cntOf st z, 1) := by
    show subP (gainOf (hourS st) z) (cntOf (hourS st) z, 1) = _
    rw [gain_hour hz, cnt_hour lw.wl.c hz hd, if_neg ne]
  have e2 : llagz st z = subP (gainOf st z) (cntOf st z, 1) := rfl
  have ps := (lw.pShare z).pos
  have pg : 0 < (gainOf st z).2 := g0.pos
  have pa : 0 < (addP (gainOf st z) (lshare st z)).2 := (addP_low pg ps).pos
  rw [e1, e2, val_sub pa (by show (0 : Int) < 1; decide), val_sub pg (by show (0 : Int) < 1; decide), val_add pg ps]
  grind
theorem lag_due {D : Int} {k : Nat} {st : LSt} (lw : Lw D k st) (hd : dueS st ∈ st.names) : val (llagz (hourS st) (dueS st)) = val (llagz st (dueS st)) + val (lshare st (dueS st)) - 1 := by
  have g0 := item_pt (fun x hx => (lw.gn x hx).1) (idxS st.names (dueS st))
  have e1 : llagz (hourS st) (dueS st) = subP (addP (gainOf st (dueS st)) (lshare st (dueS st))) (cntOf st (dueS st) + 1, 1) := by
    show subP (gainOf (hourS st) (dueS st)) (cntOf (hourS st) (dueS st), 1) = _
    rw [gain_hour hd, cnt_hour lw.wl.c hd hd, if_pos rfl]
  have e2 : llagz st (dueS st) = subP (gainOf st (dueS st)) (cntOf st (dueS st), 1) := rfl
  have ps := (lw.pShare (dueS st)).pos
  have pg : 0 < (gainOf st (dueS st)).2 := g0.pos
  have pa : 0 < (addP (gainOf st (dueS st)) (lshare st (dueS st))).2 := (addP_low pg ps).pos
  rw [e1, e2, val_sub pa (by show (0 : Int) < 1; decide), val_sub pg (by show (0 : Int) < 1; decide), val_add pg ps, val_int, val_int, Rat.intCast_add]
  have e3 : ((1 : Int) : Rat) = 1 := rfl
  rw [e3]
  grind
abbrev fr1 (k : Nat) : Rat := 1 / (k : Rat)
/-- those of W wait, all alike; all others are done -/
structure Ch (st : LSt) (W : List Str) (n : Nat) : Prop where
  ln : st.loans = []
  sub : ∀ z ∈ W, z ∈ st.names
  nd : W.Nodup
  nn : st.names.length = n
  own : ∀ z ∈ st.names, ov st z = if z ∈ W then fr1 W.length else 0
  lag : ∀ z ∈ W, val (llagz st z) = hk n W.length
  gone : ∀ z ∈ st.names, z ∉ W → val (llagz st z) + 1 ≤ hk n W.length
/-- y has had its turn; the first j of W have their part of it -/
structure Cs (st : LSt) (y : Str) (W : List Str) (n j : Nat) : Prop where
  ln : st.loans = []
  sub : ∀ z ∈ W, z ∈ st.names
  nd : W.Nodup
  nn : st.names.length = n
  yn : y ∈ st.names
  yw : y ∉ W
  oy : ov st y = fr1 (W.length + 1) - (j : Rat) * (fr1 W.length - fr1 (W.length + 1))
  own : ∀ z ∈ st.names, z ≠ y → ov st z = if z ∈ W.take j then fr1 W.length else if z ∈ W then fr1 (W.length + 1) else 0
  lag : ∀ z ∈ W, val (llagz st z) = hk n W.length
  gone : ∀ z ∈ st.names, z ∉ W → val (llagz st z) + 1 ≤ hk n W.length
theorem fr1_pos {k : Nat} (h : 0 < k) : (0 : Rat) < fr1 k := (Rat.lt_div_iff (Rat.intCast_pos.2 (by omega : (0 : Int) < (k : Int)))).2 (by grind)
theorem Ch.due {D : Int} {k N n : Nat} {st : LSt} {W : List Str} (h : Ch st W n) (lw : Lw D k st) (lo : LOk N st) (w0 : 0 < W.length) : dueS st ∈ W := by
  refine Classical.byContradiction fun hn => ?_
  obtain ⟨u, hu⟩ := List.exists_mem_of_length_pos w0
  have hd := due_in lo lw.n0
  have m := due_max lw lo (h.sub u hu)
  rw [ov_share lw h.ln, ov_share lw h.ln, h.own u (h.sub u hu), if_pos hu, h.own _ hd, if_neg hn, h.lag u hu] at m
  have g := h.gone _ hd hn
  have p := fr1_pos w0
  grind
theorem nodup_le : ∀ {W ns : List Str}, W.Nodup → (∀ z ∈ W, z ∈ ns) → W.length ≤ ns.length
  | [], _, _, _ => Nat.zero_le _
  | w :: W, ns, hd, h => by
    have hw := h w (by simp)
    have nd := List.nodup_cons.1 hd
    have ih := nodup_le (W := W) (ns := ns.erase w) nd.2 fun z hz => (List.mem_erase_of_ne (fun e => nd.1 (by rw [← e]; exact hz))).2 (h z (by simp [hz]))
    rw [List.length_erase_of_mem hw] at ih
    have := List.length_pos_of_mem hw
    rw [List.length_cons]
    omega
theorem fr1_step {n k : Nat} (h : k < n) : hk n k = fr1 (k + 1) + hk n (k + 1) := hk_step h
theorem Ch.le {st : LSt} {W : List Str} {n : Nat} (h : Ch st W n) : W.length ≤ n := by
  rw [← h.nn]
  exact nodup_le h.nd h.sub
theorem Ch.hour {D : Int} {k N n j : Nat} {st : LSt} {W : List Str} (h : Ch st W n) (lw : Lw D k st) (lo : LOk N st) (w0 : W.length = j + 1) : Cs (hourS st) (dueS st) (W.erase (dueS st)) n 0 := by
  have hW := h.due lw lo (by omega)
  have hd := h.sub _ hW
  have wl : (W.erase (dueS st)).length = j := by rw [List.length_erase_of_mem hW]; omega
  have wn := h.le
  have mem : ∀ z, z ∈ W.erase (dueS st) ↔ z ≠ dueS st ∧ z ∈ W := fun z => h.nd.mem_erase_iff
  have stp := fr1_step (n := n) (k := j) (by omega)
  have p1 := fr1_pos (k := j + 1) (by omega)
  refine ⟨by show decD st.loans = []; rw [h.ln]; rfl, fun z hz => h.sub z ((mem z).1 hz).2, h.nd.erase _, h.nn, hd, fun z => ((mem _).1 z).1 rfl, ?_, fun z hz ne => ?_, fun z hz => ?_, fun z hz nz => ?_⟩
  · show ov st (dueS st) = _
    rw [h.own _ hd, if_pos hW, w0, wl]
    show fr1 (j + 1) = fr1 (j + 1) - ((0 : Nat) : Rat) * _
    have : ((0 : Nat) : Rat) = 0 := rfl
    rw [this]
    grind
  · show ov st z = _
    rw [List.take_zero, if_neg (by simp), wl, h.own z hz, w0]
    by_cases hz' : z ∈ W
    · rw [if_pos hz', if_pos ((mem z).2 ⟨ne, hz'⟩)]
    · rw [if_neg hz', if_neg (fun q => hz' ((mem z).1 q).2)]
  · obtain ⟨ne, hz'⟩ := (mem z).1 hz
    rw [lag_hr lw (h.sub z hz') hd ne, h.lag z hz', ov_share lw h.ln, h.own z (h.sub z hz'), if_pos hz', w0, wl, stp]
    grind
  · have hz : z ∈ st.names := hz
    rw [wl, stp]
    by_cases e : z = dueS st
    · rw [e, lag_due lw hd, h.lag _ hW, ov_share lw h.ln, h.own _ hd, if_pos hW, w0]
      grind
    · have nz' : z ∉ W := fun q => nz ((mem z).2 ⟨e, q⟩)
      have g := h.gone z hz nz'
      rw [w0] at g
      rw [lag_hr lw hz hd e, ov_share lw h.ln, h.own z hz, if_neg nz']
      grind
theorem fr1_diff {k : Nat} (h : 0 < k) : val (((1 : Int), (k : Int) * ((k : Int) + 1)) : Q2) = fr1 k - fr1 (k + 1) ∧ (k : Rat) * (fr1 k - fr1 (k + 1)) = fr1 (k + 1) := by
  have p : (0 : Rat) < (k : Rat) := Rat.intCast_pos.2 (by omega : (0 : Int) < (k : Int))
  have e : (((k + 1 : Nat)) : Rat) = (k : Rat) + 1 := by simp
  unfold val fr1
  rw [e]
  show (((1 : Int)) : Rat) / (((k : Int) * ((k : Int) + 1) : Int) : Rat) = _ ∧ _
  rw [Rat.intCast_mul, Rat.intCast_add]
  have e1 : ((1 : Int) : Rat) = 1 := rfl
  have e2 : (((k : Nat) : Int) : Rat) = (k : Rat) := rfl
  rw [e1, e2]
  have n1 : (k : Rat) ≠ 0 := by grind
  have n2 : (k : Rat) + 1 ≠ 0 := by grind
  constructor <;> grind
theorem Cs.ok {D : Int} {k n j : Nat} {st : LSt} {W : List Str} {y z : Str} (h : Cs st y W n j) (lw : Lw D k st) (ez : W[j]? = some z) : wordS st (.sell y z ((1 : Int), (W.length : Int) * ((W.length : Int) + 1))) = none := by
  have hz := List.mem_of_getElem? ez
  have hj := (List.getElem?_eq_some_iff.1 ez).1
  have hzn := h.sub z hz
  have ne : y ≠ z := fun e => h.yw (e ▸ hz)
  have bp : (0 : Int) < (W.length : Int) * ((W.length : Int) + 1) := Int.mul_pos (by omega) (by omega)
  simp only [wordS, judgeG]
  rw [if_neg (fun q => q ⟨h.yn, hzn⟩), if_neg ne, if_neg (fun q => q (show (0 : Int) < 1 by decide)), if_neg (fun q => ?_)]
  have lt := (lessP_iff (lw.pFree y).pos bp).1 q
  obtain ⟨d1, d2⟩ := fr1_diff (k := W.length) (by omega)
  rw [ov_free lw h.ln, h.oy, d1] at lt
  have dpos : 0 ≤ fr1 W.length - fr1 (W.length + 1) := by
    have := (v_pos (y := ((1 : Int), (W.length : Int) * ((W.length : Int) + 1))) bp).1 (show (0 : Int) < 1 by decide)
    rw [d1] at this
    exact Rat.le_of_lt this
  have le : ((j + 1 : Int) : Rat) ≤ ((W.length : Int) : Rat) := Rat.intCast_le_intCast.2 (by omega)
  rw [Rat.intCast_add] at le
  have e1 : ((1 : Int) : Rat) = 1 := rfl
  have e2 : (((j : Nat) : Int) : Rat) = (j : Rat) := rfl
  have e3 : (((W.length : Nat) : Int) : Rat) = (W.length : Rat) := rfl
  rw [e1, e2, e3] at le
  have m := Rat.mul_le_mul_of_nonneg_right le dpos
  clear le e1 e2 e3 d1
  generalize fr1 W.length - fr1 (W.length + 1) = dd at lt m d2 dpos
  generalize fr1 (W.length + 1) = B at lt d2
  generalize (W.length : Rat) = wv at m d2
  generalize (j : Rat) = jv at m lt
  grind
theorem Cs.sell {D : Int} {k n j : Nat} {st : LSt} {W : List Str} {y z : Str} (h : Cs st y W n j) (lw : Lw D k st) (ez : W[j]? = some z) : Cs (moveS st y z ((1 : Int), (W.length : Int) * ((W.length : Int) + 1))) y W n (j + 1) := by
  have hz := List.mem_of_getElem? ez
  have hj := (List.getElem?_eq_some_iff.1 ez).1
  have hzn := h.sub z hz
  have ne : z ≠ y := fun e => h.yw (e ▸ hz)
  have bp : (0 : Int) < (W.length : Int) * ((W.length : Int) + 1) := Int.mul_pos (by omega) (by omega)
  obtain ⟨d1, d2⟩ := fr1_diff (k := W.length) (by omega)
  have tk : W.take (j + 1) = W.take j ++ [z] := by rw [List.take_add_one, ez]; rfl
  have nt : z ∉ W.take j := fun q => by
    obtain ⟨i, hi⟩ := List.mem_iff_getElem?.1 q
    rw [List.getElem?_take] at hi
    by_cases hij : i < j
    · rw [if_pos hij] at hi
      have := (List.getElem?_inj (by omega) h.nd).1 (hi.trans ez.symm)
      omega
    · rw [if_neg hij] at hi; cases hi
  refine ⟨h.ln, h.sub, h.nd, h.nn, h.yn, h.yw, ?_, fun u hu nu => ?_, h.lag, h.gone⟩
  · rw [ov_move lw h.yn hzn bp h.yn, if_pos rfl, if_neg (Ne.symm ne), d1, h.oy]
    have : ((j + 1 : Nat) : Rat) = (j : Rat) + 1 := by simp
    rw [this]
    grind
  · have hu : u ∈ st.names := hu
    rw [ov_move lw h.yn hzn bp hu, if_neg nu, d1, h.own u hu nu, tk]
    by_cases e : u = z
    · subst e
      rw [if_pos rfl, if_neg nt, if_pos hz, if_pos (by simp)]
      grind
    · rw [if_neg e]
      have : (u ∈ W.take j ++ [z]) = (u ∈ W.take j) := by simp [e]
      simp only [this]
      grind
theorem Cs.fin {n : Nat} {st : LSt} {W : List Str} {y : Str} (h : Cs st y W n W.length) (w0 : 0 < W.length) : Ch st W n := by
  refine ⟨h.ln, h.sub, h.nd, h.nn, fun z hz => ?_, h.lag, h.gone⟩
  by_cases e : z = y
  · subst e
    rw [if_neg h.yw, h.oy, (fr1_diff w0).2]
    grind
  · rw [h.own z hz e, List.take_of_length_le (Nat.le_refl _)]
    by_cases hw : z ∈ W
    · rw [if_pos hw, if_pos hw]
    · rw [if_neg hw, if_neg hw, if_neg hw]
/-! ### how it begins: n fields, to each its n-th part -/
theorem NoHrs.join {st : LSt} {z : Str} (h : NoHrs st) : NoHrs (joinS st z) := ⟨fun x hx => by
    rcases List.mem_append.1 (show x ∈ st.gain ++ [(0, 1)] from hx) with q | q
    · exact h.g x q
    · exact List.mem_singleton.1 q, fun x hx => by
    rcases List.mem_append.1 (show x ∈ st.cnt ++ [0] from hx) with q | q
    · exact h.c x q
    · exact List.mem_singleton.1 q, h.l, h.w, h.d⟩
theorem NoHrs.move {st : LSt} {a b : Str} {x : Q2} (h : NoHrs st) : NoHrs (moveS st a b x) := ⟨h.g, h.c, h.l, h.w, h.d⟩
theorem NoHrs.lag {D : Int} {k : Nat} {st : LSt} (h : NoHrs st) (lw : Lw D k st) {z : Str} (hz : z ∈ st.names) : val (llagz st z) = 0 := by
  have hi := idx_lt hz
  have g : itemP st.gain (idxS st.names z) = (0, 1) := h.g _ (item_mem (by rw [lw.wl.g]; exact hi))
  have c : st.cnt.getD (idxS st.names z) 0 = 0 := by
    rw [List.getD_eq_getElem?_getD, List.getElem?_eq_getElem (by rw [lw.wl.c]; exact hi)]
    exact h.c _ (List.getElem_mem _)
  unfold llagz llag
  rw [g, c, s00, val_zero']
structure Bs (st : LSt) (zs : List Str) (z0 : Str) (n i : Nat) : Prop where
  nh : NoHrs st
  nm : st.names = zs.take (i + 1)
  z0n : z0 ∈ st.names
  o0 : ov st z0 = 1 - (i : Rat) * fr1 n
  on : ∀ z ∈ st.names, z ≠ z0 → ov st z = fr1 n
theorem Bs.new {zs : List Str} {z0 : Str} {n : Nat} (e : zs[0]? = some z0) : Bs (freshS z0) zs z0 n 0 := by
  have e1 : zs.take 1 = [z0] := by
    cases zs with
    | nil => cases e
    | cons a r => rw [show a = z0 from Option.some.inj e]; rfl
  refine ⟨⟨fun x hx => List.mem_singleton.1 hx, fun x hx => List.mem_singleton.1 hx, rfl, rfl, rfl⟩, e1.symm, by show z0 ∈ [z0]; simp, ?_, fun z hz ne => absurd (List.mem_singleton.1 hz) ne⟩
  have : idxS [z0] z0 = 0 := idx_nodup (l := [z0]) (by simp) rfl
  show val (itemP [(1, 1)] (idxS [z0] z0)) = 1 - ((0 : Nat) : Rat) * fr1 n
  rw [this, show itemP [((1 : Int), (1 : Int))] 0 = (1, 1) from rfl, val_one']
  have : ((0 : Nat) : Rat) = 0 := rfl
  rw [this]
  grind
theorem ov_join {D : Int} {k : Nat} {st : LSt} (lw : Lw D k st) {z u : Str} (hz : z ∉ st.names) (hu : u ∈ st.names ∨ u = z) : ov (joinS st z) u = if u = z then 0 else ov st u := by
  unfold ov
  show val (itemP (st.own ++ [(0, 1)]) (idxS (st.names ++ [z]) u)) = _
  rcases hu with hu | rfl
  · have hi := idx_lt hu
    rw [if_neg (fun e : u = z => hz (by rw [← e]; exact hu)), idx_left hu]
    unfold itemP
    rw [getD_left (by rw [lw.wl.o]; exact hi)]
  · rw [if_pos rfl, idx_new' hz, ← lw.wl.o, show st.own.length = st.own.length + 0 from rfl, item_app_r, show itemP [((0 : Int), (1 : Int))] 0 = (0, 1) from rfl, val_zero']
section
variable {D : Int} {k n i : Nat} {st : LSt} {zs : List Str} {z0 z : Str}
theorem Bs.fresh (h : Bs st zs z0 n i) (nd : zs.Nodup) (ez : zs[i + 1]? = some z) : z ∉ st.names := fun q => by
  rw [h.nm] at q
  obtain ⟨j, hj⟩ := List.mem_iff_getElem?.1 q
  rw [List.getElem?_take] at hj
  by_cases hl : j < i + 1
  · rw [if_pos hl] at hj
    have := (List.getElem?_inj (List.getElem?_eq_some_iff.1 hj).1 nd).1 (hj.trans ez.symm)
    omega
  · rw [if_neg hl] at hj; cases hj
theorem Bs.ok1 (h : Bs st zs z0 n i) (nd : zs.Nodup) (ez : zs[i + 1]? = some z) (nb : nameB z = true) (hn : i + 2 ≤ 24) : wordS st (.settle z) = none := by
  simp only [wordS, judgeG]
  rw [if_neg (by rw [nb]; simp), if_neg (h.fresh nd ez), if_neg]
  have := congrArg List.length h.nm
  rw [List.length_take] at this
  omega
theorem Bs.ok2 {D' : Int} {k' : Nat} (h : Bs st zs z0 n i) (lw : Lw D k st) (lw' : Lw D' k' (joinS st z)) (nd : zs.Nodup) (ez : zs[i + 1]? = some z) (hi : i + 1 < n) : wordS (joinS st z) (.sell z0 z ((1 : Int), (n : Int))) = none := by
  have fz := h.fresh nd ez
  have ne : z0 ≠ z := fun e => fz (e ▸ h.z0n)
  have np : (0 : Int) < (n : Int) := by omega
  simp only [wordS, judgeG]
  rw [if_neg (fun q => q ⟨List.mem_append_left _ h.z0n, by show z ∈ st.names ++ [z]; simp⟩), if_neg ne, if_neg (fun q => q (show (0 : Int) < 1 by decide)), if_neg (fun q => ?_)]
  have lt := (lessP_iff (lw'.pFree z0).pos np).1 q
  rw [ov_free lw' h.nh.l, ov_join lw fz (.inl h.z0n), if_neg ne, h.o0] at lt
  have e1 : val (((1 : Int), (n : Int)) : Q2) = fr1 n := rfl
  rw [e1] at lt
  have p := fr1_pos (k := n) (by omega)
  have e2 : (n : Rat) * fr1 n = 1 := by
    have n1 : (n : Rat) ≠ 0 := by
      have : (0 : Rat) < (n : Rat) := Rat.intCast_pos.2 np
      grind
    unfold fr1
    grind
  have le : ((i + 1 : Int) : Rat) ≤ ((n : Int) : Rat) := Rat.intCast_le_intCast.2 (by omega)
  rw [Rat.intCast_add] at le
  have e3 : ((1 : Int) : Rat) = 1 := rfl
  have e4 : (((i : Nat) : Int) : Rat) = (i : Rat) := rfl
  have e5 : (((n : Nat) : Int) : Rat) = (n : Rat) := rfl
  rw [e3, e4, e5] at le
  have m := Rat.mul_le_mul_of_nonneg_right le (Rat.le_of_lt p)
  clear le e3 e4 e5 e1
  generalize fr1 n = B at lt m e2 p
  generalize (n : Rat) = nv at m e2
  generalize (i : Rat) = iv at m lt
  grind
theorem Bs.step {D' : Int} {k' : Nat} (h : Bs st zs z0 n i) (lw : Lw D k st) (lw' : Lw D' k' (joinS st z)) (nd : zs.Nodup) (ez : zs[i + 1]? = some z) (n0 : 0 < n) : Bs (moveS (joinS st z) z0 z ((1 : Int), (n : Int))) zs z0 n (i + 1) := by
  have fz := h.fresh nd ez
  have ne : z0 ≠ z := fun e => fz (e ▸ h.z0n)
  have np : (0 : Int) < (n : Int) := by omega
  have e1 : val (((1 : Int), (n : Int)) : Q2) = fr1 n := rfl
  have a0 : z0 ∈ (joinS st z).names := List.mem_append_left _ h.z0n
  have az : z ∈ (joinS st z).names := by show z ∈ st.names ++ [z]; simp
  refine ⟨h.nh.join.move, ?_, a0, ?_, fun u hu nu => ?_⟩
  · show st.names ++ [z] = _
    rw [h.nm, List.take_add_one (i := i + 1), ez]
    rfl
  · rw [ov_move lw' a0 az np a0, if_pos rfl, if_neg ne, ov_join lw fz (.inl h.z0n), if_neg ne, h.o0, e1]
    have : ((i + 1 : Nat) : Rat) = (i : Rat) + 1 := by simp
    rw [this]
    grind
  · have hu : u ∈ st.names ++ [z] := hu
    have hu' : u ∈ st.names ∨ u = z := by simpa using hu
    rw [ov_move lw' a0 az np (show u ∈ (joinS st z).names from hu), if_neg nu, ov_join lw fz hu', e1]
    by_cases e : u = z
    · rw [if_pos e, if_pos e]
      grind
    · rw [if_neg e, if_neg e, h.on u (hu'.resolve_right e) nu]
      grind
theorem Bs.ch {W : List Str} (h : Bs st zs z0 n i) (lw : Lw D k st) (hi : i + 1 = n) (hl : n ≤ zs.length) (nd : W.Nodup) (wl : W.length = n) (mem : ∀ z, z ∈ W ↔ z ∈ zs.take n) : Ch st W n := by
  have nm : st.names = zs.take n := by rw [h.nm, hi]
  have all : ∀ z ∈ st.names, z ∈ W := fun z hz => (mem z).2 (nm ▸ hz)
  refine ⟨h.nh.l, fun z hz => nm ▸ (mem z).1 hz, nd, by rw [nm, List.length_take]; omega, fun z hz => ?_, fun z hz => ?_, fun z hz nz => absurd (all z hz) nz⟩
  · rw [if_pos (all z hz), wl]
    by_cases e : z = z0
    · rw [e, h.o0, ← hi]
      have n1 : ((i + 1 : Nat) : Rat) ≠ 0 := by
        have : (0 : Rat) < ((i + 1 : Nat) : Rat) := Rat.intCast_pos.2 (by omega : (0 : Int) < ((i + 1 : Nat) : Int))
        grind
      have e2 : ((i + 1 : Nat) : Rat) = (i : Rat) + 1 := by simp
      unfold fr1
      rw [e2] at n1 ⊢
      grind
    · exact h.on z hz e
  · rw [h.nh.lag lw (nm ▸ (mem z).1 hz), wl]
    exact (hk_self n).symm
end
end DT

namespace DT
open PySem PySem.Spec PyProof.Rows L2 TL
-- END @foec.lean
end DT
namespace DT
open PySem PySem.Spec PyProof.Rows L2
theorem glue_del {R : List Addr} {H G : Hp} (hn : ∀ b ∈ R, G b = none) : del R (glue R H G) = G := by
  funext b
  by_cases hb : b ∈ R
  · rw [del_in hb, hn b hb]
  · rw [del_out hb, glue_out hb]
/-- a ditch with its state, the objects M aside; k deeds so far -/
structure Fo (K : PySem.W.Frag) (CM C : Addr) (B : Hp) (d dx p : Addr) (M : List Addr) (H : Hp) (nn u : Addr) (m : Mo) (st : LSt) (ps us : List V) (k : Nat) : Prop where
  di : DiAt K CM C (del M H) d dx nn p u m ps us
  rl : Rl m st
  so : So (8 * k + 8) k st
  pl : ps.length ≤ k
  kp : ∀ b o, B b = some o → del (mu d dx p u) (del M H) b = some o
  kk : Kp m
section
variable {K : PySem.W.Frag} {CM C : Addr} {B : Hp} {d dx p : Addr} {M : List Addr} {H H' : Hp} {nn u : Addr} {m : Mo} {st : LSt} {ps us : List V} {k : Nat}
theorem Fo.same (h : Fo K CM C B d dx p M H nn u m st ps us k) (e : Same H H') : Fo K CM C B d dx p M H' nn u m st ps us k :=
  ⟨h.di.same (del_mono e), h.rl, h.so, h.pl, fun b o q => del_mono (del_mono e) _ _ (h.kp b o q), h.kk⟩
theorem Fo.keep (h : Fo K CM C B d dx p M H nn u m st ps us k) {b : Addr} {o : HO} (e : B b = some o) : H b = some o := del_same _ _ (del_same _ _ (h.kp b o e))
theorem Fo.full (h : Fo K CM C B d dx p M H nn u m st ps us k) : DiAt K CM C H d dx nn p u m ps us := h.di.same del_same
theorem Fo.wf (h : Fo K CM C B d dx p M H nn u m st ps us k) : Wf m := by
  obtain ⟨D, lw, _⟩ := h.so
  exact h.rl.wf lw lw.short
theorem Fo.mok {dd : De} {f : Int} (h : Fo K CM C B d dx p M H nn u m st ps us k) (dr : ∀ D, Lw D k st → Dr D f dd) (f1 : 1 ≤ f) (f2 : f ≤ 2 ^ 8) (hk : k ≤ 200) : MOk 1850 m dd := by
  obtain ⟨D, lw, bd⟩ := h.so
  have f22 : f ≤ 2 ^ 22 := Int.le_trans f2 (by decide)
  exact (led_deed lw h.rl (dr D lw) f1 f22 (So.b22 lw bd (by omega)) (by omega)).2.2.1
theorem Fo.res {ca : Rf → Addr} {dd : De} {f : Int} {Q : VK} {E : XK} (h : Fo K CM C B d dx p M H nn u m st ps us k) (dr : ∀ D, Lw D k st → Dr D f dd) (f1 : 1 ≤ f) (f2 : f ≤ 2 ^ 8) (ok : wordS st dd = none) (hk : k ≤ 200)
    (q : ∀ H' u' r ps', Fo K CM C B d dx p M H' r u' (doneE m dd) (didE st dd) ps' [] (k + 1) → (∀ b ∈ M, H' b = H b) → Same (del (mu d dx p u) (del M H)) (del (mu d dx p u') (del M H')) → Q (retE m dd) H') :
    Res K CM C ca (del M H) d dx nn p u m ps dd (fun v G => (∀ b ∈ M, G b = none) → Q v (glue M H G)) E := by
  obtain ⟨D, lw, bd⟩ := h.so
  have f22 : f ≤ 2 ^ 22 := Int.le_trans f2 (by decide)
  have b30 : D < 2 ^ 1829 := Int.lt_of_lt_of_le bd (pow_le (by omega))
  obtain ⟨lo, wf, mok, dok, jd, _, did⟩ := led_deed lw h.rl (dr D lw) f1 f22 (So.b22 lw bd (by omega)) (by omega)
  obtain ⟨_, rl'⟩ := did ok
  have so' : So (8 * k + 8 + 8) (k + 1) (didE st dd) := So.step (j := 8) lw bd (dr D lw) f1 f2 (by omega) ok
  have kk' := h.kk.step h.rl lw b30 (by omega) ok rl'
  unfold Res
  rw [jd, ok]
  intro G u' r tt t sG di' et dv nu hn
  have eG : del M (glue M H G) = G := glue_del hn
  refine q _ u' r (ps ++ [.ref tt]) ⟨by rw [eG]; exact di', rl', so'.upK (by omega) (Nat.le_refl _), by rw [List.length_append]; exact Nat.succ_le_succ h.pl, fun b o e => by rw [eG]; exact sG _ _ (h.kp b o e), kk'⟩ (fun b hb => glue_in hb) (by rw [eG]; exact sG)
end
theorem dr_sell {D : Int} {k : Nat} {st : LSt} (lw : Lw D k st) {a b : Str} (ha : a ∈ st.names) (hb : b ∈ st.names) {q : Int} (q1 : 1 ≤ q) : Dr D q (.sell a b (1, q)) := by
  have v0 : (0 : Rat) ≤ val ((1, q) : Q2) := Rat.le_of_lt ((v_pos (y := ((1 : Int), q)) (by show 0 < q; omega)).1 (show (0 : Int) < 1 by decide))
  have v1 : val ((1, q) : Q2) ≤ 1 := by
    exact (v_le (y := ((1 : Int), q)) (by show 0 < q; omega)).1 q1
  have m1 : ((-1000000 : Int) : Rat) ≤ 0 := by decide +kernel
  have m2 : (1 : Rat) ≤ ((1000000 : Int) : Rat) := by decide +kernel
  exact ⟨lw.short _ ha, lw.short _ hb, ⟨⟨by show 0 < q; omega, by show Int.gcd 1 q = 1; exact Int.one_gcd⟩, Int.dvd_mul_left D q⟩, Rat.le_trans m1 v0, Rat.le_trans v1 m2⟩
theorem same0 {H : Hp} : Same H (del [] H) := fun b o e => by rw [del_out (by simp)]; exact e
theorem Fo.move {K : PySem.W.Frag} {CM C : Addr} {B : Hp} {d dx p : Addr} {M M' : List Addr} {H H' : Hp} {nn u : Addr} {m : Mo} {st : LSt} {ps us : List V} {k : Nat} (h : Fo K CM C B d dx p M H nn u m st ps us k) (e : Same (del M H) (del M' H')) : Fo K CM C B d dx p M' H' nn u m st ps us k :=
  ⟨h.di.same e, h.rl, h.so, h.pl, fun b o q => del_mono e _ _ (h.kp b o q), h.kk⟩
theorem fo_new {H : Hp} {l : Addr} {o : HO} (nl : H l = none) : Same (del [] H) (del [l] (upd H l o)) := fun b x e => by
  have e := del_same _ _ e
  have ne : b ≠ l := ne_of_none e nl
  rw [del_out (by simpa using ne), upd_ne ne]
  exact e
theorem fo_put {H : Hp} {l : Addr} {o : HO} : del [l] (upd H l o) = del [l] H := by
  funext b
  by_cases hb : b = l
  · rw [del_in (by simp [hb]), del_in (by simp [hb])]
  · rw [del_out (by simpa using hb), del_out (by simpa using hb), upd_ne hb]
theorem cut_tkF {vs : List V} {n : Nat} (h : n ≤ vs.length) : cutV vs none (some (n : Int)) = vs.take n := by
  unfold cutV
  rw [HT.sIx_none, HT.sIx_nat, List.drop_zero, Nat.sub_zero, Nat.min_eq_left h]
theorem cut_drF {vs : List V} {n : Nat} (h : n ≤ vs.length) : cutV vs (some (n : Int)) none = vs.drop n := by
  unfold cutV
  rw [HT.sIx_none, HT.sIx_nat, Nat.min_eq_left h]
  rw [List.take_of_length_le (by rw [List.length_drop]; omega)]
theorem nodup_swap {a b : List Str} (h : (a ++ b).Nodup) : (b ++ a).Nodup := by
  rw [List.nodup_append] at h ⊢
  exact ⟨h.2.1, h.1, fun x hx y hy e => h.2.2 y hy x hx e.symm⟩
/-- the place of a text in a list without doubles, as remove finds it -/
theorem rem_at {W : List Str} {y : Str} (nd : W.Nodup) (hy : y ∈ W) : ∃ i, W[i]? = some y ∧ (∀ m, m < i → W[m]? ≠ some y) ∧ W.eraseIdx i = W.erase y := by
  have hi := idx_at hy
  have il := idx_lt hy
  have e : idxS W y = W.idxOf y := by
    have a : W.idxOf y < W.length := List.idxOf_lt_length_of_mem hy
    have b : W[W.idxOf y] = y := List.getElem_idxOf a
    exact idx_nodup nd (by rw [List.getElem?_eq_getElem a, b])
  refine ⟨idxS W y, hi, fun m hm q => ?_, ?_⟩
  · have := (List.getElem?_inj (by omega) nd).1 (q.trans hi.symm)
    omega
  · rw [e]
    exact (List.erase_eq_eraseIdx_of_idxOf rfl).symm
theorem lmost_all : ∀ n : Nat, n < 13 → ∀ k : Nat, k < 13 → 1 ≤ k → k ≤ n → (0 < (lmost (n : Int) (k : Int)).2 ∧ Int.gcd (lmost (n : Int) (k : Int)).1 (lmost (n : Int) (k : Int)).2 = 1) ∧ val (lmost (n : Int) (k : Int)) = (k : Rat) * hk n k := by decide +kernel
theorem low1 {q : Int} (h : 0 < q) : lowP 1 q = (1, q) := by
  obtain ⟨h1, h2⟩ := low_self (a := 1) (b := q) ⟨h, Int.one_gcd⟩
  unfold lowP
  rw [h1, h2]
end DT

namespace DT
open PySem PySem.Spec PyProof.Rows L2 TL
-- END @fo.lean
end DT
namespace DT
open PySem PySem.Spec PyProof.Rows L2
/-! ### list.remove of a text -/
/-- the sign by which a value is the text sought -/
def isTx (z : Str) : Value → Bool
  | .str y _ => y.cps.toList == z.cps.toList
  | _ => false
theorem texts_eq {z : Str} {t : Tok} {zs : List Str} {us : List Value} (h : Vals (zs.map V.str) us) {y : Value} (hy : y ∈ us) : MeetsSeq.EqGives y (.str z t) (isTx z y) := by
  obtain ⟨i, hi, rfl⟩ := List.getElem_of_mem hy
  have hl := Vals.length h
  rw [List.length_map] at hl
  obtain ⟨u, e1, e2⟩ := Vals.get h (i := i) (x := .str (zs[i]'(by omega))) (by rw [List.getElem?_map, List.getElem?_eq_getElem (by omega)]; rfl)
  rw [List.getElem?_eq_getElem hi] at e1
  obtain ⟨tk, e3⟩ := e2
  rw [Option.some.inj e1, e3]
  exact SeqRoads2.EqGives.str _ _ _ _
theorem isTx_at {z : Str} {zs : List Str} {us : List Value} (h : Vals (zs.map V.str) us) {i : Nat} {y : Str} (hi : zs[i]? = some y) (hu : i < us.length) : isTx z us[i] = decide (y = z) := by
  obtain ⟨u, e1, tk, e3⟩ := Vals.get h (i := i) (x := .str y) (by rw [List.getElem?_map, hi]; rfl)
  rw [List.getElem?_eq_getElem hu] at e1
  rw [Option.some.inj e1, e3]
  show (y.cps.toList == z.cps.toList) = _
  by_cases e : y = z
  · rw [e, decide_eq_true rfl]
    exact beq_self_eq_true _
  · rw [decide_eq_false e]
    exact beq_eq_false_iff_ne.2 fun q => e (TL.ext_tl q)
theorem strs_erase (zs : List Str) (j : Nat) : (zs.map V.str).eraseIdx j = (zs.eraseIdx j).map V.str := by
  induction zs generalizing j with
  | nil => simp
  | cons a r ih =>
    cases j with
    | zero => simp
    | succ j => simp [ih j]
/-- xs.remove(y), y a text of the list, at its first place -/
theorem mt_removeS {X : Cx} : MtM X "list.remove" (fun x xs H Q => ∃ (l : Addr) (zs : List Str) (z : Str) (j : Nat), x = .ref l ∧ xs = [.str z] ∧ H l = some (.lst (zs.map V.str)) ∧ zs[j]? = some z ∧ (∀ m, m < j → zs[m]? ≠ some z) ∧ Q .non (upd H l (.lst ((zs.eraseIdx j).map V.str)))) := by
  intro pins s σ H x xs v us Q I rx rxs h
  obtain ⟨l, zs, z, j, rfl, rfl, hH, hj, first, q⟩ := h
  cases rx
  obtain ⟨u, rfl, t, rfl⟩ := rxs.one
  obtain ⟨small, its, n, r, hl, e⟩ := I.lstM hH
  rw [List.length_map] at hl small
  have jz : j < zs.length := (List.getElem?_eq_some_iff.1 hj).1
  have ji : j < its.length := by omega
  have re := r.eraseIdx j
  rw [strs_erase] at re
  refine call_meets PySem.F.slot_list_remove ⟨_, e, rfl⟩ PySem.F.entry_list_remove (PySem.F.args_list_remove_2 _ _) (MeetsSeq.list_remove l its.toArray n (.str z t) (isTx z) (fun y hy => texts_eq r (by simpa using hy)) j (by simpa using ji) ?_ (fun m hm lt => ?_) (by rw [List.size_toArray]; omega)) ⟨e, .non, _, I.lset (its' := its.eraseIdx j) (t' := s.toks) hH e ?_ re ?_, rfl, q⟩
  · rw [List.getElem_toArray, isTx_at r hj ji]
    exact decide_eq_true rfl
  · have mi : m < its.length := by simpa using hm
    rw [List.getElem_toArray, isTx_at r (y := zs[m]'(by omega)) (List.getElem?_eq_getElem (by omega)) mi]
    exact decide_eq_false fun q => first m lt (by rw [List.getElem?_eq_getElem (by omega), q])
  · show its.toArray.eraseIdxIfInBounds j = (its.eraseIdx j).toArray
    rw [List.eraseIdxIfInBounds_toArray]
  · rw [List.length_map]
    have := List.length_eraseIdx_le zs j
    omega
end DT

namespace DT
open PySem PySem.Spec PyProof.Rows L2 TL
-- END @remtext.lean
abbrev N_law : List Str := ["_law_script", "_law_row", "_law_pool_here", "_law_n", "_law_ditch", "_law_k", "_law_left", "_law_name", "_law_owned", "_law_other"]
theorem sc_law : FnScope N_law ["_law_script"] (defScope s_law) := ⟨rfl, rfl, rfl, by decide +kernel, rfl, by decide +kernel, by decide +kernel⟩
section
variable {P : Program} {w : World} {K : PySem.W.Frag} {mg : Str → Option Value} {base : Heap}
theorem ok_law {k : Nat} (T : Env K w mg) : FnOk P w K mg base CX0 (k + 20) T.D_law.f T.D_law.fd ["_law_script"] (sp_law K) := by
  have G__law_flow : FnOk P w K mg base CX0 19 T.D__law_flow.f T.D__law_flow.fd ["_law_script", "_law_many"] (sp__law_flow K) := ok__law_flow T.D__law_flow T.m_abs T.m_len T.m_range
  have G__law_pool : FnOk P w K mg base CX0 19 T.D__law_pool.f T.D__law_pool.fd ["_law_row"] (sp_poolD K) := ok__law_pool T
  have G__law_low : FnOk P w K mg base CX0 19 T.D__law_low.f T.D__law_low.fd ["_law_top", "_law_bottom"] (sp_lowest K) := ok__law_low T.D__law_low T.m_abs
  have G__law_mul : FnOk P w K mg base CX0 19 T.D__law_mul.f T.D__law_mul.fd ["_law_a", "_law_b"] (sp_two K anyC mulP) := ok__law_mul T.D__law_mul T.D__law_low T.m_abs
  have G__law_sum : FnOk P w K mg base CX0 19 T.D__law_sum.f T.D__law_sum.fd ["_law_row"] (sp_sumB K) := ok__law_sum T.D__law_sum T.D__law_low T.D__law_add T.m_abs
  have G__law_keeps : FnOk P w K mg base CX0 19 T.D__law_keeps.f T.D__law_keeps.fd ["_law_lags"] (sp__law_keepsN K) := ok__law_keeps T.D__law_keeps T.D__law_low T.D__law_add T.D__law_mul T.D__law_less T.D__law_falling T.m_abs T.m_range T.m_len T.m_list
  have G_Ditch___init__ : FnOk P w K mg base (L2N.CX P w) 18 T.D_Ditch___init__.f T.D_Ditch___init__.fd ["self", "first"] (sp_DInit K T.C_Moment T.C_Ditch T.A_BadName) := ok_Ditch___init__ T
  have G_Ditch_settle : FnOk P w K mg base (L2N.CX P w) 19 T.D_Ditch_settle.f T.D_Ditch_settle.fd ["self", "name"] (frm (sp_meth K T.C_Moment T.C_Ditch T.ca isSettle)) := fn_frameXN (ok_Ditch_settle T)
  have G_Ditch_sell : FnOk P w K mg base (L2N.CX P w) 19 T.D_Ditch_sell.f T.D_Ditch_sell.fd ["self", "giver", "taker", "part"] (frm (sp_meth K T.C_Moment T.C_Ditch T.ca isSell)) := fn_frameXN (ok_Ditch_sell T)
  have G_Ditch_hour : FnOk P w K mg base CX0 19 T.D_Ditch_hour.f T.D_Ditch_hour.fd ["self"] (frm (sp_meth K T.C_Moment T.C_Ditch T.ca isHour)) := fn_frame (ok_Ditch_hour T)
  have G_Ditch_owned : FnOk P w K mg base (L2N.CX P w) 19 T.D_Ditch_owned.f T.D_Ditch_owned.fd ["self", "name"] (sp_field K T.C_Moment T.C_Ditch T.A_NoField (gPart K Mo.hold)) := ok_Ditch_owned T
  have G_Ditch_lag : FnOk P w K mg base (L2N.CX P w) 19 T.D_Ditch_lag.f T.D_Ditch_lag.fd ["self", "name"] (sp_field K T.C_Moment T.C_Ditch T.A_NoField (gPart K Mo.arr)) := ok_Ditch_lag T
  have G_Ditch_lags : FnOk P w K mg base CX0 19 T.D_Ditch_lags.f T.D_Ditch_lags.fd ["self"] (sp_get K T.C_Moment T.C_Ditch (gPs K Mo.arr)) := ok_Ditch_lags T
  have G_Ditch_given : FnOk P w K mg base CX0 19 T.D_Ditch_given.f T.D_Ditch_given.fd ["self"] (sp_get K T.C_Moment T.C_Ditch (gInt Mo.wet)) := ok_Ditch_given T
  have G__law_most : FnOk P w K mg base CX0 19 T.D__law_most.f T.D__law_most.fd ["_law_n", "_law_k"] (sp_lmost K) := ok__law_most T.D__law_most T.D__law_low T.D__law_add T.m_abs T.m_range
  refine T.D_law.F.ok sc_law (fun vs H Q E h => ?_) (fun cdv A outer s H vs Q E hr h => ?_)
  · obtain ⟨a, ns, rfl, _⟩ := h
    rfl
  obtain ⟨a, ns, rfl, hL, hn, q⟩ := h
  refine ⟨_, (pss_cons (ps_set (i := 1) sc_law.nd rfl (.inl rfl) (pe_call G__law_flow (hr.mono (by omega)) (by rfl) T.D__law_flow.g T.D__law_flow.F.kp T.D__law_flow.b .nil pass0 (pa_cons (pv 0) (pa_cons pe_int pa_nil))))
      (pss_cons (ps_set (i := 2) sc_law.nd rfl (.inl rfl) (pe_call G__law_pool (hr.mono (by omega)) (by rfl) T.D__law_pool.g T.D__law_pool.F.kp T.D__law_pool.b .nil pass0 (pa_cons (pe_slice sl_list (pv 1) (po_some pe_int) po_none) pa_nil)))
      (pss_cons (ps_set (i := 3) sc_law.nd rfl (.inr rfl) (pe_op op_add pe_int (pe_op op_mod (pe_ix ix_list (pv 1) pe_int (fun _ _ => rfl)) pe_int)))
      (pss_cons (ps_set (i := 4) sc_law.nd rfl (.inr rfl) (pe_make T.mk_Ditch G_Ditch___init__ (hr.mono (by omega)) (by rfl) T.g_Ditch T.D_Ditch___init__.b .nil passFN (pa_cons (pe_ix ix_list (pv 2) pe_int (fun _ _ => rfl)) pa_nil)))
      (pss_cons (ps_for PassesOwn.never rfl (pi_range2 (by rfl) T.m_range (pa_cons pe_int (pa_cons (pv 3) pa_nil))) (pg_name (i := 5) sc_law.nd rfl (.inr rfl)) (pss_cons (ps_expr (pe_meth (pv 4) T.cl_Ditch T.D_Ditch_settle.at_ G_Ditch_settle (hr.mono (by omega)) T.D_Ditch_settle.b .nil passFN (pa_cons (pe_ix ix_list (pv 2) (pv 5) (fun _ _ => rfl)) pa_nil)))
      (pss_one (ps_expr (pe_meth (pv 4) T.cl_Ditch T.D_Ditch_sell.at_ G_Ditch_sell (hr.mono (by omega)) T.D_Ditch_sell.b .nil passFN (pa_cons (pe_ix ix_list (pv 2) pe_int (fun _ _ => rfl)) (pa_cons (pe_ix ix_list (pv 2) (pv 5) (fun _ _ => rfl)) (pa_cons (pe_tup (pa_cons pe_int (pa_cons (pv 3) pa_nil))) pa_nil))))))))
      (pss_cons (ps_set (i := 6) sc_law.nd rfl (.inl rfl) (pe_slice sl_list (pv 2) po_none (po_some (pv 3))))
      (pss_cons (ps_set (i := 6) sc_law.nd rfl (.inl rfl) (pe_op op_cat (pe_slice sl_list (pv 6) (po_some (pe_op op_mod (pe_ix ix_list (pv 1) pe_int (fun _ _ => rfl)) (pv 3))) po_none) (pe_slice sl_list (pv 6) po_none (po_some (pe_op op_mod (pe_ix ix_list (pv 1) pe_int (fun _ _ => rfl)) (pv 3))))))
      (pss_cons (ps_while PassesOwn.never (pt_cmpR op_gt (pe_callB call_len_seq (by rfl) T.m_len PySem.boot_len (pa_cons (pv 6) pa_nil)) pe_int (nomark _)) (pss_cons (ps_set (i := 7) sc_law.nd rfl (.inl rfl) (pe_meth0 (pv 4) T.cl_Ditch T.D_Ditch_hour.at_ G_Ditch_hour (hr.mono (by omega)) T.D_Ditch_hour.b .nil pass0))
      (pss_cons (ps_if (pt_cmpR op_notIn_seq (pv 7) (pv 6) (by rfl)) (pss_one (ps_ret pe_bl)) pss_nil)
      (pss_cons (ps_expr (pe_bm PySem.F.plainAttrs_list PySem.F.slot_list_remove PySem.F.type_list_remove mt_removeS (pv 6) (pa_cons (pv 7) pa_nil)))
      (pss_cons (ps_set (i := 8) sc_law.nd rfl (.inl rfl) (pe_meth (pv 4) T.cl_Ditch T.D_Ditch_owned.at_ G_Ditch_owned (hr.mono (by omega)) T.D_Ditch_owned.b .nil passFN (pa_cons (pv 7) pa_nil)))
      (pss_cons (ps_for PassesOwn.never rfl (pi_list (pv 6)) (pg_name (i := 9) sc_law.nd rfl (.inl rfl)) (pss_one (ps_expr (pe_meth (pv 4) T.cl_Ditch T.D_Ditch_sell.at_ G_Ditch_sell (hr.mono (by omega)) T.D_Ditch_sell.b .nil passFN (pa_cons (pv 7) (pa_cons (pv 9) (pa_cons (pe_call G__law_low (hr.mono (by omega)) (by rfl) T.D__law_low.g T.D__law_low.F.kp T.D__law_low.b .nil pass0 (pa_cons (pe_ix ix_tup (pv 8) pe_int (fun _ _ => rfl)) (pa_cons (pe_op op_mulW (pe_ix ix_tup (pv 8) pe_int (fun _ _ => rfl)) (pe_callB call_len_seq (by rfl) T.m_len PySem.boot_len (pa_cons (pv 6) pa_nil))) pa_nil))) pa_nil)))))))
      (pss_cons (ps_set (i := 5) sc_law.nd rfl (.inr rfl) (pe_callB call_len_seq (by rfl) T.m_len PySem.boot_len (pa_cons (pv 6) pa_nil)))
      (pss_cons (ps_if (pt_val (pe_callB (cr_any rfl) (by rfl) T.m_any (by decide +kernel) (pa_cons (pe_lc (own := [("_law_other", 9)]) (g := gName 9) (tt := tYes) rfl sc_law.nd (pi_list (pv 6)) (blkOk_by (N := N_law) (sc := defScope s_law) (by decide +kernel)) (fun _ _ _ _ _ => pg_name (i := 9) sc_law.nd rfl (Or.inl rfl)) (fun _ _ _ _ _ => pts_nil) (fun _ _ _ _ _ => (pe_cmpR (r := rNeD K) (op_neD hr.units) (pe_call G__law_mul (hr.mono (by omega)) (by rfl) T.D__law_mul.g T.D__law_mul.F.kp T.D__law_mul.b .nil pass0 (pa_cons (pe_meth (pv 4) T.cl_Ditch T.D_Ditch_lag.at_ G_Ditch_lag (hr.mono (by omega)) T.D_Ditch_lag.b .nil passFN (pa_cons (pv 9) pa_nil)) (pa_cons (pe_tup (pa_cons (pv 5) (pa_cons pe_int pa_nil))) pa_nil))) (pe_call G__law_most (hr.mono (by omega)) (by rfl) T.D__law_most.g T.D__law_most.F.kp T.D__law_most.b .nil pass0 (pa_cons (pv 3) (pa_cons (pv 5) pa_nil))) (nomark _)))) pa_nil))) (pss_one (ps_ret pe_bl)) pss_nil)
      (pss_one (ps_if (pt_not (pt_val (pe_call G__law_keeps (hr.mono (by omega)) (by rfl) T.D__law_keeps.g T.D__law_keeps.F.kp T.D__law_keeps.b .nil pass0 (pa_cons (pe_meth0 (pv 4) T.cl_Ditch T.D_Ditch_lags.at_ G_Ditch_lags (hr.mono (by omega)) T.D_Ditch_lags.b .nil pass0) pa_nil)))) (pss_one (ps_ret pe_bl)) pss_nil))))))))))
      (pss_one (ps_ret (pe_and (pe_cmpR op_eq (pe_meth0 (pv 4) T.cl_Ditch T.D_Ditch_given.at_ G_Ditch_given (hr.mono (by omega)) T.D_Ditch_given.b .nil pass0) (pe_op op_sub (pv 3) pe_int) (nomark _)) (pe_one (pe_cmpR (op_eqD hr.units) (pe_call G__law_sum (hr.mono (by omega)) (by rfl) T.D__law_sum.g T.D__law_sum.F.kp T.D__law_sum.b .nil pass0 (pa_cons (pe_meth0 (pv 4) T.cl_Ditch T.D_Ditch_lags.at_ G_Ditch_lags (hr.mono (by omega)) T.D_Ditch_lags.b .nil pass0) pa_nil)) (pe_tup (pa_cons pe_int (pa_cons pe_int pa_nil))) (nomark _)))))))))))))), ?_⟩
  have mb : ∀ (x m : Int), 0 < m → 0 ≤ x % m ∧ x % m < m := fun x m hm => ⟨Int.emod_nonneg _ (by omega), Int.emod_lt_of_pos _ hm⟩
  refine ⟨_, rfl, a, ns, 24, rfl, hL, hn, by decide, fun H1 v1 rs s1 ⟨pr, ev, epr⟩ hrl hb => ?_⟩
  subst ev
  refine ⟨_, rfl, 1, rfl, pr, _, rfl, SqL.of epr, fun pc hc => ?_⟩
  rw [show cutV (rs.map V.int) (some 1) none = (rs.drop 1).map V.int from cut_from rs 1 (by omega)]
  have sc := same_upd (o := .lst ((rs.drop 1).map V.int)) hc
  refine ⟨pc, rs.drop 1, rfl, upd_same, by rw [List.length_drop]; omega, fun r hr => hb r (List.mem_of_mem_drop hr), fun H2 pp zs s2 npp epp hzl hzn nd => ?_⟩
  obtain ⟨z0, e0⟩ : ∃ z0, zs[0]? = some z0 := ⟨_, List.getElem?_eq_getElem (show 0 < zs.length by omega)⟩
  have aZ : atI (zs.map V.str) 0 = some (.str z0) := atI_nat (j := 0) (by rw [List.getElem?_map, e0]; rfl)
  have epr2 := s2 _ _ (sc _ _ epr)
  have z0n := hzn z0 (List.mem_of_getElem? e0)
  have m11 := mb (rs.getD 0 0) 11 (by decide)
  obtain ⟨n, en⟩ : ∃ n : Nat, 2 + rs.getD 0 0 % 11 = (n : Int) := ⟨(2 + rs.getD 0 0 % 11).toNat, by omega⟩
  refine ⟨_, rfl, pr, _, _, _, rfl, rfl, SqL.of epr2, ls_z 0 rfl (by omega), _, _, rfl, rfl, (by show (0 : Int) < 11; decide), _, _, rfl, rfl, ?_⟩
  dsimp only
  rw [en]
  refine ⟨_, rfl, pp, _, 0, _, rfl, rfl, SqL.of epp, aZ, fun d dx nd1 ndx ndd => ?_⟩
  have sO := same_upd (o := .own d) ndx
  have sI := same_upd (o := .ins T.C_Ditch dx []) (show upd H2 dx (.own d) d = none by rw [upd_ne (Ne.symm ndd)]; exact nd1)
  refine ⟨H2, d, dx, z0, rfl, name_short z0n, sO.trans sI, nd1, ndx, Ne.symm ndd, upd_same, by rw [upd_ne ndd]; exact upd_same, fun _ H3 n3 p u3 s3 np nu di3 => ⟨rfl, ?_⟩, fun z => by rw [z0n] at z; cases z⟩
  have nm : ∀ b o, H2 b = some o → b ∉ mu d dx p u3 := fun b o e hm => by
    simp only [mu, List.mem_cons, List.not_mem_nil, or_false] at hm
    rcases hm with rfl | rfl | rfl | rfl
    · rw [nd1] at e; cases e
    · rw [ndx] at e; cases e
    · rw [np] at e; cases e
    · rw [nu] at e; cases e
  have f0 : Fo K T.C_Moment T.C_Ditch H2 d dx p [] H3 n3 u3 (newMo z0) (freshS z0) [] [] (2 * 0) := ⟨di3.same same0, Rl.new', ⟨1, Lw.new' z0n, by decide⟩, Nat.le_refl _, fun b o e => by rw [del_out (nm b o e)]; exact same0 _ _ (s3 _ _ e), Kp.new z0⟩
  clear sO sI di3 nm s3 np nu sc
  refine ⟨_, rfl, 1, (n : Int), rfl, ⟨by decide, by decide, by omega, by omega⟩, ?_⟩
  refine for_range (lo := 1) (n := ((n : Int) - 1).toNat) (fun i σ H' => ∃ (nn u : Addr) (m : Mo) (st : LSt) (ps us : List V) (y5 : Option V), σ = [some (.ref a), some (.ref pr), some (.ref pp), some (.int (n : Int)), some (.ref d), y5, none, none, none, none] ∧ Fo K T.C_Moment T.C_Ditch H2 d dx p [] H' nn u m st ps us (2 * i) ∧ Bs st zs z0 n i)
    ⟨n3, u3, newMo z0, freshS z0, [], [], _, rfl, f0, Bs.new e0⟩ (fun i σ H' hi hW => ?_) (fun σ H4 hW => ?_)
  · clear f0
    obtain ⟨nn, u, m, st, ps, us, y5, rfl, fo, bs⟩ := hW
    obtain ⟨z, ez⟩ : ∃ z, zs[i + 1]? = some z := ⟨_, List.getElem?_eq_getElem (show i + 1 < zs.length by omega)⟩
    have zn := hzn z (List.mem_of_getElem? ez)
    have az : atI (zs.map V.str) (1 + (i : Int)) = some (.str z) := by
      rw [show (1 : Int) + (i : Int) = ((i + 1 : Nat) : Int) by omega]
      exact atI_nat (by rw [List.getElem?_map, ez]; rfl)
    have pl := fo.pl
    obtain ⟨D, lw, _⟩ := id fo.so
    refine ⟨_, rfl, d, dx, _, rfl, fo.full.raw, rfl, _, rfl, _, rfl, pp, _, _, .str z, rfl, rfl, SqL.of (fo.keep epp), az, [], (fun b hb => by cases hb), d, dx, nn, p, u, m, ps, us, .settle z, 1850, [.str z], rfl, trivial, fo.di, by omega, fo.wf, rfl, fo.mok (f := 1) (fun _ _ => name_short zn) (by decide) (by decide) (by omega), fo.res (f := 1) (fun _ _ => name_short zn) (by decide) (by decide) (bs.ok1 nd ez zn (by omega)) (by omega) (fun H5 u5 r5 ps5 fo5 _ _ => ?_)⟩
    have pl5 := fo5.pl
    obtain ⟨D', lw', _⟩ := id fo5.so
    have lw' : Lw D' (2 * i + 1) (joinS st z) := lw'
    have zin : z ∈ (joinS st z).names := by show z ∈ st.names ++ [z]; simp
    have z0in : z0 ∈ (joinS st z).names := List.mem_append_left _ bs.z0n
    refine ⟨_, rfl, d, dx, _, rfl, fo5.full.raw, rfl, _, rfl, pp, _, 0, _, rfl, rfl, SqL.of (fo5.keep epp), aZ, _, rfl, _, rfl, pp, _, _, .str z, rfl, rfl, SqL.of (fo5.keep epp), az, _, rfl, (by show 2 ≤ sizeLine; decide), fun t nt => ?_⟩
    have fo6 := fo5.same (same_upd (o := .tup [.int 1, .int (n : Int)]) nt)
    have pt : Pp K (del [] (upd H5 t (.tup [.int 1, .int (n : Int)]))) (.ref t) ((1 : Int), (n : Int)) := Pp.same ⟨t, rfl, SqT.of upd_same⟩ same0
    have drS : ∀ D, Lw D (2 * i + 1) (joinS st z) → Dr D (n : Int) (.sell z0 z ((1 : Int), (n : Int))) := fun D lw => dr_sell lw z0in zin (by omega)
    refine ⟨[], (fun b hb => by cases hb), d, dx, r5, p, u5, _, ps5, [], .sell z0 z ((1 : Int), (n : Int)), 1850, [.str z0, .str z, .ref t], rfl, trivial, fo6.di, by omega, fo6.wf, ⟨.ref t, rfl, pt⟩, fo6.mok drS (by omega) (Int.le_trans (show (n : Int) ≤ 12 by omega) (by decide)) (by omega), fo6.res drS (by omega) (Int.le_trans (show (n : Int) ≤ 12 by omega) (by decide)) (bs.ok2 lw lw' nd ez (by omega)) (by omega) (fun H7 u7 r7 ps7 fo7 _ _ => ?_)⟩
    exact ⟨r7, u7, _, _, ps7, [], _, rfl, fo7, bs.step lw lw' nd ez (by omega)⟩
  clear f0
  obtain ⟨nn, u, m, st, ps, us, y5, rfl, fo, bs⟩ := hW
  rw [show ((n : Int) - 1).toNat = n - 1 by omega] at fo bs
  -- those who wait, turned about
  have tl : (zs.take n).length = n := by rw [List.length_take]; omega
  have tlv : ((zs.take n).map V.str).length = n := by rw [List.length_map, tl]
  refine ⟨_, rfl, _, rfl, _, rfl, pp, _, rfl, SqL.of (fo.keep epp), fun l1 nl1 => ?_⟩
  rw [cut_tkF (by rw [List.length_map]; omega), ← List.map_take]
  have t1 := same_upd (o := .lst ((zs.take n).map V.str)) nl1
  have el1 : upd H4 l1 (.lst ((zs.take n).map V.str)) l1 = some (.lst ((zs.take n).map V.str)) := upd_same
  have f1 := fo.same t1
  generalize upd H4 l1 (.lst ((zs.take n).map V.str)) = H5 at t1 el1 f1 ⊢
  have mn := mb (rs.getD 8 0) (n : Int) (by omega)
  obtain ⟨j, ej, hj⟩ : ∃ j : Nat, rs.getD 8 0 % (n : Int) = (j : Int) ∧ j < n := ⟨(rs.getD 8 0 % (n : Int)).toNat, by omega, by omega⟩
  refine ⟨_, rfl, _, rfl, pr, _, _, _, rfl, rfl, SqL.of (f1.keep epr2), ls_z 8 rfl (by omega), _, rfl, _, _, rfl, rfl, (by omega), _, rfl, l1, _, rfl, SqL.of el1, fun l2 nl2 => ?_⟩
  have t2 := same_upd (o := .lst (cutV ((zs.take n).map V.str) (some (rs.getD 8 0 % (n : Int))) none)) nl2
  have el2 : upd H5 l2 (.lst (cutV ((zs.take n).map V.str) (some (rs.getD 8 0 % (n : Int))) none)) l2 = some (.lst (((zs.take n).drop j).map V.str)) := by rw [upd_same, ej, cut_drF (by omega), List.map_drop]
  have f2 := f1.same t2
  have el1' := t2 _ _ el1
  generalize upd H5 l2 (.lst (cutV ((zs.take n).map V.str) (some (rs.getD 8 0 % (n : Int))) none)) = H6 at t2 el2 f2 el1' ⊢
  refine ⟨_, rfl, _, rfl, pr, _, _, _, rfl, rfl, SqL.of (f2.keep epr2), ls_z 8 rfl (by omega), _, rfl, _, _, rfl, rfl, (by omega), _, rfl, l1, _, rfl, SqL.of el1', fun l3 nl3 => ?_⟩
  have t3 := same_upd (o := .lst (cutV ((zs.take n).map V.str) none (some (rs.getD 8 0 % (n : Int))))) nl3
  have el3 : upd H6 l3 (.lst (cutV ((zs.take n).map V.str) none (some (rs.getD 8 0 % (n : Int))))) l3 = some (.lst (((zs.take n).take j).map V.str)) := by rw [upd_same, ej, cut_tkF (by omega), ← List.map_take]
  have f3 := f2.same t3
  have el2' := t3 _ _ el2
  generalize upd H6 l3 (.lst (cutV ((zs.take n).map V.str) none (some (rs.getD 8 0 % (n : Int))))) = H7 at t3 el3 f3 el2' ⊢
  refine ⟨l2, l3, _, _, rfl, rfl, el2', el3, (Nat.le_trans (show _ ≤ 1000 by simp only [List.length_map, List.length_drop, List.length_take]; omega) (by decide)), fun lf nlf => ?_⟩
  rw [← List.map_append]
  obtain ⟨W0, eW⟩ : ∃ W0, W0 = (zs.take n).drop j ++ (zs.take n).take j := ⟨_, rfl⟩
  have w0l : W0.length = n := by rw [eW]; simp only [List.length_append, List.length_drop, List.length_take]; omega
  have w0n : W0.Nodup := by
    rw [eW]
    exact nodup_swap (by rw [List.take_append_drop]; exact nd.sublist (List.take_sublist n zs))
  have w0m : ∀ z, z ∈ W0 ↔ z ∈ zs.take n := fun z => by
    rw [eW, List.mem_append, or_comm, ← List.mem_append, List.take_append_drop]
  rw [← eW]
  obtain ⟨D0, lw0, _⟩ := id f3.so
  have ch0 := bs.ch lw0 (by omega) (by omega) w0n w0l w0m
  have f4 := f3.move (fo_new (o := .lst (W0.map V.str)) nlf)
  have elf : upd H7 lf (.lst (W0.map V.str)) lf = some (.lst (W0.map V.str)) := upd_same
  have wet0 := bs.nh.w
  generalize upd H7 lf (.lst (W0.map V.str)) = H8 at f4 elf ⊢
  clear t1 t2 t3 el1 el1' el2 el2' el3 f1 f2 f3 nl1 nl2 nl3 nlf fo bs lw0 ej mn m11 tl tlv eW w0m
  refine ⟨fun μ σ H' => ∃ (W : List Str) (nn u : Addr) (m : Mo) (st : LSt) (ps us : List V) (kd : Nat) (y5 y7 y8 y9 : Option V), σ = [some (.ref a), some (.ref pr), some (.ref pp), some (.int (n : Int)), some (.ref d), y5, some (.ref lf), y7, y8, y9] ∧ H' lf = some (.lst (W.map V.str)) ∧ Fo K T.C_Moment T.C_Ditch H2 d dx p [lf] H' nn u m st ps us kd ∧ Ch st W n ∧ 1 ≤ W.length ∧ kd + 13 * W.length ≤ 180 ∧ st.wet = (n : Int) - (W.length : Int) ∧ μ = W.length,
    ⟨_, W0, _, _, _, _, _, _, _, _, _, _, _, rfl, elf, f4, ch0, by omega, by omega, by rw [wet0]; omega, rfl⟩, fun μ σ H9 hW => ?_⟩
  clear f4 ch0 elf wet0 w0l w0n
  obtain ⟨W, nn, u, m, st, ps, us, kd, y5, y7, y8, y9, rfl, eL, fo, ch, w1, kb, wet, rfl⟩ := hW
  have pl := fo.pl
  have wn := ch.le
  refine ⟨_, rfl, lf, _, rfl, .inl (SqL.of eL), _, _, rfl, rfl, _, rfl, ?_⟩
  by_cases hw : 1 < W.length
  · rw [decide_eq_true (show (1 : Int) < ((W.map V.str).length : Nat) by rw [List.length_map]; omega)]
    refine iteT ⟨fun σ' H'' => ∃ m', m' < W.length ∧ _, fun _ _ hN => hN, ?_⟩
    have asL : Aside H9 [lf] := fun b hb => .inl ⟨W.map V.str, by rw [List.mem_singleton.1 hb]; exact eL⟩
    obtain ⟨D, lw, bd⟩ := id fo.so
    have lo : LOk 1850 st := lw.lok (Int.lt_of_lt_of_le bd (pow_le (by omega))) (by omega)
    obtain ⟨j, ewl⟩ : ∃ j, W.length = j + 1 := ⟨W.length - 1, by omega⟩
    have hyW := ch.due lw lo (by omega)
    have cs := ch.hour lw lo ewl
    refine ⟨_, rfl, d, dx, _, rfl, fo.full.raw, rfl, [lf], asL, d, dx, nn, p, u, m, ps, us, .hour "", 1850, [], rfl, trivial, fo.di, by clear bd; omega, fo.wf, rfl, fo.mok (f := 1) (dd := .hour "") (fun _ _ => trivial) (by decide) (by decide) (by clear bd; omega), fo.res (f := 1) (dd := .hour "") (fun _ _ => trivial) (by decide) (by decide) rfl (by clear bd; omega) (fun H10 u5 r5 ps5 fo5 hM5 _ => ?_)⟩
    have er : retE m (.hour "") = .str (dueS st) := by show V.str (dueM m) = _; rw [due_eq fo.rl]
    rw [er]
    have eL5 : H10 lf = some (.lst (W.map V.str)) := (hM5 lf (by simp)).trans eL
    have fl : (W.map V.str).all flatV = true := by
      rw [List.all_eq_true]
      intro x hx
      obtain ⟨y, _, rfl⟩ := List.mem_map.1 hx
      rfl
    obtain ⟨i, ei, first, eE⟩ := rem_at ch.nd hyW
    have wet1 : (hourS st).wet = st.wet + 1 := rfl
    have fo5 : Fo K T.C_Moment T.C_Ditch H2 d dx p [lf] H10 r5 u5 (doneE m (.hour "")) (hourS st) ps5 [] (kd + 1) := fo5
    have ylen : (dueS st).length ≤ 1000 := lw.short _ (ch.sub _ hyW)
    have wl1 : (W.erase (dueS st)).length = j := by rw [List.length_erase_of_mem hyW]; clear bd; omega
    refine ⟨_, rfl, _, rfl, lf, _, rfl, .inl (SqL.of eL5), rfl, fl, ?_⟩
    rw [strs_in, decide_eq_true hyW]
    refine ⟨false, rfl, iteF ?_⟩
    refine ⟨_, rfl, .inl ⟨rfl, _, SqL.of eL5⟩, _, rfl, lf, W, dueS st, i, rfl, rfl, eL5, ei, first, ?_⟩
    rw [eE]
    have fo6 := fo5.move (H' := upd H10 lf (.lst ((W.erase (dueS st)).map V.str))) (M' := [lf]) (by rw [fo_put]; exact Same.refl _)
    have eL6 : upd H10 lf (.lst ((W.erase (dueS st)).map V.str)) lf = some (.lst ((W.erase (dueS st)).map V.str)) := upd_same
    generalize upd H10 lf (.lst ((W.erase (dueS st)).map V.str)) = H11 at fo6 eL6 ⊢
    generalize W.erase (dueS st) = W' at cs eL6 wl1 ⊢
    generalize doneE m (.hour "") = m6 at fo6
    generalize dueS st = y at cs ylen ⊢
    have wet6 : (hourS st).wet = (n : Int) - (W'.length : Int) := by rw [wet1, wet, wl1]; clear bd; omega
    generalize hourS st = st6 at cs fo6 wet6
    clear fo5 hM5 er fo eL ch hyW ei first eE lo lw bd eL5 fl asL wet wet1
    -- what it owns
    have hy' : y ∈ m6.order := by rw [fo6.rl.o]; exact cs.yn
    have pl6 := fo6.pl
    refine ⟨_, rfl, d, dx, _, rfl, fo6.full.raw, rfl, _, rfl, d, dx, r5, p, u5, m6, ps5, [], y, rfl, fo6.full, fo6.wf, ylen, fun _ H12 v s12 pv => ?_, fun no => absurd hy' no⟩
    have wpos : 0 < W'.length := by omega
    have pv : Pp K H12 v ((1 : Int), (W'.length : Int) + 1) := by
      obtain ⟨D, lw, _⟩ := id fo6.so
      have e : itemP m6.hold (idxS m6.order y) = ((1 : Int), (W'.length : Int) + 1) := by
        rw [fo6.rl.h, fo6.rl.o]
        refine val_inj (item_pt lw.ow _).low ⟨by show (0 : Int) < (W'.length : Int) + 1; omega, Int.one_gcd⟩ ?_
        have o := cs.oy
        have e0 : ((0 : Nat) : Rat) = 0 := rfl
        rw [e0] at o
        show ov st6 y = ((1 : Int) : Rat) / (((W'.length : Int) + 1 : Int) : Rat)
        rw [o]
        show fr1 (W'.length + 1) - 0 * _ = ((1 : Int) : Rat) / (((W'.length + 1 : Nat) : Int) : Rat)
        have e1 : ((1 : Int) : Rat) = 1 := rfl
        have e2 : (((W'.length + 1 : Nat) : Int) : Rat) = ((W'.length + 1 : Nat) : Rat) := rfl
        rw [e1, e2]
        unfold fr1
        grind
      rw [← e]
      exact pv
    have fo7 := fo6.same s12
    have eL7 := s12 _ _ eL6
    obtain ⟨po, rfl, sqv⟩ := id pv
    have asL : ∀ {Hx : Hp}, Hx lf = some (.lst (W'.map V.str)) → Aside Hx [lf] := fun e b hb => .inl ⟨W'.map V.str, by rw [List.mem_singleton.1 hb]; exact e⟩
    have pvD := pp_del fo7.di.aside (pp_del (asL eL7) pv)
    refine ⟨_, rfl, lf, rfl, ⟨_, SqL.of eL7⟩, ?_⟩
    refine for_list (xs := W'.map V.str) (fun jj σ H' => ∃ (nn u : Addr) (m : Mo) (st : LSt) (ps us : List V) (y9 : Option V), σ = [some (.ref a), some (.ref pr), some (.ref pp), some (.int (n : Int)), some (.ref d), y5, some (.ref lf), some (.str y), some (.ref po), y9] ∧ H' lf = some (.lst (W'.map V.str)) ∧ Fo K T.C_Moment T.C_Ditch H2 d dx p [lf] H' nn u m st ps us (kd + 1 + jj) ∧ Cs st y W' n jj ∧ Pp K (del (mu d dx p u) (del [lf] H')) (.ref po) ((1 : Int), (W'.length : Int) + 1) ∧ st.wet = (n : Int) - (W'.length : Int))
      ⟨r5, u5, m6, st6, ps5, [], _, rfl, eL7, fo7, cs, pvD, wet6⟩ (fun jj σ H13 _ hW => ?_) (fun jj x σ H13 hx hW => ?_) (fun σ H13 hW => ?_)
    · obtain ⟨_, _, _, _, _, _, _, _, e, _⟩ := hW
      exact SqL.of e
    · clear fo6 fo7 cs pv pvD eL6 eL7 sqv wet6 pl6 hy' s12
      obtain ⟨nn, u, m, st, ps, us, y9, rfl, eL, fo, cs, pvD, wet⟩ := hW
      obtain ⟨z, ez, rfl⟩ := strs_get hx
      have jw := (List.getElem?_eq_some_iff.1 ez).1
      have pl := fo.pl
      have pv := Pp.same (Pp.same pvD del_same) del_same
      obtain ⟨_, e0, sqv⟩ := id pv
      cases e0
      obtain ⟨D, lw, bd⟩ := id fo.so
      have hz := cs.sub z (List.mem_of_getElem? ez)
      have bq : (0 : Int) < ((W'.length : Int) + 1) * ((W'.map V.str).length : Nat) := Int.mul_pos (by omega) (by rw [List.length_map]; omega)
      have qle : ((W'.length : Int) + 1) * ((W'.map V.str).length : Nat) ≤ 13 * 12 := by
        rw [List.length_map]
        exact Int.mul_le_mul (by omega) (by omega) (by omega) (by decide)
      refine ⟨_, rfl, d, dx, _, rfl, fo.full.raw, rfl, _, rfl, _, rfl, _, rfl, po, _, 0, .int 1, rfl, rfl, sqv, rfl, _, rfl, po, _, 1, .int ((W'.length : Int) + 1), rfl, rfl, sqv, rfl, _, rfl, lf, _, rfl, .inl (SqL.of eL), _, _, rfl, rfl, bd_mulok (n := 10) (m := 10) (by unfold Bd; clear bd; omega) (by unfold Bd; rw [List.length_map]; clear bd; omega) (by decide), _, _, rfl, bq, (by show Bd 8900 _; exact Bd.mono (n := 20) (by unfold Bd; clear bd; omega) (by decide)), fun H14 v4 s14 p4 => ?_⟩
      have qp : (0 : Int) < (W'.length : Int) * ((W'.length : Int) + 1) := Int.mul_pos (by omega) (by omega)
      have qe : ((W'.length : Int) + 1) * ((W'.map V.str).length : Nat) = (W'.length : Int) * ((W'.length : Int) + 1) := by rw [List.length_map, Int.mul_comm]
      have q8 : (W'.length : Int) * ((W'.length : Int) + 1) ≤ 2 ^ 8 := by rw [← qe]; exact Int.le_trans qle (by decide)
      have p4 : Pp K H14 v4 ((1 : Int), (W'.length : Int) * ((W'.length : Int) + 1)) := by
        rw [← low1 qp, ← qe]
        exact p4
      have fo' := fo.same s14
      have eL' := s14 _ _ eL
      have pvD' := Pp.same pvD (del_mono (M := mu d dx p u) (del_mono (M := [lf]) s14))
      have drS : ∀ D, Lw D (kd + 1 + jj) st → Dr D ((W'.length : Int) * ((W'.length : Int) + 1)) (.sell y z ((1 : Int), (W'.length : Int) * ((W'.length : Int) + 1))) := fun D lw => dr_sell lw cs.yn hz qp
      refine ⟨[lf], asL eL', d, dx, nn, p, u, m, ps, us, .sell y z ((1 : Int), (W'.length : Int) * ((W'.length : Int) + 1)), 1850, [.str y, .str z, v4], rfl, trivial, fo'.di, by clear bd; omega, fo'.wf, ⟨v4, rfl, pp_del (asL eL') p4⟩, fo'.mok drS qp q8 (by clear bd; omega), fo'.res drS qp q8 (cs.ok lw ez) (by clear bd; omega) (fun H15 u7 r7 ps7 fo7 hM7 s7 => ?_)⟩
      exact ⟨r7, u7, _, _, ps7, [], _, rfl, (hM7 lf (by simp)).trans eL', fo7, cs.sell lw ez, Pp.same pvD' s7, wet⟩
    · clear fo6 fo7 cs pv pvD eL6 eL7 sqv wet6 pl6 hy' s12
      obtain ⟨nn, u, m, st, ps, us, y9, rfl, eL, fo, cs, pvD, wet⟩ := hW
      rw [List.length_map] at fo cs
      have ch := cs.fin wpos
      clear pvD cs
      refine ⟨_, rfl, lf, _, rfl, .inl (SqL.of eL), ?_⟩
      rw [List.length_map]
      have pl := fo.pl
      obtain ⟨D, lw, bd⟩ := id fo.so
      have b30 : D < 2 ^ 1829 := Int.lt_of_lt_of_le bd (pow_le (by omega))
      obtain ⟨kok, sums, sum0⟩ := fo.kk.ok fo.rl lw b30 (by clear b30 bd; omega)
      have lo : LOk 1850 st := lw.lok b30 (by clear b30 bd; omega)
      clear b30 bd
      have wn' := ch.le
      have eq : ∀ z ∈ W', mulP (llagz st z) ((W'.length : Int), 1) = lmost (n : Int) (W'.length : Int) := fun z hz => by
        obtain ⟨⟨a1, a2⟩, a3⟩ := lmost_all n (by omega) W'.length (by omega) wpos wn'
        have pl := (lw.pLag z).pos
        refine val_inj (show Low (mulP (llagz st z) ((W'.length : Int), 1)).1 (mulP (llagz st z) ((W'.length : Int), 1)).2 from lowP_low (Int.mul_pos pl (by show (0 : Int) < 1; decide))) ⟨a1, a2⟩ ?_
        rw [val_mul pl (by show (0 : Int) < 1; decide), ch.lag z hz, a3, val_int]
        have e2 : (((W'.length : Nat) : Int) : Rat) = (W'.length : Rat) := rfl
        rw [e2]
        grind
      refine ⟨_, rfl, lf, rfl, ⟨_, SqL.of eL⟩, fun Dd hD => ?_⟩
      refine lc_list (xs := W'.map V.str) (fun jj G => G Dd = some (.lst ((List.replicate jj false).map V.bl)) ∧ Same H13 G) ⟨upd_same, same_upd hD⟩ (fun jj G _ hW => ?_) (fun jj x' G hx' hW => ?_) (fun G hW => ?_)
      · exact SqL.of (hW.2 _ _ eL)
      · obtain ⟨eD, sm⟩ := hW
        obtain ⟨z, ez, rfl⟩ := strs_get hx'
        have hzW := List.mem_of_getElem? ez
        have hz := ch.sub z hzW
        have jw := (List.getElem?_eq_some_iff.1 ez).1
        have fG := fo.same sm
        have hzo : z ∈ m.order := by rw [fo.rl.o]; exact hz
        refine ⟨rfl, _, rfl, d, dx, _, rfl, fG.full.raw, rfl, _, rfl, d, dx, nn, p, u, m, ps, us, z, rfl, fG.full, fG.wf, lw.short _ hz, fun _ G2 lv sg plv => ?_, fun no => absurd hzo no⟩
        have plv : Pp K G2 lv (llagz st z) := by
          have e : itemP m.arr (idxS m.order z) = llagz st z := by rw [fo.rl.a, fo.rl.o]; exact item_mapI hz
          rw [← e]
          exact plv
        refine ⟨_, rfl, (by show 2 ≤ sizeLine; decide), fun t nt => ?_⟩
        have st1 := same_upd (o := .tup [.int (W'.length : Int), .int 1]) nt
        have okL : Ok 1850 (llagz st z) := (kok.ok _ (by rw [fo.rl.a]; exact List.mem_map.2 ⟨z, hz, rfl⟩)).1
        have okT : Ok 1850 ((W'.length : Int), (1 : Int)) := ⟨by show (0 : Int) < 1; decide, Bd.mono (n := 10) (by unfold Bd; show (W'.length : Int).natAbs < 2 ^ 10; omega) (by decide), Bd.mono (n := 1) (show Bd 1 (1 : Int) by unfold Bd; decide) (by decide)⟩
        refine ⟨lv, .ref t, llagz st z, ((W'.length : Int), 1), 1850, 1850, rfl, plv.same st1, ⟨t, rfl, SqT.of upd_same⟩, okL, okT, by decide, trivial, fun G3 rv s3 prv => ?_⟩
        refine ⟨_, rfl, _, rfl, (n : Int), (W'.length : Int), rfl, ⟨by omega, by omega⟩, ⟨by omega, by omega⟩, fun G4 r4 s4 p4 ok4 => ?_⟩
        rw [eq z hzW] at prv
        have S4 := sg.trans (st1.trans (s3.trans s4))
        refine ⟨_, _, Pr.dp (Pp.same prv s4), Pr.dp p4, shp_pr _ _, shp_pr _ _, ?_⟩
        rw [eqv_pr]
        refine ⟨_, S4 _ _ eD, small1000 (by rw [List.length_map, List.length_replicate]; omega), ?_, same_at hD (sm.trans S4)⟩
        rw [upd_same, List.replicate_succ', List.map_append]
        rfl
      · obtain ⟨eD, sm⟩ := hW
        refine ⟨Dd, _, rfl, SqL.of eD, ?_⟩
        have ea : (List.replicate (W'.map V.str).length false).any id = false := by simp
        rw [ea]
        refine ⟨false, rfl, iteF ?_⟩
        have f8 := fo.same sm
        have eL8 := sm _ _ eL
        refine ⟨_, rfl, d, dx, _, rfl, f8.full.raw, rfl, d, dx, nn, p, u, m, ps, us, rfl, f8.full, fun H16 v16 s16 ⟨rl, ev, nrl, lp⟩ => ?_⟩
        subst ev
        refine ⟨rl, m.arr, rfl, lp, kok, fun H17 s17 => ?_⟩
        rw [fo.kk.k]
        refine ⟨true, rfl, iteF ?_⟩
        exact ⟨W'.length, by omega, W', nn, u, m, st, ps, us, _, _, _, _, _, rfl, s17 _ _ (s16 _ _ eL8), (f8.same s16).same s17, ch, wpos, by omega, wet, rfl⟩
  · rw [decide_eq_false (show ¬ (1 : Int) < ((W.map V.str).length : Nat) by rw [List.length_map]; omega)]
    refine iteF ?_
    refine ⟨_, rfl, d, dx, _, rfl, fo.full.raw, rfl, d, dx, nn, p, u, m, ps, us, rfl, fo.full, fun H10 v10 s10 ev => ?_⟩
    obtain ⟨rfl, rfl⟩ := ev
    have ew : m.wet = (n : Int) - 1 := by rw [fo.rl.w, wet]; omega
    refine ⟨_, rfl, _, _, rfl, rfl, rfl, true, congrArg V.bl (decide_eq_true (congrArg V.int ew)), iteT ?_⟩
    obtain ⟨D, lw, bd⟩ := id fo.so
    have b30 : D < 2 ^ 1829 := Int.lt_of_lt_of_le bd (pow_le (by omega))
    obtain ⟨kok, sums, sum0⟩ := fo.kk.ok fo.rl lw b30 (by clear b30; omega)
    clear b30
    refine ⟨_, rfl, d, dx, _, rfl, fo.full.raw, rfl, d, dx, nn, p, u, m, ps, us, rfl, fo.full, fun H11 v11 s11 ⟨rl, ev, nrl, lp⟩ => ?_⟩
    subst ev
    obtain ⟨uv, eus, hus⟩ := id lp
    refine ⟨rl, uv, m.arr, 1850, rfl, SqL.of eus, hus, fun x hx => (kok.ok x hx).1, sums, by decide, fun H12 sv s12 ps' => ⟨(by show 2 ≤ sizeLine; decide), fun t8 nt8 => ?_⟩⟩
    rw [sum0] at ps'
    have st8 := same_upd (o := .tup [.int 0, .int 1]) nt8
    refine ⟨_, _, Pr.dp (Pp.same ps' st8), Pr.dp Pr.new, shp_pr _ _, shp_pr _ _, ?_⟩
    rw [eqv_pr]
    exact q _

end
-- END law
end DT
namespace DT
open PySem PySem.Spec PyProof.Rows L2 TL
theorem facts {P : Program} {w : World} {K : PySem.W.Frag} {h : Heap} {mg : Str → Option Value} {f : Addr} (X : K.In h) (G : h.Ns mainGlobals mg) (hfa : mg ("law" : Str) = some (.ref f)) (c : SaysM faL fnL tsL exL w K) :
    ∃ fd : FuncData, (∀ (s : Shared) (v : Value), BindsTo s fd ⟨[v], []⟩ [("_law_script", v)]) ∧ ∀ base : Heap, K.In base → base.Ns mainGlobals mg → FnOk P w K mg base CX0 20 f fd ["_law_script"] (sp_law K) := by
  have hm := c.more
  unfold exL at hm
  obtain ⟨x0, hm⟩ := He.ba hm
  obtain ⟨x1, hm⟩ := He.ba hm
  obtain ⟨x2, hm⟩ := He.ba hm
  obtain ⟨x3, hm⟩ := He.ba hm
  obtain ⟨x4, hm⟩ := He.ba hm
  obtain ⟨x5, hm⟩ := He.ba hm
  obtain ⟨x6, hm⟩ := He.ba hm
  obtain ⟨x7, hm⟩ := He.ba hm
  obtain ⟨x8, hm⟩ := He.ba hm
  obtain ⟨x9, hm⟩ := He.ba hm
  obtain ⟨x10, hm⟩ := He.ba hm
  obtain ⟨x11, hm⟩ := He.ba hm
  obtain ⟨x12, hm⟩ := He.ba hm
  obtain ⟨x13, hm⟩ := He.ba hm
  obtain ⟨x14, hm⟩ := He.ba hm
  obtain ⟨x15, hm⟩ := He.ba hm
  obtain ⟨x16, hm⟩ := He.ba hm
  obtain ⟨x17, hm⟩ := He.ba hm
  obtain ⟨x18, hm⟩ := He.ba hm
  obtain ⟨x19, hm⟩ := He.ba hm
  obtain ⟨x20, hm⟩ := He.ba hm
  obtain ⟨x21, hm⟩ := He.ba hm
  obtain ⟨x22, hm⟩ := He.ba hm
  obtain ⟨x23, hm⟩ := He.ba hm
  obtain ⟨x24, hm⟩ := He.ba hm
  obtain ⟨x25, hm⟩ := He.ba hm
  obtain ⟨x26, hm⟩ := He.ba hm
  obtain ⟨x27, hm⟩ := He.ba hm
  obtain ⟨x28, hm⟩ := He.ba hm
  obtain ⟨x29, hm⟩ := He.ba hm
  obtain ⟨x30, hm⟩ := He.ba hm
  obtain ⟨x31, hm⟩ := He.ba hm
  obtain ⟨x32, hm⟩ := He.ba hm
  obtain ⟨x33, hm⟩ := He.ba hm
  obtain ⟨x34, hm⟩ := He.ba hm
  obtain ⟨x35, hm⟩ := He.ba hm
  obtain ⟨x36, hm⟩ := He.ba hm
  obtain ⟨x37, hm⟩ := He.ba hm
  obtain ⟨x38, hm⟩ := He.ba hm
  obtain ⟨x39, hm⟩ := He.ba hm
  obtain ⟨x40, hm⟩ := He.ba hm
  obtain ⟨x41, hm⟩ := He.ba hm
  obtain ⟨x42, hm⟩ := He.ba hm
  obtain ⟨x43, hm⟩ := He.ba hm
  obtain ⟨x44, hm⟩ := He.ba hm
  obtain ⟨x45, hm⟩ := He.ba hm
  obtain ⟨x46, hm⟩ := He.ba hm
  obtain ⟨x47, hm⟩ := He.ba hm
  obtain ⟨x48, hm⟩ := He.ba hm
  obtain ⟨x49, hm⟩ := He.ba hm
  obtain ⟨x50, hm⟩ := He.ba hm
  obtain ⟨x51, hm⟩ := He.ba hm
  obtain ⟨x52, hm⟩ := He.ba hm
  obtain ⟨x53, hm⟩ := He.ba hm
  obtain ⟨x54, hm⟩ := He.ba hm
  obtain ⟨x55, hm⟩ := He.ba hm
  obtain ⟨x56, hm⟩ := He.ba hm
  obtain ⟨x57, hm⟩ := He.ba hm
  obtain ⟨x58, hm⟩ := He.ba hm
  obtain ⟨x59, hm⟩ := He.ba hm
  obtain ⟨x60, hm⟩ := He.ba hm
  obtain ⟨x61, hm⟩ := He.ba hm
  obtain ⟨x62, hm⟩ := He.ba hm
  obtain ⟨x63, hm⟩ := He.ba hm
  obtain ⟨x64, hm⟩ := He.ba hm
  obtain ⟨x65, hm⟩ := He.ba hm
  obtain ⟨x66, hm⟩ := He.ba hm
  obtain ⟨x67, hm⟩ := He.ba hm
  obtain ⟨x68, hm⟩ := He.ba hm
  obtain ⟨x69, hm⟩ := He.ba hm
  obtain ⟨x70, hm⟩ := He.ba hm
  obtain ⟨x71, hm⟩ := He.ba hm
  obtain ⟨x72, hm⟩ := He.ba hm
  obtain ⟨x73, hm⟩ := He.ba hm
  obtain ⟨x74, hm⟩ := He.ba hm
  obtain ⟨x75, hm⟩ := He.ba hm
  obtain ⟨x76, hm⟩ := He.ba hm
  obtain ⟨x77, hm⟩ := He.ba hm
  obtain ⟨x78, hm⟩ := He.ba hm
  obtain ⟨x79, hm⟩ := He.ba hm
  obtain ⟨x80, hm⟩ := He.ba hm
  obtain ⟨x81, hm⟩ := He.ba hm
  obtain ⟨x82, hm⟩ := He.ba hm
  obtain ⟨x83, hm⟩ := He.ba hm
  obtain ⟨x84, hm⟩ := He.ba hm
  obtain ⟨x85, hm⟩ := He.ba hm
  obtain ⟨x86, hm⟩ := He.ba hm
  obtain ⟨x87, hm⟩ := He.ba hm
  obtain ⟨x88, hm⟩ := He.ba hm
  obtain ⟨x89, hm⟩ := He.ba hm
  obtain ⟨x90, hm⟩ := He.ba hm
  obtain ⟨x91, hm⟩ := He.ba hm
  obtain ⟨x92, hm⟩ := He.ba hm
  obtain ⟨x93, hm⟩ := He.ba hm
  obtain ⟨x94, hm⟩ := He.ba hm
  obtain ⟨x95, hm⟩ := He.ba hm
  obtain ⟨x96, hm⟩ := He.ba hm
  obtain ⟨x97, hm⟩ := He.ba hm
  obtain ⟨x98, hm⟩ := He.ba hm
  obtain ⟨x99, hm⟩ := He.ba hm
  obtain ⟨x100, hm⟩ := He.ba hm
  obtain ⟨x101, hm⟩ := He.ba hm
  obtain ⟨x102, hm⟩ := He.ba hm
  obtain ⟨x103, hm⟩ := He.ba hm
  obtain ⟨x104, hm⟩ := He.ba hm
  obtain ⟨x105, hm⟩ := He.ba hm
  obtain ⟨x106, hm⟩ := He.ba hm
  obtain ⟨x107, hm⟩ := He.ba hm
  obtain ⟨x108, hm⟩ := He.ba hm
  obtain ⟨x109, hm⟩ := He.ba hm
  obtain ⟨x110, hm⟩ := He.ba hm
  obtain ⟨x111, hm⟩ := He.ba hm
  obtain ⟨x112, hm⟩ := He.ba hm
  obtain ⟨x113, hm⟩ := He.ba hm
  obtain ⟨x114, hm⟩ := He.ba hm
  obtain ⟨x115, hm⟩ := He.ba hm
  obtain ⟨x116, hm⟩ := He.ba hm
  obtain ⟨x117, hm⟩ := He.ba hm
  obtain ⟨x118, hm⟩ := He.ba hm
  obtain ⟨x119, hm⟩ := He.ba hm
  obtain ⟨x120, hm⟩ := He.ba hm
  obtain ⟨fd_common, F_common⟩ := c.t.d.def_ 0 (d := d_common) rfl
  obtain ⟨fd_lowest, F_lowest⟩ := c.t.d.def_ 1 (d := d_lowest) rfl
  obtain ⟨fd_plus, F_plus⟩ := c.t.d.def_ 2 (d := d_plus) rfl
  obtain ⟨fd_minus, F_minus⟩ := c.t.d.def_ 3 (d := d_minus) rfl
  obtain ⟨fd_times, F_times⟩ := c.t.d.def_ 4 (d := d_times) rfl
  obtain ⟨fd_below, F_below⟩ := c.t.d.def_ 5 (d := d_below) rfl
  obtain ⟨fd_raised, F_raised⟩ := c.t.d.def_ 6 (d := d_raised) rfl
  obtain ⟨fd_turn_of, F_turn_of⟩ := c.t.d.def_ 7 (d := d_turn_of) rfl
  obtain ⟨fd_dealt, F_dealt⟩ := c.t.d.def_ 8 (d := d_dealt) rfl
  obtain ⟨fd_Moment___init__, F_Moment___init__⟩ := c.t.d.def_ 9 (d := d_Moment___init__) rfl
  obtain ⟨fd_like, F_like⟩ := c.t.d.def_ 10 (d := d_like) rfl
  obtain ⟨fd_begun, F_begun⟩ := c.t.d.def_ 11 (d := d_begun) rfl
  obtain ⟨fd_place_of, F_place_of⟩ := c.t.d.def_ 12 (d := d_place_of) rfl
  obtain ⟨fd_opposite, F_opposite⟩ := c.t.d.def_ 13 (d := d_opposite) rfl
  obtain ⟨fd_added, F_added⟩ := c.t.d.def_ 14 (d := d_added) rfl
  obtain ⟨fd_joined, F_joined⟩ := c.t.d.def_ 15 (d := d_joined) rfl
  obtain ⟨fd_endowed, F_endowed⟩ := c.t.d.def_ 16 (d := d_endowed) rfl
  obtain ⟨fd_entrusted, F_entrusted⟩ := c.t.d.def_ 17 (d := d_entrusted) rfl
  obtain ⟨fd_passed, F_passed⟩ := c.t.d.def_ 18 (d := d_passed) rfl
  obtain ⟨fd_watered, F_watered⟩ := c.t.d.def_ 19 (d := d_watered) rfl
  obtain ⟨fd_is_name, F_is_name⟩ := c.t.d.def_ 20 (d := d_is_name) rfl
  obtain ⟨fd_check_new_name, F_check_new_name⟩ := c.t.d.def_ 21 (d := d_check_new_name) rfl
  obtain ⟨fd_check_room, F_check_room⟩ := c.t.d.def_ 22 (d := d_check_room) rfl
  obtain ⟨fd_check_trade, F_check_trade⟩ := c.t.d.def_ 23 (d := d_check_trade) rfl
  obtain ⟨fd_check_free, F_check_free⟩ := c.t.d.def_ 24 (d := d_check_free) rfl
  obtain ⟨fd_settled, F_settled⟩ := c.t.d.def_ 25 (d := d_settled) rfl
  obtain ⟨fd_sold, F_sold⟩ := c.t.d.def_ 26 (d := d_sold) rfl
  obtain ⟨fd_lent, F_lent⟩ := c.t.d.def_ 27 (d := d_lent) rfl
  obtain ⟨fd_check_heirs, F_check_heirs⟩ := c.t.d.def_ 28 (d := d_check_heirs) rfl
  obtain ⟨fd_left, F_left⟩ := c.t.d.def_ 29 (d := d_left) rfl
  obtain ⟨fd_given_to, F_given_to⟩ := c.t.d.def_ 30 (d := d_given_to) rfl
  obtain ⟨fd_dried, F_dried⟩ := c.t.d.def_ 31 (d := d_dried) rfl
  obtain ⟨fd_behind_deed, F_behind_deed⟩ := c.t.d.def_ 32 (d := d_behind_deed) rfl
  obtain ⟨fd_Ditch___init__, F_Ditch___init__⟩ := c.t.d.def_ 33 (d := d_Ditch___init__) rfl
  obtain ⟨fd_Ditch_enter, F_Ditch_enter⟩ := c.t.d.def_ 34 (d := d_Ditch_enter) rfl
  obtain ⟨fd_Ditch_do, F_Ditch_do⟩ := c.t.d.def_ 35 (d := d_Ditch_do) rfl
  obtain ⟨fd_Ditch_settle, F_Ditch_settle⟩ := c.t.d.def_ 36 (d := d_Ditch_settle) rfl
  obtain ⟨fd_Ditch_sell, F_Ditch_sell⟩ := c.t.d.def_ 37 (d := d_Ditch_sell) rfl
  obtain ⟨fd_Ditch_lend, F_Ditch_lend⟩ := c.t.d.def_ 38 (d := d_Ditch_lend) rfl
  obtain ⟨fd_Ditch_leave, F_Ditch_leave⟩ := c.t.d.def_ 39 (d := d_Ditch_leave) rfl
  obtain ⟨fd_Ditch_hour, F_Ditch_hour⟩ := c.t.d.def_ 40 (d := d_Ditch_hour) rfl
  obtain ⟨fd_Ditch_lose, F_Ditch_lose⟩ := c.t.d.def_ 41 (d := d_Ditch_lose) rfl
  obtain ⟨fd_Ditch_back, F_Ditch_back⟩ := c.t.d.def_ 42 (d := d_Ditch_back) rfl
  obtain ⟨fd_Ditch_again, F_Ditch_again⟩ := c.t.d.def_ 43 (d := d_Ditch_again) rfl
  obtain ⟨fd_Ditch_fields, F_Ditch_fields⟩ := c.t.d.def_ 44 (d := d_Ditch_fields) rfl
  obtain ⟨fd_Ditch_owned, F_Ditch_owned⟩ := c.t.d.def_ 45 (d := d_Ditch_owned) rfl
  obtain ⟨fd_Ditch_free, F_Ditch_free⟩ := c.t.d.def_ 46 (d := d_Ditch_free) rfl
  obtain ⟨fd_Ditch_share, F_Ditch_share⟩ := c.t.d.def_ 47 (d := d_Ditch_share) rfl
  obtain ⟨fd_Ditch_lag, F_Ditch_lag⟩ := c.t.d.def_ 48 (d := d_Ditch_lag) rfl
  obtain ⟨fd_Ditch_lags, F_Ditch_lags⟩ := c.t.d.def_ 49 (d := d_Ditch_lags) rfl
  obtain ⟨fd_Ditch_loans, F_Ditch_loans⟩ := c.t.d.def_ 50 (d := d_Ditch_loans) rfl
  obtain ⟨fd_Ditch_given, F_Ditch_given⟩ := c.t.d.def_ 51 (d := d_Ditch_given) rfl
  obtain ⟨fd_Ditch_due, F_Ditch_due⟩ := c.t.d.def_ 52 (d := d_Ditch_due) rfl
  obtain ⟨fd__law_flow, F__law_flow⟩ := c.t.d.def_ 53 (d := d__law_flow) rfl
  obtain ⟨fd__law_low, F__law_low⟩ := c.t.d.def_ 54 (d := d__law_low) rfl
  obtain ⟨fd__law_add, F__law_add⟩ := c.t.d.def_ 55 (d := d__law_add) rfl
  obtain ⟨fd__law_mul, F__law_mul⟩ := c.t.d.def_ 56 (d := d__law_mul) rfl
  obtain ⟨fd__law_less, F__law_less⟩ := c.t.d.def_ 57 (d := d__law_less) rfl
  obtain ⟨fd__law_sum, F__law_sum⟩ := c.t.d.def_ 58 (d := d__law_sum) rfl
  obtain ⟨fd__law_most, F__law_most⟩ := c.t.d.def_ 59 (d := d__law_most) rfl
  obtain ⟨fd__law_falling, F__law_falling⟩ := c.t.d.def_ 60 (d := d__law_falling) rfl
  obtain ⟨fd__law_keeps, F__law_keeps⟩ := c.t.d.def_ 61 (d := d__law_keeps) rfl
  obtain ⟨fd__law_pool, F__law_pool⟩ := c.t.d.def_ 62 (d := d__law_pool) rfl
  obtain ⟨fd_law, F_law⟩ := c.t.d.def_ 63 (d := d_law) rfl
  obtain ⟨t_LETTERS, h_LETTERS⟩ := He.str_ok X G (c.t.d.fact 134 (f := (He.Fa.str "LETTERS" "abcdefghijklmnopqrstuvwxyz" : He.Fa)) rfl)
  obtain ⟨t_LONGEST_NAME, h_LONGEST_NAME⟩ := He.int_ok X G (c.t.d.fact 135 (f := (He.Fa.int "LONGEST_NAME" 8 : He.Fa)) rfl)
  obtain ⟨t_MOST_FIELDS, h_MOST_FIELDS⟩ := He.int_ok X G (c.t.d.fact 136 (f := (He.Fa.int "MOST_FIELDS" 24 : He.Fa)) rfl)
  obtain ⟨t_MOST_HOURS, h_MOST_HOURS⟩ := He.int_ok X G (c.t.d.fact 137 (f := (He.Fa.int "MOST_HOURS" 999 : He.Fa)) rfl)
  obtain ⟨t_MOST_WEIGHT, h_MOST_WEIGHT⟩ := He.int_ok X G (c.t.d.fact 138 (f := (He.Fa.int "MOST_WEIGHT" 999999 : He.Fa)) rfl)
  obtain ⟨T, eF⟩ : ∃ T : Env K w mg, T.D_law.fd = fd_law := ⟨{
    C_Moment := He.ga K "Moment"
    g_Moment := He.glo_ok X G (c.t.d.fact 55 (f := (He.Fa.glo "Moment" : He.Fa)) rfl)
    cl_Moment := He.cls_ok (c.t.d.fact 56 (f := (He.Fa.cls "Moment" : He.Fa)) rfl)
    n_Moment_order := He.noat_ok (c.t.d.fact 58 (f := (He.Fa.noat "Moment" "order" : He.Fa)) rfl)
    n_Moment_holdings := He.noat_ok (c.t.d.fact 59 (f := (He.Fa.noat "Moment" "holdings" : He.Fa)) rfl)
    n_Moment_frees := He.noat_ok (c.t.d.fact 60 (f := (He.Fa.noat "Moment" "frees" : He.Fa)) rfl)
    n_Moment_portions := He.noat_ok (c.t.d.fact 61 (f := (He.Fa.noat "Moment" "portions" : He.Fa)) rfl)
    n_Moment_arrears := He.noat_ok (c.t.d.fact 62 (f := (He.Fa.noat "Moment" "arrears" : He.Fa)) rfl)
    n_Moment_counts := He.noat_ok (c.t.d.fact 63 (f := (He.Fa.noat "Moment" "counts" : He.Fa)) rfl)
    n_Moment_debts := He.noat_ok (c.t.d.fact 64 (f := (He.Fa.noat "Moment" "debts" : He.Fa)) rfl)
    n_Moment_wet := He.noat_ok (c.t.d.fact 65 (f := (He.Fa.noat "Moment" "wet" : He.Fa)) rfl)
    n_Moment_dry := He.noat_ok (c.t.d.fact 66 (f := (He.Fa.noat "Moment" "dry" : He.Fa)) rfl)
    C_Ditch := He.ga K "Ditch"
    g_Ditch := He.glo_ok X G (c.t.d.fact 67 (f := (He.Fa.glo "Ditch" : He.Fa)) rfl)
    cl_Ditch := He.cls_ok (c.t.d.fact 68 (f := (He.Fa.cls "Ditch" : He.Fa)) rfl)
    n_Ditch_now := He.noat_ok (c.t.d.fact 70 (f := (He.Fa.noat "Ditch" "now" : He.Fa)) rfl)
    n_Ditch_past := He.noat_ok (c.t.d.fact 71 (f := (He.Fa.noat "Ditch" "past" : He.Fa)) rfl)
    n_Ditch_undone := He.noat_ok (c.t.d.fact 72 (f := (He.Fa.noat "Ditch" "undone" : He.Fa)) rfl)
    D_common := ⟨_, fd_common, fun_ofD F_common, F_common.bindsN (ps := ["a", "b"]) fun _ _ _ _ _ _ us hl => match us, hl with | [_, _], _ => rfl, He.glo_ok X G (c.t.d.fact 0 (f := (He.Fa.glo "common" : He.Fa)) rfl)⟩
    D_lowest := ⟨_, fd_lowest, fun_ofD F_lowest, F_lowest.bindsN (ps := ["top", "bottom"]) fun _ _ _ _ _ _ us hl => match us, hl with | [_, _], _ => rfl, He.glo_ok X G (c.t.d.fact 1 (f := (He.Fa.glo "lowest" : He.Fa)) rfl)⟩
    D_plus := ⟨_, fd_plus, fun_ofD F_plus, F_plus.bindsN (ps := ["a", "b"]) fun _ _ _ _ _ _ us hl => match us, hl with | [_, _], _ => rfl, He.glo_ok X G (c.t.d.fact 2 (f := (He.Fa.glo "plus" : He.Fa)) rfl)⟩
    D_minus := ⟨_, fd_minus, fun_ofD F_minus, F_minus.bindsN (ps := ["a", "b"]) fun _ _ _ _ _ _ us hl => match us, hl with | [_, _], _ => rfl, He.glo_ok X G (c.t.d.fact 3 (f := (He.Fa.glo "minus" : He.Fa)) rfl)⟩
    D_times := ⟨_, fd_times, fun_ofD F_times, F_times.bindsN (ps := ["a", "b"]) fun _ _ _ _ _ _ us hl => match us, hl with | [_, _], _ => rfl, He.glo_ok X G (c.t.d.fact 4 (f := (He.Fa.glo "times" : He.Fa)) rfl)⟩
    D_below := ⟨_, fd_below, fun_ofD F_below, F_below.bindsN (ps := ["a", "b"]) fun _ _ _ _ _ _ us hl => match us, hl with | [_, _], _ => rfl, He.glo_ok X G (c.t.d.fact 5 (f := (He.Fa.glo "below" : He.Fa)) rfl)⟩
    D_raised := ⟨_, fd_raised, fun_ofD F_raised, F_raised.bindsN (ps := ["lags", "shares"]) fun _ _ _ _ _ _ us hl => match us, hl with | [_, _], _ => rfl, He.glo_ok X G (c.t.d.fact 6 (f := (He.Fa.glo "raised" : He.Fa)) rfl)⟩
    D_turn_of := ⟨_, fd_turn_of, fun_ofD F_turn_of, F_turn_of.bindsN (ps := ["row"]) fun _ _ _ _ _ _ us hl => match us, hl with | [_], _ => rfl, He.glo_ok X G (c.t.d.fact 7 (f := (He.Fa.glo "turn_of" : He.Fa)) rfl)⟩
    D_dealt := ⟨_, fd_dealt, fun_ofD F_dealt, F_dealt.bindsN (ps := ["lags", "shares"]) fun _ _ _ _ _ _ us hl => match us, hl with | [_, _], _ => rfl, He.glo_ok X G (c.t.d.fact 8 (f := (He.Fa.glo "dealt" : He.Fa)) rfl)⟩
    D_Moment___init__ := ⟨_, fd_Moment___init__, fun_ofD F_Moment___init__, F_Moment___init__.bindsN (ps := ["self"]) fun _ _ _ _ _ _ us hl => match us, hl with | [_], _ => rfl, He.meth_ok (c.t.d.fact 73 (f := (He.Fa.meth "Moment" "__init__" : He.Fa)) rfl)⟩
    D_like := ⟨_, fd_like, fun_ofD F_like, F_like.bindsN (ps := ["moment"]) fun _ _ _ _ _ _ us hl => match us, hl with | [_], _ => rfl, He.glo_ok X G (c.t.d.fact 9 (f := (He.Fa.glo "like" : He.Fa)) rfl)⟩
    D_begun := ⟨_, fd_begun, fun_ofD F_begun, F_begun.bindsN (ps := ["first"]) fun _ _ _ _ _ _ us hl => match us, hl with | [_], _ => rfl, He.glo_ok X G (c.t.d.fact 10 (f := (He.Fa.glo "begun" : He.Fa)) rfl)⟩
    D_place_of := ⟨_, fd_place_of, fun_ofD F_place_of, F_place_of.bindsN (ps := ["moment", "name"]) fun _ _ _ _ _ _ us hl => match us, hl with | [_, _], _ => rfl, He.glo_ok X G (c.t.d.fact 11 (f := (He.Fa.glo "place_of" : He.Fa)) rfl)⟩
    D_opposite := ⟨_, fd_opposite, fun_ofD F_opposite, F_opposite.bindsN (ps := ["part"]) fun _ _ _ _ _ _ us hl => match us, hl with | [_], _ => rfl, He.glo_ok X G (c.t.d.fact 12 (f := (He.Fa.glo "opposite" : He.Fa)) rfl)⟩
    D_added := ⟨_, fd_added, fun_ofD F_added, F_added.bindsN (ps := ["row", "place", "part"]) fun _ _ _ _ _ _ us hl => match us, hl with | [_, _, _], _ => rfl, He.glo_ok X G (c.t.d.fact 13 (f := (He.Fa.glo "added" : He.Fa)) rfl)⟩
    D_joined := ⟨_, fd_joined, fun_ofD F_joined, F_joined.bindsN (ps := ["moment", "name", "part"]) fun _ _ _ _ _ _ us hl => match us, hl with | [_, _, _], _ => rfl, He.glo_ok X G (c.t.d.fact 14 (f := (He.Fa.glo "joined" : He.Fa)) rfl)⟩
    D_endowed := ⟨_, fd_endowed, fun_ofD F_endowed, F_endowed.bindsN (ps := ["moment", "place", "part"]) fun _ _ _ _ _ _ us hl => match us, hl with | [_, _, _], _ => rfl, He.glo_ok X G (c.t.d.fact 15 (f := (He.Fa.glo "endowed" : He.Fa)) rfl)⟩
    D_entrusted := ⟨_, fd_entrusted, fun_ofD F_entrusted, F_entrusted.bindsN (ps := ["moment", "giver", "taker", "part"]) fun _ _ _ _ _ _ us hl => match us, hl with | [_, _, _, _], _ => rfl, He.glo_ok X G (c.t.d.fact 16 (f := (He.Fa.glo "entrusted" : He.Fa)) rfl)⟩
    D_passed := ⟨_, fd_passed, fun_ofD F_passed, F_passed.bindsN (ps := ["moment"]) fun _ _ _ _ _ _ us hl => match us, hl with | [_], _ => rfl, He.glo_ok X G (c.t.d.fact 17 (f := (He.Fa.glo "passed" : He.Fa)) rfl)⟩
    D_watered := ⟨_, fd_watered, fun_ofD F_watered, F_watered.bindsN (ps := ["moment"]) fun _ _ _ _ _ _ us hl => match us, hl with | [_], _ => rfl, He.glo_ok X G (c.t.d.fact 18 (f := (He.Fa.glo "watered" : He.Fa)) rfl)⟩
    D_is_name := ⟨_, fd_is_name, fun_ofD F_is_name, F_is_name.bindsN (ps := ["text"]) fun _ _ _ _ _ _ us hl => match us, hl with | [_], _ => rfl, He.glo_ok X G (c.t.d.fact 19 (f := (He.Fa.glo "is_name" : He.Fa)) rfl)⟩
    D_check_new_name := ⟨_, fd_check_new_name, fun_ofD F_check_new_name, F_check_new_name.bindsN (ps := ["name", "used"]) fun _ _ _ _ _ _ us hl => match us, hl with | [_, _], _ => rfl, He.glo_ok X G (c.t.d.fact 20 (f := (He.Fa.glo "check_new_name" : He.Fa)) rfl)⟩
    D_check_room := ⟨_, fd_check_room, fun_ofD F_check_room, F_check_room.bindsN (ps := ["moment", "many"]) fun _ _ _ _ _ _ us hl => match us, hl with | [_, _], _ => rfl, He.glo_ok X G (c.t.d.fact 21 (f := (He.Fa.glo "check_room" : He.Fa)) rfl)⟩
    D_check_trade := ⟨_, fd_check_trade, fun_ofD F_check_trade, F_check_trade.bindsN (ps := ["moment", "giver", "taker", "part"]) fun _ _ _ _ _ _ us hl => match us, hl with | [_, _, _, _], _ => rfl, He.glo_ok X G (c.t.d.fact 22 (f := (He.Fa.glo "check_trade" : He.Fa)) rfl)⟩
    D_check_free := ⟨_, fd_check_free, fun_ofD F_check_free, F_check_free.bindsN (ps := ["moment", "place", "part"]) fun _ _ _ _ _ _ us hl => match us, hl with | [_, _, _], _ => rfl, He.glo_ok X G (c.t.d.fact 23 (f := (He.Fa.glo "check_free" : He.Fa)) rfl)⟩
    D_settled := ⟨_, fd_settled, fun_ofD F_settled, F_settled.bindsN (ps := ["moment", "name"]) fun _ _ _ _ _ _ us hl => match us, hl with | [_, _], _ => rfl, He.glo_ok X G (c.t.d.fact 24 (f := (He.Fa.glo "settled" : He.Fa)) rfl)⟩
    D_sold := ⟨_, fd_sold, fun_ofD F_sold, F_sold.bindsN (ps := ["moment", "giver", "taker", "part"]) fun _ _ _ _ _ _ us hl => match us, hl with | [_, _, _, _], _ => rfl, He.glo_ok X G (c.t.d.fact 25 (f := (He.Fa.glo "sold" : He.Fa)) rfl)⟩
    D_lent := ⟨_, fd_lent, fun_ofD F_lent, F_lent.bindsN (ps := ["moment", "giver", "taker", "part", "hours"]) fun _ _ _ _ _ _ us hl => match us, hl with | [_, _, _, _, _], _ => rfl, He.glo_ok X G (c.t.d.fact 26 (f := (He.Fa.glo "lent" : He.Fa)) rfl)⟩
    D_check_heirs := ⟨_, fd_check_heirs, fun_ofD F_check_heirs, F_check_heirs.bindsN (ps := ["moment", "heirs"]) fun _ _ _ _ _ _ us hl => match us, hl with | [_, _], _ => rfl, He.glo_ok X G (c.t.d.fact 27 (f := (He.Fa.glo "check_heirs" : He.Fa)) rfl)⟩
    D_left := ⟨_, fd_left, fun_ofD F_left, F_left.bindsN (ps := ["moment", "name", "heirs"]) fun _ _ _ _ _ _ us hl => match us, hl with | [_, _, _], _ => rfl, He.glo_ok X G (c.t.d.fact 28 (f := (He.Fa.glo "left" : He.Fa)) rfl)⟩
    D_given_to := ⟨_, fd_given_to, fun_ofD F_given_to, F_given_to.bindsN (ps := ["moment", "name"]) fun _ _ _ _ _ _ us hl => match us, hl with | [_, _], _ => rfl, He.glo_ok X G (c.t.d.fact 29 (f := (He.Fa.glo "given_to" : He.Fa)) rfl)⟩
    D_dried := ⟨_, fd_dried, fun_ofD F_dried, F_dried.bindsN (ps := ["moment"]) fun _ _ _ _ _ _ us hl => match us, hl with | [_], _ => rfl, He.glo_ok X G (c.t.d.fact 30 (f := (He.Fa.glo "dried" : He.Fa)) rfl)⟩
    D_behind_deed := ⟨_, fd_behind_deed, fun_ofD F_behind_deed, F_behind_deed.bindsN (ps := ["moment", "deed"]) fun _ _ _ _ _ _ us hl => match us, hl with | [_, _], _ => rfl, He.glo_ok X G (c.t.d.fact 31 (f := (He.Fa.glo "behind_deed" : He.Fa)) rfl)⟩
    D_Ditch___init__ := ⟨_, fd_Ditch___init__, fun_ofD F_Ditch___init__, F_Ditch___init__.bindsN (ps := ["self", "first"]) fun _ _ _ _ _ _ us hl => match us, hl with | [_, _], _ => rfl, He.meth_ok (c.t.d.fact 74 (f := (He.Fa.meth "Ditch" "__init__" : He.Fa)) rfl)⟩
    D_Ditch_enter := ⟨_, fd_Ditch_enter, fun_ofD F_Ditch_enter, F_Ditch_enter.bindsN (ps := ["self", "deed", "moment"]) fun _ _ _ _ _ _ us hl => match us, hl with | [_, _, _], _ => rfl, He.meth_ok (c.t.d.fact 75 (f := (He.Fa.meth "Ditch" "enter" : He.Fa)) rfl)⟩
    D_Ditch_do := ⟨_, fd_Ditch_do, fun_ofD F_Ditch_do, F_Ditch_do.bindsN (ps := ["self", "deed"]) fun _ _ _ _ _ _ us hl => match us, hl with | [_, _], _ => rfl, He.meth_ok (c.t.d.fact 76 (f := (He.Fa.meth "Ditch" "do" : He.Fa)) rfl)⟩
    D_Ditch_settle := ⟨_, fd_Ditch_settle, fun_ofD F_Ditch_settle, F_Ditch_settle.bindsN (ps := ["self", "name"]) fun _ _ _ _ _ _ us hl => match us, hl with | [_, _], _ => rfl, He.meth_ok (c.t.d.fact 77 (f := (He.Fa.meth "Ditch" "settle" : He.Fa)) rfl)⟩
    D_Ditch_sell := ⟨_, fd_Ditch_sell, fun_ofD F_Ditch_sell, F_Ditch_sell.bindsN (ps := ["self", "giver", "taker", "part"]) fun _ _ _ _ _ _ us hl => match us, hl with | [_, _, _, _], _ => rfl, He.meth_ok (c.t.d.fact 78 (f := (He.Fa.meth "Ditch" "sell" : He.Fa)) rfl)⟩
    D_Ditch_lend := ⟨_, fd_Ditch_lend, fun_ofD F_Ditch_lend, F_Ditch_lend.bindsN (ps := ["self", "giver", "taker", "part", "hours"]) fun _ _ _ _ _ _ us hl => match us, hl with | [_, _, _, _, _], _ => rfl, He.meth_ok (c.t.d.fact 79 (f := (He.Fa.meth "Ditch" "lend" : He.Fa)) rfl)⟩
    D_Ditch_leave := ⟨_, fd_Ditch_leave, fun_ofD F_Ditch_leave, F_Ditch_leave.bindsN (ps := ["self", "name", "heirs"]) fun _ _ _ _ _ _ us hl => match us, hl with | [_, _, _], _ => rfl, He.meth_ok (c.t.d.fact 80 (f := (He.Fa.meth "Ditch" "leave" : He.Fa)) rfl)⟩
    D_Ditch_hour := ⟨_, fd_Ditch_hour, fun_ofD F_Ditch_hour, F_Ditch_hour.bindsN (ps := ["self"]) fun _ _ _ _ _ _ us hl => match us, hl with | [_], _ => rfl, He.meth_ok (c.t.d.fact 81 (f := (He.Fa.meth "Ditch" "hour" : He.Fa)) rfl)⟩
    D_Ditch_lose := ⟨_, fd_Ditch_lose, fun_ofD F_Ditch_lose, F_Ditch_lose.bindsN (ps := ["self"]) fun _ _ _ _ _ _ us hl => match us, hl with | [_], _ => rfl, He.meth_ok (c.t.d.fact 82 (f := (He.Fa.meth "Ditch" "lose" : He.Fa)) rfl)⟩
    D_Ditch_back := ⟨_, fd_Ditch_back, fun_ofD F_Ditch_back, F_Ditch_back.bindsN (ps := ["self"]) fun _ _ _ _ _ _ us hl => match us, hl with | [_], _ => rfl, He.meth_ok (c.t.d.fact 83 (f := (He.Fa.meth "Ditch" "back" : He.Fa)) rfl)⟩
    D_Ditch_again := ⟨_, fd_Ditch_again, fun_ofD F_Ditch_again, F_Ditch_again.bindsN (ps := ["self"]) fun _ _ _ _ _ _ us hl => match us, hl with | [_], _ => rfl, He.meth_ok (c.t.d.fact 84 (f := (He.Fa.meth "Ditch" "again" : He.Fa)) rfl)⟩
    D_Ditch_fields := ⟨_, fd_Ditch_fields, fun_ofD F_Ditch_fields, F_Ditch_fields.bindsN (ps := ["self"]) fun _ _ _ _ _ _ us hl => match us, hl with | [_], _ => rfl, He.meth_ok (c.t.d.fact 85 (f := (He.Fa.meth "Ditch" "fields" : He.Fa)) rfl)⟩
    D_Ditch_owned := ⟨_, fd_Ditch_owned, fun_ofD F_Ditch_owned, F_Ditch_owned.bindsN (ps := ["self", "name"]) fun _ _ _ _ _ _ us hl => match us, hl with | [_, _], _ => rfl, He.meth_ok (c.t.d.fact 86 (f := (He.Fa.meth "Ditch" "owned" : He.Fa)) rfl)⟩
    D_Ditch_free := ⟨_, fd_Ditch_free, fun_ofD F_Ditch_free, F_Ditch_free.bindsN (ps := ["self", "name"]) fun _ _ _ _ _ _ us hl => match us, hl with | [_, _], _ => rfl, He.meth_ok (c.t.d.fact 87 (f := (He.Fa.meth "Ditch" "free" : He.Fa)) rfl)⟩
    D_Ditch_share := ⟨_, fd_Ditch_share, fun_ofD F_Ditch_share, F_Ditch_share.bindsN (ps := ["self", "name"]) fun _ _ _ _ _ _ us hl => match us, hl with | [_, _], _ => rfl, He.meth_ok (c.t.d.fact 88 (f := (He.Fa.meth "Ditch" "share" : He.Fa)) rfl)⟩
    D_Ditch_lag := ⟨_, fd_Ditch_lag, fun_ofD F_Ditch_lag, F_Ditch_lag.bindsN (ps := ["self", "name"]) fun _ _ _ _ _ _ us hl => match us, hl with | [_, _], _ => rfl, He.meth_ok (c.t.d.fact 89 (f := (He.Fa.meth "Ditch" "lag" : He.Fa)) rfl)⟩
    D_Ditch_lags := ⟨_, fd_Ditch_lags, fun_ofD F_Ditch_lags, F_Ditch_lags.bindsN (ps := ["self"]) fun _ _ _ _ _ _ us hl => match us, hl with | [_], _ => rfl, He.meth_ok (c.t.d.fact 90 (f := (He.Fa.meth "Ditch" "lags" : He.Fa)) rfl)⟩
    D_Ditch_loans := ⟨_, fd_Ditch_loans, fun_ofD F_Ditch_loans, F_Ditch_loans.bindsN (ps := ["self"]) fun _ _ _ _ _ _ us hl => match us, hl with | [_], _ => rfl, He.meth_ok (c.t.d.fact 91 (f := (He.Fa.meth "Ditch" "loans" : He.Fa)) rfl)⟩
    D_Ditch_given := ⟨_, fd_Ditch_given, fun_ofD F_Ditch_given, F_Ditch_given.bindsN (ps := ["self"]) fun _ _ _ _ _ _ us hl => match us, hl with | [_], _ => rfl, He.meth_ok (c.t.d.fact 92 (f := (He.Fa.meth "Ditch" "given" : He.Fa)) rfl)⟩
    D_Ditch_due := ⟨_, fd_Ditch_due, fun_ofD F_Ditch_due, F_Ditch_due.bindsN (ps := ["self"]) fun _ _ _ _ _ _ us hl => match us, hl with | [_], _ => rfl, He.meth_ok (c.t.d.fact 93 (f := (He.Fa.meth "Ditch" "due" : He.Fa)) rfl)⟩
    D__law_flow := ⟨_, fd__law_flow, fun_ofD F__law_flow, F__law_flow.bindsN (ps := ["_law_script", "_law_many"]) fun _ _ _ _ _ _ us hl => match us, hl with | [_, _], _ => rfl, He.glo_ok X G (c.t.d.fact 32 (f := (He.Fa.glo "_law_flow" : He.Fa)) rfl)⟩
    D__law_low := ⟨_, fd__law_low, fun_ofD F__law_low, F__law_low.bindsN (ps := ["_law_top", "_law_bottom"]) fun _ _ _ _ _ _ us hl => match us, hl with | [_, _], _ => rfl, He.glo_ok X G (c.t.d.fact 33 (f := (He.Fa.glo "_law_low" : He.Fa)) rfl)⟩
    D__law_add := ⟨_, fd__law_add, fun_ofD F__law_add, F__law_add.bindsN (ps := ["_law_a", "_law_b"]) fun _ _ _ _ _ _ us hl => match us, hl with | [_, _], _ => rfl, He.glo_ok X G (c.t.d.fact 34 (f := (He.Fa.glo "_law_add" : He.Fa)) rfl)⟩
    D__law_mul := ⟨_, fd__law_mul, fun_ofD F__law_mul, F__law_mul.bindsN (ps := ["_law_a", "_law_b"]) fun _ _ _ _ _ _ us hl => match us, hl with | [_, _], _ => rfl, He.glo_ok X G (c.t.d.fact 35 (f := (He.Fa.glo "_law_mul" : He.Fa)) rfl)⟩
    D__law_less := ⟨_, fd__law_less, fun_ofD F__law_less, F__law_less.bindsN (ps := ["_law_a", "_law_b"]) fun _ _ _ _ _ _ us hl => match us, hl with | [_, _], _ => rfl, He.glo_ok X G (c.t.d.fact 36 (f := (He.Fa.glo "_law_less" : He.Fa)) rfl)⟩
    D__law_sum := ⟨_, fd__law_sum, fun_ofD F__law_sum, F__law_sum.bindsN (ps := ["_law_row"]) fun _ _ _ _ _ _ us hl => match us, hl with | [_], _ => rfl, He.glo_ok X G (c.t.d.fact 37 (f := (He.Fa.glo "_law_sum" : He.Fa)) rfl)⟩
    D__law_most := ⟨_, fd__law_most, fun_ofD F__law_most, F__law_most.bindsN (ps := ["_law_n", "_law_k"]) fun _ _ _ _ _ _ us hl => match us, hl with | [_, _], _ => rfl, He.glo_ok X G (c.t.d.fact 38 (f := (He.Fa.glo "_law_most" : He.Fa)) rfl)⟩
    D__law_falling := ⟨_, fd__law_falling, fun_ofD F__law_falling, F__law_falling.bindsN (ps := ["_law_row"]) fun _ _ _ _ _ _ us hl => match us, hl with | [_], _ => rfl, He.glo_ok X G (c.t.d.fact 39 (f := (He.Fa.glo "_law_falling" : He.Fa)) rfl)⟩
    D__law_keeps := ⟨_, fd__law_keeps, fun_ofD F__law_keeps, F__law_keeps.bindsN (ps := ["_law_lags"]) fun _ _ _ _ _ _ us hl => match us, hl with | [_], _ => rfl, He.glo_ok X G (c.t.d.fact 40 (f := (He.Fa.glo "_law_keeps" : He.Fa)) rfl)⟩
    D__law_pool := ⟨_, fd__law_pool, fun_ofD F__law_pool, F__law_pool.bindsN (ps := ["_law_row"]) fun _ _ _ _ _ _ us hl => match us, hl with | [_], _ => rfl, He.glo_ok X G (c.t.d.fact 41 (f := (He.Fa.glo "_law_pool" : He.Fa)) rfl)⟩
    D_law := ⟨_, fd_law, fun_ofD F_law, F_law.bindsN (ps := ["_law_script"]) fun _ _ _ _ _ _ us hl => match us, hl with | [_], _ => rfl, He.glo_ok X G (c.t.d.fact 42 (f := (He.Fa.glo "law" : He.Fa)) rfl)⟩
    mk_Moment := He.mkr_ok (c.t.d.fact 57 (f := (He.Fa.mkr "Moment" : He.Fa)) rfl)
    mk_Ditch := He.mkr_ok (c.t.d.fact 69 (f := (He.Fa.mkr "Ditch" : He.Fa)) rfl)
    A_DitchError := He.ga K "DitchError"
    X_DitchError := excT_of (He.glo_ok X G (c.t.d.fact 94 (f := (He.Fa.glo "DitchError" : He.Fa)) rfl)) (c.t.d.fact 95 (f := (He.Fa.exc "DitchError" : He.Fa)) rfl)
    A_BadName := He.ga K "BadName"
    X_BadName := excT_of (He.glo_ok X G (c.t.d.fact 96 (f := (He.Fa.glo "BadName" : He.Fa)) rfl)) (c.t.d.fact 97 (f := (He.Fa.exc "BadName" : He.Fa)) rfl)
    A_Taken := He.ga K "Taken"
    X_Taken := excT_of (He.glo_ok X G (c.t.d.fact 99 (f := (He.Fa.glo "Taken" : He.Fa)) rfl)) (c.t.d.fact 100 (f := (He.Fa.exc "Taken" : He.Fa)) rfl)
    A_Full := He.ga K "Full"
    X_Full := excT_of (He.glo_ok X G (c.t.d.fact 102 (f := (He.Fa.glo "Full" : He.Fa)) rfl)) (c.t.d.fact 103 (f := (He.Fa.exc "Full" : He.Fa)) rfl)
    A_NoField := He.ga K "NoField"
    X_NoField := excT_of (He.glo_ok X G (c.t.d.fact 105 (f := (He.Fa.glo "NoField" : He.Fa)) rfl)) (c.t.d.fact 106 (f := (He.Fa.exc "NoField" : He.Fa)) rfl)
    A_Same := He.ga K "Same"
    X_Same := excT_of (He.glo_ok X G (c.t.d.fact 108 (f := (He.Fa.glo "Same" : He.Fa)) rfl)) (c.t.d.fact 109 (f := (He.Fa.exc "Same" : He.Fa)) rfl)
    A_NoPart := He.ga K "NoPart"
    X_NoPart := excT_of (He.glo_ok X G (c.t.d.fact 111 (f := (He.Fa.glo "NoPart" : He.Fa)) rfl)) (c.t.d.fact 112 (f := (He.Fa.exc "NoPart" : He.Fa)) rfl)
    A_TooMuch := He.ga K "TooMuch"
    X_TooMuch := excT_of (He.glo_ok X G (c.t.d.fact 114 (f := (He.Fa.glo "TooMuch" : He.Fa)) rfl)) (c.t.d.fact 115 (f := (He.Fa.exc "TooMuch" : He.Fa)) rfl)
    A_NoHours := He.ga K "NoHours"
    X_NoHours := excT_of (He.glo_ok X G (c.t.d.fact 117 (f := (He.Fa.glo "NoHours" : He.Fa)) rfl)) (c.t.d.fact 118 (f := (He.Fa.exc "NoHours" : He.Fa)) rfl)
    A_NoHeirs := He.ga K "NoHeirs"
    X_NoHeirs := excT_of (He.glo_ok X G (c.t.d.fact 120 (f := (He.Fa.glo "NoHeirs" : He.Fa)) rfl)) (c.t.d.fact 121 (f := (He.Fa.exc "NoHeirs" : He.Fa)) rfl)
    A_NoWeight := He.ga K "NoWeight"
    X_NoWeight := excT_of (He.glo_ok X G (c.t.d.fact 123 (f := (He.Fa.glo "NoWeight" : He.Fa)) rfl)) (c.t.d.fact 124 (f := (He.Fa.exc "NoWeight" : He.Fa)) rfl)
    A_WrongTurn := He.ga K "WrongTurn"
    X_WrongTurn := excT_of (He.glo_ok X G (c.t.d.fact 126 (f := (He.Fa.glo "WrongTurn" : He.Fa)) rfl)) (c.t.d.fact 127 (f := (He.Fa.exc "WrongTurn" : He.Fa)) rfl)
    A_NothingLeft := He.ga K "NothingLeft"
    X_NothingLeft := excT_of (He.glo_ok X G (c.t.d.fact 129 (f := (He.Fa.glo "NothingLeft" : He.Fa)) rfl)) (c.t.d.fact 130 (f := (He.Fa.exc "NothingLeft" : He.Fa)) rfl)
    c_DitchError := excCB_ok x2
    k_DitchError := excCB_kit x2
    c_BadName := excCB_ok x3
    k_BadName := excCB_kit x3
    e_BadName := He.exm_ok (c.t.d.fact 98 (f := (He.Fa.exm "BadName" "DitchError" true : He.Fa)) rfl)
    c_Taken := excCB_ok x4
    k_Taken := excCB_kit x4
    e_Taken := He.exm_ok (c.t.d.fact 101 (f := (He.Fa.exm "Taken" "DitchError" true : He.Fa)) rfl)
    c_Full := excCB_ok x5
    k_Full := excCB_kit x5
    e_Full := He.exm_ok (c.t.d.fact 104 (f := (He.Fa.exm "Full" "DitchError" true : He.Fa)) rfl)
    c_NoField := excCB_ok x6
    k_NoField := excCB_kit x6
    e_NoField := He.exm_ok (c.t.d.fact 107 (f := (He.Fa.exm "NoField" "DitchError" true : He.Fa)) rfl)
    c_Same := excCB_ok x7
    k_Same := excCB_kit x7
    e_Same := He.exm_ok (c.t.d.fact 110 (f := (He.Fa.exm "Same" "DitchError" true : He.Fa)) rfl)
    c_NoPart := excCB_ok x8
    k_NoPart := excCB_kit x8
    e_NoPart := He.exm_ok (c.t.d.fact 113 (f := (He.Fa.exm "NoPart" "DitchError" true : He.Fa)) rfl)
    c_TooMuch := excCB_ok x9
    k_TooMuch := excCB_kit x9
    e_TooMuch := He.exm_ok (c.t.d.fact 116 (f := (He.Fa.exm "TooMuch" "DitchError" true : He.Fa)) rfl)
    c_NoHours := excCB_ok x10
    k_NoHours := excCB_kit x10
    e_NoHours := He.exm_ok (c.t.d.fact 119 (f := (He.Fa.exm "NoHours" "DitchError" true : He.Fa)) rfl)
    c_NoHeirs := excCB_ok x11
    k_NoHeirs := excCB_kit x11
    e_NoHeirs := He.exm_ok (c.t.d.fact 122 (f := (He.Fa.exm "NoHeirs" "DitchError" true : He.Fa)) rfl)
    c_NoWeight := excCB_ok x12
    k_NoWeight := excCB_kit x12
    e_NoWeight := He.exm_ok (c.t.d.fact 125 (f := (He.Fa.exm "NoWeight" "DitchError" true : He.Fa)) rfl)
    c_WrongTurn := excCB_ok x13
    k_WrongTurn := excCB_kit x13
    e_WrongTurn := He.exm_ok (c.t.d.fact 128 (f := (He.Fa.exm "WrongTurn" "DitchError" true : He.Fa)) rfl)
    c_NothingLeft := excCB_ok x14
    k_NothingLeft := excCB_kit x14
    e_NothingLeft := He.exm_ok (c.t.d.fact 131 (f := (He.Fa.exm "NothingLeft" "DitchError" true : He.Fa)) rfl)
    i_BadName_BadName := of_decide_eq_true x15
    i_BadName_Taken := of_decide_eq_true x16
    i_BadName_Full := of_decide_eq_true x17
    i_BadName_NoField := of_decide_eq_true x18
    i_BadName_Same := of_decide_eq_true x19
    i_BadName_NoPart := of_decide_eq_true x20
    i_BadName_NoHours := of_decide_eq_true x21
    i_BadName_TooMuch := of_decide_eq_true x22
    i_BadName_NoHeirs := of_decide_eq_true x23
    i_BadName_NoWeight := of_decide_eq_true x24
    i_Taken_BadName := of_decide_eq_true x25
    i_Taken_Taken := of_decide_eq_true x26
    i_Taken_Full := of_decide_eq_true x27
    i_Taken_NoField := of_decide_eq_true x28
    i_Taken_Same := of_decide_eq_true x29
    i_Taken_NoPart := of_decide_eq_true x30
    i_Taken_NoHours := of_decide_eq_true x31
    i_Taken_TooMuch := of_decide_eq_true x32
    i_Taken_NoHeirs := of_decide_eq_true x33
    i_Taken_NoWeight := of_decide_eq_true x34
    i_Full_BadName := of_decide_eq_true x35
    i_Full_Taken := of_decide_eq_true x36
    i_Full_Full := of_decide_eq_true x37
    i_Full_NoField := of_decide_eq_true x38
    i_Full_Same := of_decide_eq_true x39
    i_Full_NoPart := of_decide_eq_true x40
    i_Full_NoHours := of_decide_eq_true x41
    i_Full_TooMuch := of_decide_eq_true x42
    i_Full_NoHeirs := of_decide_eq_true x43
    i_Full_NoWeight := of_decide_eq_true x44
    i_NoField_BadName := of_decide_eq_true x45
    i_NoField_Taken := of_decide_eq_true x46
    i_NoField_Full := of_decide_eq_true x47
    i_NoField_NoField := of_decide_eq_true x48
    i_NoField_Same := of_decide_eq_true x49
    i_NoField_NoPart := of_decide_eq_true x50
    i_NoField_NoHours := of_decide_eq_true x51
    i_NoField_TooMuch := of_decide_eq_true x52
    i_NoField_NoHeirs := of_decide_eq_true x53
    i_NoField_NoWeight := of_decide_eq_true x54
    i_Same_BadName := of_decide_eq_true x55
    i_Same_Taken := of_decide_eq_true x56
    i_Same_Full := of_decide_eq_true x57
    i_Same_NoField := of_decide_eq_true x58
    i_Same_Same := of_decide_eq_true x59
    i_Same_NoPart := of_decide_eq_true x60
    i_Same_NoHours := of_decide_eq_true x61
    i_Same_TooMuch := of_decide_eq_true x62
    i_Same_NoHeirs := of_decide_eq_true x63
    i_Same_NoWeight := of_decide_eq_true x64
    i_NoPart_BadName := of_decide_eq_true x65
    i_NoPart_Taken := of_decide_eq_true x66
    i_NoPart_Full := of_decide_eq_true x67
    i_NoPart_NoField := of_decide_eq_true x68
    i_NoPart_Same := of_decide_eq_true x69
    i_NoPart_NoPart := of_decide_eq_true x70
    i_NoPart_NoHours := of_decide_eq_true x71
    i_NoPart_TooMuch := of_decide_eq_true x72
    i_NoPart_NoHeirs := of_decide_eq_true x73
    i_NoPart_NoWeight := of_decide_eq_true x74
    i_NoHours_BadName := of_decide_eq_true x75
    i_NoHours_Taken := of_decide_eq_true x76
    i_NoHours_Full := of_decide_eq_true x77
    i_NoHours_NoField := of_decide_eq_true x78
    i_NoHours_Same := of_decide_eq_true x79
    i_NoHours_NoPart := of_decide_eq_true x80
    i_NoHours_NoHours := of_decide_eq_true x81
    i_NoHours_TooMuch := of_decide_eq_true x82
    i_NoHours_NoHeirs := of_decide_eq_true x83
    i_NoHours_NoWeight := of_decide_eq_true x84
    i_TooMuch_BadName := of_decide_eq_true x85
    i_TooMuch_Taken := of_decide_eq_true x86
    i_TooMuch_Full := of_decide_eq_true x87
    i_TooMuch_NoField := of_decide_eq_true x88
    i_TooMuch_Same := of_decide_eq_true x89
    i_TooMuch_NoPart := of_decide_eq_true x90
    i_TooMuch_NoHours := of_decide_eq_true x91
    i_TooMuch_TooMuch := of_decide_eq_true x92
    i_TooMuch_NoHeirs := of_decide_eq_true x93
    i_TooMuch_NoWeight := of_decide_eq_true x94
    i_NoHeirs_BadName := of_decide_eq_true x95
    i_NoHeirs_Taken := of_decide_eq_true x96
    i_NoHeirs_Full := of_decide_eq_true x97
    i_NoHeirs_NoField := of_decide_eq_true x98
    i_NoHeirs_Same := of_decide_eq_true x99
    i_NoHeirs_NoPart := of_decide_eq_true x100
    i_NoHeirs_NoHours := of_decide_eq_true x101
    i_NoHeirs_TooMuch := of_decide_eq_true x102
    i_NoHeirs_NoHeirs := of_decide_eq_true x103
    i_NoHeirs_NoWeight := of_decide_eq_true x104
    i_NoWeight_BadName := of_decide_eq_true x105
    i_NoWeight_Taken := of_decide_eq_true x106
    i_NoWeight_Full := of_decide_eq_true x107
    i_NoWeight_NoField := of_decide_eq_true x108
    i_NoWeight_Same := of_decide_eq_true x109
    i_NoWeight_NoPart := of_decide_eq_true x110
    i_NoWeight_NoHours := of_decide_eq_true x111
    i_NoWeight_TooMuch := of_decide_eq_true x112
    i_NoWeight_NoHeirs := of_decide_eq_true x113
    i_NoWeight_NoWeight := of_decide_eq_true x114
    a_NOUGHT := He.ga K "NOUGHT"
    m_NOUGHT := He.glo_ok X G (c.t.d.fact 132 (f := (He.Fa.glo "NOUGHT" : He.Fa)) rfl)
    p_NOUGHT := fun H => ⟨_, rfl, He.tupB_ok x0 H⟩
    a_WHOLE := He.ga K "WHOLE"
    m_WHOLE := He.glo_ok X G (c.t.d.fact 133 (f := (He.Fa.glo "WHOLE" : He.Fa)) rfl)
    p_WHOLE := fun H => ⟨_, rfl, He.tupB_ok x1 H⟩
    t_LETTERS := t_LETTERS
    m_LETTERS := h_LETTERS
    t_LONGEST_NAME := t_LONGEST_NAME
    m_LONGEST_NAME := h_LONGEST_NAME
    t_MOST_FIELDS := t_MOST_FIELDS
    m_MOST_FIELDS := h_MOST_FIELDS
    t_MOST_HOURS := t_MOST_HOURS
    m_MOST_HOURS := h_MOST_HOURS
    t_MOST_WEIGHT := t_MOST_WEIGHT
    m_MOST_WEIGHT := h_MOST_WEIGHT
    a_WAYS := He.ga K "WAYS"
    m_WAYS := He.glo_ok X G (c.t.d.fact 139 (f := (He.Fa.glo "WAYS" : He.Fa)) rfl)
    k_WAYS := c.t.tab 0
    w_settled := of_decide_eq_true x115
    w_sold := of_decide_eq_true x116
    w_lent := of_decide_eq_true x117
    w_left := of_decide_eq_true x118
    w_given_to := of_decide_eq_true x119
    w_dried := of_decide_eq_true x120
    m_abs := He.free_ok X G (c.t.d.fact 43 (f := (He.Fa.free "abs" : He.Fa)) rfl)
    m_len := He.free_ok X G (c.t.d.fact 44 (f := (He.Fa.free "len" : He.Fa)) rfl)
    m_range := He.free_ok X G (c.t.d.fact 45 (f := (He.Fa.free "range" : He.Fa)) rfl)
    m_int := He.free_ok X G (c.t.d.fact 46 (f := (He.Fa.free "int" : He.Fa)) rfl)
    m_tuple := He.free_ok X G (c.t.d.fact 47 (f := (He.Fa.free "tuple" : He.Fa)) rfl)
    m_list := He.free_ok X G (c.t.d.fact 48 (f := (He.Fa.free "list" : He.Fa)) rfl)
    m_all := He.free_ok X G (c.t.d.fact 49 (f := (He.Fa.free "all" : He.Fa)) rfl)
    m_any := He.free_ok X G (c.t.d.fact 50 (f := (He.Fa.free "any" : He.Fa)) rfl)
    m_sum := He.free_ok X G (c.t.d.fact 51 (f := (He.Fa.free "sum" : He.Fa)) rfl)
    m_zip := He.free_ok X G (c.t.d.fact 52 (f := (He.Fa.free "zip" : He.Fa)) rfl)
    m_enumerate := He.free_ok X G (c.t.d.fact 53 (f := (He.Fa.free "enumerate" : He.Fa)) rfl)
    m_ValueError := He.free_ok X G (c.t.d.fact 54 (f := (He.Fa.free "ValueError" : He.Fa)) rfl)
  }, rfl⟩
  have e := hfa.symm.trans T.D_law.g
  obtain rfl : f = T.D_law.f := by injection e with e; injection e with e
  refine ⟨T.D_law.fd, fun s v => ?_, fun base _ _ => ok_law T⟩
  rw [eF]
  exact FunD.bindsA (ps := ["_law_script"]) F_law (fun _ _ _ _ _ _ us hl => match us, hl with | [_], _ => rfl) s [v] rfl
end DT
open PySem PySem.W PySem.Calls PyProof.Rows
set_option maxHeartbeats 0 in
theorem PySem.Challenge.cw_ditchturn_k56_whole_foe_in_a_ditch_holds : PySem.Challenge.rw_ditchturn_k56_whole_foe_in_a_ditch.Holds := by
  w_on; o_law
  refine HandSHeadRun.head_any (r := OpenLaw.row PySem.Challenge.rw_ditchturn_k56_whole_foe_in_a_ditch) (q := view (OpenLaw.row PySem.Challenge.rw_ditchturn_k56_whole_foe_in_a_ditch).prog [74]) (H := DT.hkZ) (ob := DT.ob) (M := 30000) (loose := DT.looseL) (d := HandSHeadRun.topDef (OpenLaw.row PySem.Challenge.rw_ditchturn_k56_whole_foe_in_a_ditch).prog 74) (kwd := []) DT.ob_eq
    (by kernel_rfl) (fun s => by kernel_rfl) DT.run (by kernel_rfl) (by kernel_rfl) (by kernel_rfl) (by rfl) (by first | assumption | decide +kernel) (by decide +kernel) ⟨rfl, rfl, rfl, rfl, rfl, by decide +kernel⟩ ?hw ?hc
  case hw => w_witness2
  case hc =>
    refine L2.walk_ofE (l := PySem.Challenge.rw_ditchturn_k56_whole_foe_in_a_ditch) (n := 63) (k := 20) (x := "_law_script") (CX := L2.CX0) rfl (by decide) (by kernel_rfl) ⟨rfl, by decide, by decide⟩ ?F (fun _ _ _ _ z => z)
    intro w mg fa h Y G hmg0
    obtain ⟨K, KX, c⟩ := Y
    have hmg : mg ("law" : PySem.Str) = some (.ref fa) := by
      have e : (HandSHeadRun.topDef (OpenLaw.row PySem.Challenge.rw_ditchturn_k56_whole_foe_in_a_ditch).prog 74).name = ("law" : PySem.Str) := by kernel_rfl
      rw [← e]
      exact hmg0
    obtain ⟨fd, hb, hF⟩ := DT.facts (P := (PySem.Challenge.rw_ditchturn_k56_whole_foe_in_a_ditch).prog) (w := w) KX G hmg c
    exact ⟨K, fd, DT.sp_law K, KX, hb, fun H a ns hl _ hS => ⟨a, ns, rfl, hS, hl, fun _ => rfl⟩, hF⟩

