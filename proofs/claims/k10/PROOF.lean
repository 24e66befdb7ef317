import PyProof.Rows.All
import Wide.All
import OpenK.AllK
import Wide.FinOn
import PySem.Challenge.RW_timeheld_k10_known_times
import HandS.WordsExc
import HandS.Head0
import HandS.Head1
import HandS.Head2
import HandS.HeadEnd
import HandS.HeadHook1
import HandS.HeadHook2
import HandS.HeadHook3
import HandS.HeadHook4
import HandS.HeadWalk
import HandS.ForMost
import HandS.SetBool
import HandS.Strs
import HandS.Evl
import HandS.IsInst
import HandS.Flow
import HandS.Style
import HandS.Wide
import HandS.Deep
import HandS.Defaults
import HandS.NoneIn
import HandS.Small
import HandS.CallLocal
import HandS.Star
import HandS.Zip
import PyProof.RulesMatch
import KE.KDictSum
import KE.KDictCopyH
import PyProof.TupleOfGen
import KE.KDflt
import HandS.Lambda
import HandS.Nested
import HandS.Exc
import HandS.ExcOwn
import HandS.ExcIs
import HandS.EndTab
import HandS.Text
import HandS.StrMore
import HandS.FStr
import HandS.SetFor
import PyProof.CollectIter
import HandS.Walk
import PyProof.StrLawsAffix
import PyProof.StrLawsChain
import HandS.TupAny
import PyProof.P3In
import HandS.Comp
import HandS.DictComp
import HandS.DictSubView
set_option Elab.async false
set_option linter.all false
set_option maxRecDepth 100000
set_option maxHeartbeats 4000000
namespace TH
open PySem PySem.Spec PyProof.Rows L2
section
open He
def dctAt (a : PySem.W.Frag → Addr) (x : Str) (K : PySem.W.Frag) : Addr := match PySem.W.nsIn K (a K) x with
  | some (some (.ref b)) => b
  | _ => 0
def gaF (x : Str) (K : PySem.W.Frag) : Addr := ga K x
def tupD (a : PySem.W.Frag → Addr) (vs : List Dv) (K : PySem.W.Frag) : Bool := match K.lookup (a K) with
  | some ⟨.type c, _, .seq its _, _⟩ => decide (c = "tuple") && (decide (its.size ≤ sizeLine) && relAll (vs.map (Dv.v K)) its.toList)
  | _ => false
def valsD (a : PySem.W.Frag → Addr) (kvs : List (Str × Dv)) (K : PySem.W.Frag) : Bool := valsB K (a K) kvs
abbrev AlX : Type := AlT × Bool
def nonB (a : PySem.W.Frag → Addr) (x : Str) (K : PySem.W.Frag) : Bool := He.eqO (PySem.W.nsIn K (a K) x) (some none)
def itmAt (a : PySem.W.Frag → Addr) (i : Nat) (K : PySem.W.Frag) : Addr := match K.lookup (a K) with
  | some ⟨_, _, .seq its _, _⟩ => (match its.toList[i]? with
    | some (.ref b) => b
    | _ => 0)
  | _ => 0
def keyS (e : DictEntry) : Option Str := match e.key with
  | .str x _ => some x
  | _ => none
def keysD (a : PySem.W.Frag → Addr) (ks : List Str) (K : PySem.W.Frag) : Bool := match K.lookup (a K) with
  | some ⟨_, _, .dict es _, _⟩ => decide (es.toList.map keyS = ks.map some) && decide (ks.length ≤ 1000)
  | _ => false
def errB (C : PySem.W.Frag → Addr) (K : PySem.W.Frag) : Bool :=
  PySem.W.excIn K (C K) [.type "ValueError", .type "Exception", .type "BaseException", .type "object"] "ValueError.__new__" && (PySem.W.keepIn K (.ref (C K)) && (decide (PySem.W.subIn K (.ref (C K)) (.type "BaseException") = some true) &&
    (decide (PySem.W.typeIn K (.ref (C K)) = some (.type "type")) && (decide (PySem.W.findIn K (.ref (C K)) "__getattribute__" = some (some (.builtin "BaseException.__getattribute__"))) && (decide (PySem.W.findIn K (.ref (C K)) "__getattr__" = some none) &&
    (PySem.W.hasDictIn K (C K) && (decide (PySem.W.findIn K (.ref (C K)) "__class__" = some (some (.builtin "object.__class__"))) && (decide (PySem.W.specialIn K (.builtin "object.__class__") "__get__" = some (some (.builtin "getset_descriptor.__get__"))) &&
    (decide (PySem.W.takesIn K (.builtin "object.__class__") = some true) && decide (PySem.W.mroIn K (C K) (.type "object") = some true))))))))))
def kitsB (Cs : List (PySem.W.Frag → Addr)) (K : PySem.W.Frag) : Bool := Cs.all fun C => Cs.all fun D => decide (PySem.W.kitOne K (.ref (C K)) (.ref (D K)) = some (decide (C K = D K)))
def apartB (Cs : List (PySem.W.Frag → Addr)) (K : PySem.W.Frag) : Bool := decide ((Cs.map fun C => C K).Nodup)
def excB (C T : PySem.W.Frag → Addr) (K : PySem.W.Frag) : Bool := decide (PySem.W.exmOne K (.ref (C K)) (.ref (T K)) = some true)
def psB (ps : List (PySem.W.Frag → Bool)) (K : PySem.W.Frag) : Bool := ps.all fun p => p K
def obsLT (as : List Addr) (fa : List Fa) (fn : List DefD) (ts : List Tab) (tf : List Defn) (ps : List (PySem.W.Frag → Bool)) (g : Addr → Option Obj) : He.AlX := (obsT fa fn ts (frT g as), psB ps (frT g as) && tabsB g tf (frT g as))
theorem saysLT_of {as : List Addr} {fa : List Fa} {fn : List DefD} {ts : List Tab} {tf : List Defn} {ps : List (PySem.W.Frag → Bool)} {w : World} {h : Heap} (e : obsLT as fa fn ts tf ps h.get? = (valT fn ts w, true)) : He.SaysX fa fn ts tf (psB ps) w h (frT h.get? as) := by
  have e1 : obsT fa fn ts (frT h.get? as) = valT fn ts w := congrArg (fun z : AlX => z.1) e
  have e2 : (psB ps (frT h.get? as) && tabsB h.get? tf (frT h.get? as)) = true := congrArg (fun z : AlX => z.2) e
  obtain ⟨h1, h2⟩ := ba e2
  have key : ∀ p ∈ tf, PySem.W.codeHdIn (frT h.get? as) (cT (frT h.get? as) p).1 (cT (frT h.get? as) p).2 = true ∧ ∃ o, h.get? (cT (frT h.get? as) p).2 = some o ∧ emptyTab o = true := fun p hp => by
    obtain ⟨h3, h4⟩ := ba (List.all_eq_true.mp h2 p hp)
    refine ⟨h3, ?_⟩
    cases q : h.get? (cT (frT h.get? as) p).2 with
    | none =>
      rw [q] at h4
      cases h4
    | some o =>
      rw [q] at h4
      exact ⟨o, rfl, h4⟩
  exact ⟨e1, h1, fun p hp => (key p hp).1, fun p hp => by
    obtain ⟨_, o, q, z⟩ := key p hp
    exact frT_none q z, fun p hp => by
    obtain ⟨_, o, q, z⟩ := key p hp
    rw [q, emptyTab_eq z]⟩
def hookLT (as : List Addr) (fa : List Fa) (fn : List DefD) (ts : List Tab) (tf : List Defn) (ps : List (PySem.W.Frag → Bool)) : PySem.W.Hook where
  α := He.AlX
  obs := fun s => obsLT as fa fn ts tf ps s.heap.get?
  val := fun w => (valT fn ts w, true)
  says := fun w h => ∃ K : PySem.W.Frag, K.In h ∧ He.SaysX fa fn ts tf (psB ps) w h K
  of := fun _ _ e => ⟨_, frT_in, saysLT_of e⟩
  keeps := fun _ _ _ ⟨K, hK, c⟩ k => ⟨K, PySem.W.Frag.In.keeps hK k, ⟨c.t, c.more, c.hd, c.out, fun p hp => k _ _ (c.empty p hp)⟩⟩
theorem obsLT_eq {as : List Addr} {fa : List Fa} {fn : List DefD} {ts : List Tab} {tf : List Defn} {ps : List (PySem.W.Frag → Bool)} {g : Addr → Option Obj} {s : Shared} (h : ∀ a, g a = s.heap.get? a) : obsLT as fa fn ts tf ps g = (hookLT as fa fn ts tf ps).obs s := by
  have e : g = s.heap.get? := funext h
  rw [e] <;> rfl
end
def top (i : Nat) : Stmt := PySem.Challenge.pw_timeheld_k10_known_times.main.body.getD i (.Pass ⟨0, 0, 0, 0⟩)
abbrev s_arguments_in_gap : Stmt := top 5
abbrev s_arguments_in_fold : Stmt := top 6
abbrev s_arguments_in_fold_for_wall_sums : Stmt := top 7
abbrev s_arguments_in_fold_for_elapsed_sums : Stmt := top 8
abbrev s_holds_over_gaps : Stmt := top 10
abbrev s_holds_over_folds : Stmt := top 11
abbrev s_offset_in_force : Stmt := top 27
abbrev s_instants_with : Stmt := top 28
abbrev s_offset_before_gap : Stmt := top 29
abbrev s_passes_at : Stmt := top 34
abbrev s_instant_of_time : Stmt := top 35
abbrev s_time_at : Stmt := top 36
abbrev s_time_read : Stmt := top 37
abbrev s_is_between : Stmt := top 42
abbrev s_is_tuple_of : Stmt := top 43
abbrev s_is_instant : Stmt := top 44
abbrev s_is_reading : Stmt := top 45
abbrev s_is_duration : Stmt := top 46
abbrev s_is_zone : Stmt := top 54
abbrev s_are_changes_after : Stmt := top 55
abbrev s_is_change_after : Stmt := top 56
abbrev s_check_zone : Stmt := top 57
abbrev s_check_instant : Stmt := top 58
abbrev s_check_reading : Stmt := top 59
abbrev s_offset_at : Stmt := top 60
abbrev s_kind_of : Stmt := top 61
abbrev s_instants_of : Stmt := top 62
abbrev s_is_library : Stmt := top 68
abbrev s_all_libraries : Stmt := top 69
abbrev s_check_library : Stmt := top 70
abbrev s_is_time : Stmt := top 71
abbrev s_check_time : Stmt := top 72
abbrev s_to_instant : Stmt := top 73
abbrev s_from_instant : Stmt := top 74
abbrev s_read : Stmt := top 75
abbrev s_place_of : Stmt := top 77
abbrev s_time_after : Stmt := top 78
abbrev s_hours_between : Stmt := top 79
abbrev s_order_of : Stmt := top 80
abbrev s_from_universal_and_back : Stmt := top 83
abbrev s_to_universal_and_back : Stmt := top 84
abbrev s_every_reading : Stmt := top 85
abbrev s_some_reading : Stmt := top 86
abbrev s_there_and_back : Stmt := top 87
abbrev s_sum_of_durations : Stmt := top 88
abbrev s_elapsed_time : Stmt := top 89
abbrev s_same_clock : Stmt := top 90
abbrev s_later : Stmt := top 91
abbrev s_sums_told : Stmt := top 92
abbrev s_difference_recovers : Stmt := top 93
abbrev s_order_by_difference : Stmt := top 94
abbrev s_have_one_instant : Stmt := top 95
abbrev s_equal_means_one_instant : Stmt := top 96
abbrev s_one_instant_means_equal : Stmt := top 97
abbrev s_one_instant_one_time : Stmt := top 98
abbrev s_order_of_instants : Stmt := top 99
abbrev s_order_kept : Stmt := top 100
abbrev s_equal_sums : Stmt := top 101
abbrev s_are_sums_in_order : Stmt := top 102
abbrev s_is_true_of : Stmt := top 104
abbrev s_rules : Stmt := top 108
abbrev s_is_rule : Stmt := top 109
abbrev s_check_rule : Stmt := top 110
abbrev s_holds_for : Stmt := top 111
abbrev s_are_arguments : Stmt := top 112
abbrev s_is_argument : Stmt := top 113
abbrev s_check_kind : Stmt := top 116
abbrev s_holds : Stmt := top 117
abbrev s_counterexample : Stmt := top 118
abbrev s_check_rules : Stmt := top 120
abbrev s_profile : Stmt := top 121
abbrev s_implies : Stmt := top 122
abbrev s_parting : Stmt := top 123
abbrev s_libraries_with : Stmt := top 124
abbrev s_keeps_all : Stmt := top 125
abbrev s_most_rules : Stmt := top 126
abbrev s_check_duration : Stmt := top 128
abbrev s_add : Stmt := top 129
abbrev s_subtract : Stmt := top 130
abbrev s_compare : Stmt := top 131
abbrev s_integer_of : Stmt := top 135
abbrev s_check_text : Stmt := top 137
abbrev s_read_zone : Stmt := top 138
abbrev s_change_of : Stmt := top 139
abbrev s_law_taken : Stmt := top 141
abbrev s_law : Stmt := top 142
end TH
set_option maxHeartbeats 0
namespace TH
open PySem PySem.Spec PyProof.Rows L2
def d_arguments_in_gap : He.DefD := ⟨("arguments_in_gap", none), "arguments_in_gap", "arguments_in_gap", defArgs s_arguments_in_gap, defBody s_arguments_in_gap, defScope s_arguments_in_gap, [], []⟩
def d_arguments_in_fold : He.DefD := ⟨("arguments_in_fold", none), "arguments_in_fold", "arguments_in_fold", defArgs s_arguments_in_fold, defBody s_arguments_in_fold, defScope s_arguments_in_fold, [], []⟩
def d_arguments_in_fold_for_wall_sums : He.DefD := ⟨("_arguments_in_fold_for_wall_sums", none), "_arguments_in_fold_for_wall_sums", "_arguments_in_fold_for_wall_sums", defArgs s_arguments_in_fold_for_wall_sums, defBody s_arguments_in_fold_for_wall_sums, defScope s_arguments_in_fold_for_wall_sums, [], []⟩
def d_arguments_in_fold_for_elapsed_sums : He.DefD := ⟨("_arguments_in_fold_for_elapsed_sums", none), "_arguments_in_fold_for_elapsed_sums", "_arguments_in_fold_for_elapsed_sums", defArgs s_arguments_in_fold_for_elapsed_sums, defBody s_arguments_in_fold_for_elapsed_sums, defScope s_arguments_in_fold_for_elapsed_sums, [], []⟩
def d_holds_over_gaps : He.DefD := ⟨("holds_over_gaps", none), "holds_over_gaps", "holds_over_gaps", defArgs s_holds_over_gaps, defBody s_holds_over_gaps, defScope s_holds_over_gaps, [], []⟩
def d_holds_over_folds : He.DefD := ⟨("holds_over_folds", none), "holds_over_folds", "holds_over_folds", defArgs s_holds_over_folds, defBody s_holds_over_folds, defScope s_holds_over_folds, [], []⟩
def d_offset_in_force : He.DefD := ⟨("offset_in_force", none), "offset_in_force", "offset_in_force", defArgs s_offset_in_force, defBody s_offset_in_force, defScope s_offset_in_force, [], []⟩
def d_instants_with : He.DefD := ⟨("instants_with", none), "instants_with", "instants_with", defArgs s_instants_with, defBody s_instants_with, defScope s_instants_with, [], []⟩
def d_offset_before_gap : He.DefD := ⟨("offset_before_gap", none), "offset_before_gap", "offset_before_gap", defArgs s_offset_before_gap, defBody s_offset_before_gap, defScope s_offset_before_gap, [], []⟩
def d_passes_at : He.DefD := ⟨("passes_at", none), "passes_at", "passes_at", defArgs s_passes_at, defBody s_passes_at, defScope s_passes_at, [], []⟩
def d_instant_of_time : He.DefD := ⟨("instant_of_time", none), "instant_of_time", "instant_of_time", defArgs s_instant_of_time, defBody s_instant_of_time, defScope s_instant_of_time, [], []⟩
def d_time_at : He.DefD := ⟨("time_at", none), "time_at", "time_at", defArgs s_time_at, defBody s_time_at, defScope s_time_at, [], []⟩
def d_time_read : He.DefD := ⟨("time_read", none), "time_read", "time_read", defArgs s_time_read, defBody s_time_read, defScope s_time_read, [], []⟩
def d_is_between : He.DefD := ⟨("is_between", none), "is_between", "is_between", defArgs s_is_between, defBody s_is_between, defScope s_is_between, [], []⟩
def d_is_tuple_of : He.DefD := ⟨("is_tuple_of", none), "is_tuple_of", "is_tuple_of", defArgs s_is_tuple_of, defBody s_is_tuple_of, defScope s_is_tuple_of, [], []⟩
def d_is_instant : He.DefD := ⟨("is_instant", none), "is_instant", "is_instant", defArgs s_is_instant, defBody s_is_instant, defScope s_is_instant, [], []⟩
def d_is_reading : He.DefD := ⟨("is_reading", none), "is_reading", "is_reading", defArgs s_is_reading, defBody s_is_reading, defScope s_is_reading, [], []⟩
def d_is_duration : He.DefD := ⟨("is_duration", none), "is_duration", "is_duration", defArgs s_is_duration, defBody s_is_duration, defScope s_is_duration, [], []⟩
def d_is_zone : He.DefD := ⟨("is_zone", none), "is_zone", "is_zone", defArgs s_is_zone, defBody s_is_zone, defScope s_is_zone, [], []⟩
def d_are_changes_after : He.DefD := ⟨("_are_changes_after", none), "_are_changes_after", "_are_changes_after", defArgs s_are_changes_after, defBody s_are_changes_after, defScope s_are_changes_after, [], []⟩
def d_is_change_after : He.DefD := ⟨("_is_change_after", none), "_is_change_after", "_is_change_after", defArgs s_is_change_after, defBody s_is_change_after, defScope s_is_change_after, [], []⟩
def d_check_zone : He.DefD := ⟨("check_zone", none), "check_zone", "check_zone", defArgs s_check_zone, defBody s_check_zone, defScope s_check_zone, [], []⟩
def d_check_instant : He.DefD := ⟨("check_instant", none), "check_instant", "check_instant", defArgs s_check_instant, defBody s_check_instant, defScope s_check_instant, [], []⟩
def d_check_reading : He.DefD := ⟨("check_reading", none), "check_reading", "check_reading", defArgs s_check_reading, defBody s_check_reading, defScope s_check_reading, [], []⟩
def d_offset_at : He.DefD := ⟨("offset_at", none), "offset_at", "offset_at", defArgs s_offset_at, defBody s_offset_at, defScope s_offset_at, [], []⟩
def d_kind_of : He.DefD := ⟨("kind_of", none), "kind_of", "kind_of", defArgs s_kind_of, defBody s_kind_of, defScope s_kind_of, [], []⟩
def d_instants_of : He.DefD := ⟨("instants_of", none), "instants_of", "instants_of", defArgs s_instants_of, defBody s_instants_of, defScope s_instants_of, [], []⟩
def d_is_library : He.DefD := ⟨("is_library", none), "is_library", "is_library", defArgs s_is_library, defBody s_is_library, defScope s_is_library, [], []⟩
def d_all_libraries : He.DefD := ⟨("all_libraries", none), "all_libraries", "all_libraries", defArgs s_all_libraries, defBody s_all_libraries, defScope s_all_libraries, [], []⟩
def d_check_library : He.DefD := ⟨("check_library", none), "check_library", "check_library", defArgs s_check_library, defBody s_check_library, defScope s_check_library, [], []⟩
def d_is_time : He.DefD := ⟨("is_time", none), "is_time", "is_time", defArgs s_is_time, defBody s_is_time, defScope s_is_time, [], []⟩
def d_check_time : He.DefD := ⟨("check_time", none), "check_time", "check_time", defArgs s_check_time, defBody s_check_time, defScope s_check_time, [], []⟩
def d_to_instant : He.DefD := ⟨("to_instant", none), "to_instant", "to_instant", defArgs s_to_instant, defBody s_to_instant, defScope s_to_instant, [], []⟩
def d_from_instant : He.DefD := ⟨("from_instant", none), "from_instant", "from_instant", defArgs s_from_instant, defBody s_from_instant, defScope s_from_instant, [], []⟩
def d_read : He.DefD := ⟨("read", none), "read", "read", defArgs s_read, defBody s_read, defScope s_read, [], []⟩
def d_place_of : He.DefD := ⟨("place_of", none), "place_of", "place_of", defArgs s_place_of, defBody s_place_of, defScope s_place_of, [], []⟩
def d_time_after : He.DefD := ⟨("time_after", none), "time_after", "time_after", defArgs s_time_after, defBody s_time_after, defScope s_time_after, [], []⟩
def d_hours_between : He.DefD := ⟨("hours_between", none), "hours_between", "hours_between", defArgs s_hours_between, defBody s_hours_between, defScope s_hours_between, [], []⟩
def d_order_of : He.DefD := ⟨("order_of", none), "order_of", "order_of", defArgs s_order_of, defBody s_order_of, defScope s_order_of, [], []⟩
def d_from_universal_and_back : He.DefD := ⟨("_from_universal_and_back", none), "_from_universal_and_back", "_from_universal_and_back", defArgs s_from_universal_and_back, defBody s_from_universal_and_back, defScope s_from_universal_and_back, [], []⟩
def d_to_universal_and_back : He.DefD := ⟨("_to_universal_and_back", none), "_to_universal_and_back", "_to_universal_and_back", defArgs s_to_universal_and_back, defBody s_to_universal_and_back, defScope s_to_universal_and_back, [], []⟩
def d_every_reading : He.DefD := ⟨("_every_reading", none), "_every_reading", "_every_reading", defArgs s_every_reading, defBody s_every_reading, defScope s_every_reading, [], []⟩
def d_some_reading : He.DefD := ⟨("_some_reading", none), "_some_reading", "_some_reading", defArgs s_some_reading, defBody s_some_reading, defScope s_some_reading, [], []⟩
def d_there_and_back : He.DefD := ⟨("_there_and_back", none), "_there_and_back", "_there_and_back", defArgs s_there_and_back, defBody s_there_and_back, defScope s_there_and_back, [], []⟩
def d_sum_of_durations : He.DefD := ⟨("_sum_of_durations", none), "_sum_of_durations", "_sum_of_durations", defArgs s_sum_of_durations, defBody s_sum_of_durations, defScope s_sum_of_durations, [], []⟩
def d_elapsed_time : He.DefD := ⟨("_elapsed_time", none), "_elapsed_time", "_elapsed_time", defArgs s_elapsed_time, defBody s_elapsed_time, defScope s_elapsed_time, [], []⟩
def d_same_clock : He.DefD := ⟨("_same_clock", none), "_same_clock", "_same_clock", defArgs s_same_clock, defBody s_same_clock, defScope s_same_clock, [], []⟩
def d_later : He.DefD := ⟨("_later", none), "_later", "_later", defArgs s_later, defBody s_later, defScope s_later, [], []⟩
def d_sums_told : He.DefD := ⟨("_sums_told", none), "_sums_told", "_sums_told", defArgs s_sums_told, defBody s_sums_told, defScope s_sums_told, [], []⟩
def d_difference_recovers : He.DefD := ⟨("_difference_recovers", none), "_difference_recovers", "_difference_recovers", defArgs s_difference_recovers, defBody s_difference_recovers, defScope s_difference_recovers, [], []⟩
def d_order_by_difference : He.DefD := ⟨("_order_by_difference", none), "_order_by_difference", "_order_by_difference", defArgs s_order_by_difference, defBody s_order_by_difference, defScope s_order_by_difference, [], []⟩
def d_have_one_instant : He.DefD := ⟨("_have_one_instant", none), "_have_one_instant", "_have_one_instant", defArgs s_have_one_instant, defBody s_have_one_instant, defScope s_have_one_instant, [], []⟩
def d_equal_means_one_instant : He.DefD := ⟨("_equal_means_one_instant", none), "_equal_means_one_instant", "_equal_means_one_instant", defArgs s_equal_means_one_instant, defBody s_equal_means_one_instant, defScope s_equal_means_one_instant, [], []⟩
def d_one_instant_means_equal : He.DefD := ⟨("_one_instant_means_equal", none), "_one_instant_means_equal", "_one_instant_means_equal", defArgs s_one_instant_means_equal, defBody s_one_instant_means_equal, defScope s_one_instant_means_equal, [], []⟩
def d_one_instant_one_time : He.DefD := ⟨("_one_instant_one_time", none), "_one_instant_one_time", "_one_instant_one_time", defArgs s_one_instant_one_time, defBody s_one_instant_one_time, defScope s_one_instant_one_time, [], []⟩
def d_order_of_instants : He.DefD := ⟨("_order_of_instants", none), "_order_of_instants", "_order_of_instants", defArgs s_order_of_instants, defBody s_order_of_instants, defScope s_order_of_instants, [], []⟩
def d_order_kept : He.DefD := ⟨("_order_kept", none), "_order_kept", "_order_kept", defArgs s_order_kept, defBody s_order_kept, defScope s_order_kept, [], []⟩
def d_equal_sums : He.DefD := ⟨("_equal_sums", none), "_equal_sums", "_equal_sums", defArgs s_equal_sums, defBody s_equal_sums, defScope s_equal_sums, [], []⟩
def d_are_sums_in_order : He.DefD := ⟨("_are_sums_in_order", none), "_are_sums_in_order", "_are_sums_in_order", defArgs s_are_sums_in_order, defBody s_are_sums_in_order, defScope s_are_sums_in_order, [], []⟩
def d_is_true_of : He.DefD := ⟨("is_true_of", none), "is_true_of", "is_true_of", defArgs s_is_true_of, defBody s_is_true_of, defScope s_is_true_of, [], []⟩
def d_rules : He.DefD := ⟨("rules", none), "rules", "rules", defArgs s_rules, defBody s_rules, defScope s_rules, [], []⟩
def d_is_rule : He.DefD := ⟨("is_rule", none), "is_rule", "is_rule", defArgs s_is_rule, defBody s_is_rule, defScope s_is_rule, [], []⟩
def d_check_rule : He.DefD := ⟨("check_rule", none), "check_rule", "check_rule", defArgs s_check_rule, defBody s_check_rule, defScope s_check_rule, [], []⟩
def d_holds_for : He.DefD := ⟨("holds_for", none), "holds_for", "holds_for", defArgs s_holds_for, defBody s_holds_for, defScope s_holds_for, [], []⟩
def d_are_arguments : He.DefD := ⟨("_are_arguments", none), "_are_arguments", "_are_arguments", defArgs s_are_arguments, defBody s_are_arguments, defScope s_are_arguments, [], []⟩
def d_is_argument : He.DefD := ⟨("_is_argument", none), "_is_argument", "_is_argument", defArgs s_is_argument, defBody s_is_argument, defScope s_is_argument, [], []⟩
def d_check_kind : He.DefD := ⟨("check_kind", none), "check_kind", "check_kind", defArgs s_check_kind, defBody s_check_kind, defScope s_check_kind, [], []⟩
def d_holds : He.DefD := ⟨("holds", none), "holds", "holds", defArgs s_holds, defBody s_holds, defScope s_holds, [], []⟩
def d_counterexample : He.DefD := ⟨("counterexample", none), "counterexample", "counterexample", defArgs s_counterexample, defBody s_counterexample, defScope s_counterexample, [], []⟩
def d_check_rules : He.DefD := ⟨("check_rules", none), "check_rules", "check_rules", defArgs s_check_rules, defBody s_check_rules, defScope s_check_rules, [], []⟩
def d_profile : He.DefD := ⟨("profile", none), "profile", "profile", defArgs s_profile, defBody s_profile, defScope s_profile, [], []⟩
def d_implies : He.DefD := ⟨("implies", none), "implies", "implies", defArgs s_implies, defBody s_implies, defScope s_implies, [], []⟩
def d_parting : He.DefD := ⟨("parting", none), "parting", "parting", defArgs s_parting, defBody s_parting, defScope s_parting, [], []⟩
def d_libraries_with : He.DefD := ⟨("libraries_with", none), "libraries_with", "libraries_with", defArgs s_libraries_with, defBody s_libraries_with, defScope s_libraries_with, [], []⟩
def d_keeps_all : He.DefD := ⟨("_keeps_all", none), "_keeps_all", "_keeps_all", defArgs s_keeps_all, defBody s_keeps_all, defScope s_keeps_all, [], []⟩
def d_most_rules : He.DefD := ⟨("most_rules", none), "most_rules", "most_rules", defArgs s_most_rules, defBody s_most_rules, defScope s_most_rules, [], []⟩
def d_check_duration : He.DefD := ⟨("check_duration", none), "check_duration", "check_duration", defArgs s_check_duration, defBody s_check_duration, defScope s_check_duration, [], []⟩
def d_add : He.DefD := ⟨("add", none), "add", "add", defArgs s_add, defBody s_add, defScope s_add, [], []⟩
def d_subtract : He.DefD := ⟨("subtract", none), "subtract", "subtract", defArgs s_subtract, defBody s_subtract, defScope s_subtract, [], []⟩
def d_compare : He.DefD := ⟨("compare", none), "compare", "compare", defArgs s_compare, defBody s_compare, defScope s_compare, [], []⟩
def d_integer_of : He.DefD := ⟨("integer_of", none), "integer_of", "integer_of", defArgs s_integer_of, defBody s_integer_of, defScope s_integer_of, [], []⟩
def d_check_text : He.DefD := ⟨("check_text", none), "check_text", "check_text", defArgs s_check_text, defBody s_check_text, defScope s_check_text, [], []⟩
def d_read_zone : He.DefD := ⟨("read_zone", none), "read_zone", "read_zone", defArgs s_read_zone, defBody s_read_zone, defScope s_read_zone, [], []⟩
def d_change_of : He.DefD := ⟨("_change_of", none), "_change_of", "_change_of", defArgs s_change_of, defBody s_change_of, defScope s_change_of, [], []⟩
def d_law_taken : He.DefD := ⟨("_law_taken", none), "_law_taken", "_law_taken", defArgs s_law_taken, defBody s_law_taken, defScope s_law_taken, [], []⟩
def d_law : He.DefD := ⟨("law", none), "law", "law", defArgs s_law, defBody s_law, defScope s_law, [], []⟩
def fn : List He.DefD := [d_arguments_in_gap, d_arguments_in_fold, d_arguments_in_fold_for_wall_sums, d_arguments_in_fold_for_elapsed_sums, d_holds_over_gaps, d_holds_over_folds, d_offset_in_force, d_instants_with, d_offset_before_gap, d_passes_at, d_instant_of_time, d_time_at, d_time_read, d_is_between, d_is_tuple_of, d_is_instant, d_is_reading, d_is_duration, d_is_zone, d_are_changes_after, d_is_change_after, d_check_zone, d_check_instant, d_check_reading, d_offset_at, d_kind_of, d_instants_of, d_is_library, d_all_libraries, d_check_library, d_is_time, d_check_time, d_to_instant, d_from_instant, d_read, d_place_of, d_time_after, d_hours_between, d_order_of, d_from_universal_and_back, d_to_universal_and_back, d_every_reading, d_some_reading, d_there_and_back, d_sum_of_durations, d_elapsed_time, d_same_clock, d_later, d_sums_told, d_difference_recovers, d_order_by_difference, d_have_one_instant, d_equal_means_one_instant, d_one_instant_means_equal, d_one_instant_one_time, d_order_of_instants, d_order_kept, d_equal_sums, d_are_sums_in_order, d_is_true_of, d_rules, d_is_rule, d_check_rule, d_holds_for, d_are_arguments, d_is_argument, d_check_kind, d_holds, d_counterexample, d_check_rules, d_profile, d_implies, d_parting, d_libraries_with, d_keeps_all, d_most_rules, d_check_duration, d_add, d_subtract, d_compare, d_integer_of, d_check_text, d_read_zone, d_change_of, d_law_taken, d_law]
def fa : List He.Fa := [.glo "arguments_in_gap", .glo "arguments_in_fold", .glo "_arguments_in_fold_for_wall_sums", .glo "_arguments_in_fold_for_elapsed_sums", .glo "holds_over_gaps", .glo "holds_over_folds", .glo "offset_in_force", .glo "instants_with", .glo "offset_before_gap", .glo "passes_at", .glo "instant_of_time", .glo "time_at", .glo "time_read", .glo "is_between", .glo "is_tuple_of", .glo "is_instant", .glo "is_reading", .glo "is_duration", .glo "is_zone", .glo "_are_changes_after", .glo "_is_change_after", .glo "check_zone", .glo "check_instant", .glo "check_reading", .glo "offset_at", .glo "kind_of", .glo "instants_of", .glo "is_library", .glo "all_libraries", .glo "check_library", .glo "is_time", .glo "check_time", .glo "to_instant", .glo "from_instant", .glo "read", .glo "place_of", .glo "time_after", .glo "hours_between", .glo "order_of", .glo "_from_universal_and_back", .glo "_to_universal_and_back", .glo "_every_reading", .glo "_some_reading", .glo "_there_and_back", .glo "_sum_of_durations", .glo "_elapsed_time", .glo "_same_clock", .glo "_later", .glo "_sums_told", .glo "_difference_recovers", .glo "_order_by_difference", .glo "_have_one_instant", .glo "_equal_means_one_instant", .glo "_one_instant_means_equal", .glo "_one_instant_one_time", .glo "_order_of_instants", .glo "_order_kept", .glo "_equal_sums", .glo "_are_sums_in_order", .glo "is_true_of", .glo "rules", .glo "is_rule", .glo "check_rule", .glo "holds_for", .glo "_are_arguments", .glo "_is_argument", .glo "check_kind", .glo "holds", .glo "counterexample", .glo "check_rules", .glo "profile", .glo "implies", .glo "parting", .glo "libraries_with", .glo "_keeps_all", .glo "most_rules", .glo "check_duration", .glo "add", .glo "subtract", .glo "compare", .glo "integer_of", .glo "check_text", .glo "read_zone", .glo "_change_of", .glo "_law_taken", .glo "law", .glo "TimeError", .glo "NotText", .glo "InvalidText", .free "tuple", .free "sorted", .free "len", .free "isinstance", .free "bool", .free "int", .free "abs", .free "str", .free "all", .free "zip", .free "set", .free "max", .glo "IN_GAP", .glo "IN_FOLD", .glo "PASSES_IN_GAP", .glo "PASSES_IN_FOLD", .str "REFUSED" "refused", .int "MOST_INSTANT" 100000, .int "MOST_READING" 90000, .int "MOST_DURATION" 9000, .int "MOST_FIRST_OFFSET" 12, .int "MOST_CHANGES" 8, .int "MOST_CHANGE_INSTANT" 1000, .int "LEAST_DISTANCE" 12, .int "MOST_STEP" 3, .int "MOST_LATER_OFFSET" 15, .glo "SUMS", .glo "ORDERS", .glo "GAPS", .glo "FOLDS", .int "HOURS_OF_A_DAY" 24, .glo "STATEMENTS", .glo "SHAPES", .int "MOST_DURATION_OF_RULES" 4000, .glo "KINDS", .glo "GAP_ZONE", .glo "FOLD_ZONE", .int "MOST_DIGITS" 9, .str "DIGITS" "0123456789"]
abbrev R : PySem.W.OpenRow := PySem.W.OpenLaw.row PySem.Challenge.rw_timeheld_k10_known_times
def ts : List He.Tab := [(gaF "IN_GAP", ["to universal and back", "every reading", "some reading", "sum of durations", "elapsed time", "sums told", "difference recovers", "order by difference", "one instant means equal", "one instant, one time", "order of instants"]), (gaF "IN_FOLD", ["every reading", "some reading", "sums told", "difference recovers", "order by difference", "equal means one instant", "order of instants"]), (gaF "PASSES_IN_GAP", ["keep", "refuse", "shift"]), (gaF "PASSES_IN_FOLD", ["both", "first", "refuse", "second"]), (gaF "STATEMENTS", ["from universal and back", "to universal and back", "every reading", "some reading", "there and back", "sum of durations", "elapsed time", "same clock", "later", "sums told", "difference recovers", "order by difference", "equal means one instant", "one instant means equal", "one instant, one time", "order of instants", "order kept", "equal sums"]), (gaF "SHAPES", ["from universal and back", "to universal and back", "every reading", "some reading", "there and back", "sum of durations", "elapsed time", "same clock", "later", "sums told", "difference recovers", "order by difference", "equal means one instant", "one instant means equal", "one instant, one time", "order of instants", "order kept", "equal sums"])]
def ps : List (PySem.W.Frag → Bool) := [valsD (gaF "IN_GAP") [(("to universal and back" : Str), .adr (dctAt (gaF "IN_GAP") "to universal and back")), (("every reading" : Str), .adr (dctAt (gaF "IN_GAP") "every reading")), (("some reading" : Str), .adr (dctAt (gaF "IN_GAP") "some reading")), (("sum of durations" : Str), .adr (dctAt (gaF "IN_GAP") "sum of durations")), (("elapsed time" : Str), .adr (dctAt (gaF "IN_GAP") "elapsed time")), (("sums told" : Str), .adr (dctAt (gaF "IN_GAP") "sums told")), (("difference recovers" : Str), .adr (dctAt (gaF "IN_GAP") "difference recovers")), (("order by difference" : Str), .adr (dctAt (gaF "IN_GAP") "order by difference")), (("one instant means equal" : Str), .adr (dctAt (gaF "IN_GAP") "one instant means equal")), (("one instant, one time" : Str), .adr (dctAt (gaF "IN_GAP") "one instant, one time")), (("order of instants" : Str), .adr (dctAt (gaF "IN_GAP") "order of instants"))],
  tupD (itmAt (dctAt (gaF "IN_GAP") "to universal and back") 0) [.int 0, .int 0],
  tupD (dctAt (gaF "IN_GAP") "to universal and back") [.adr (itmAt (dctAt (gaF "IN_GAP") "to universal and back") 0)],
  tupD (dctAt (gaF "IN_GAP") "every reading") [.int 0],
  tupD (dctAt (gaF "IN_GAP") "some reading") [.int 0],
  tupD (itmAt (dctAt (gaF "IN_GAP") "sum of durations") 0) [.int (-1), .int 0],
  tupD (dctAt (gaF "IN_GAP") "sum of durations") [.adr (itmAt (dctAt (gaF "IN_GAP") "sum of durations") 0), .int 1, .int 2],
  tupD (itmAt (dctAt (gaF "IN_GAP") "elapsed time") 0) [.int (-1), .int 0],
  tupD (dctAt (gaF "IN_GAP") "elapsed time") [.adr (itmAt (dctAt (gaF "IN_GAP") "elapsed time") 0), .int 3],
  tupD (itmAt (dctAt (gaF "IN_GAP") "sums told") 0) [.int (-1), .int 0],
  tupD (dctAt (gaF "IN_GAP") "sums told") [.adr (itmAt (dctAt (gaF "IN_GAP") "sums told") 0), .int 1],
  tupD (itmAt (dctAt (gaF "IN_GAP") "difference recovers") 0) [.int (-1), .int 0],
  tupD (itmAt (dctAt (gaF "IN_GAP") "difference recovers") 1) [.int 0, .int 0],
  tupD (dctAt (gaF "IN_GAP") "difference recovers") [.adr (itmAt (dctAt (gaF "IN_GAP") "difference recovers") 0), .adr (itmAt (dctAt (gaF "IN_GAP") "difference recovers") 1)],
  tupD (itmAt (dctAt (gaF "IN_GAP") "order by difference") 0) [.int 0, .int 0],
  tupD (itmAt (dctAt (gaF "IN_GAP") "order by difference") 1) [.int 2, .int 0],
  tupD (dctAt (gaF "IN_GAP") "order by difference") [.adr (itmAt (dctAt (gaF "IN_GAP") "order by difference") 0), .adr (itmAt (dctAt (gaF "IN_GAP") "order by difference") 1)],
  tupD (itmAt (dctAt (gaF "IN_GAP") "one instant means equal") 0) [.int 0, .int 0],
  tupD (itmAt (dctAt (gaF "IN_GAP") "one instant means equal") 1) [.int 2, .int 0],
  tupD (dctAt (gaF "IN_GAP") "one instant means equal") [.adr (itmAt (dctAt (gaF "IN_GAP") "one instant means equal") 0), .adr (itmAt (dctAt (gaF "IN_GAP") "one instant means equal") 1)],
  tupD (itmAt (dctAt (gaF "IN_GAP") "one instant, one time") 0) [.int 0, .int 0],
  tupD (itmAt (dctAt (gaF "IN_GAP") "one instant, one time") 1) [.int 2, .int 0],
  tupD (dctAt (gaF "IN_GAP") "one instant, one time") [.adr (itmAt (dctAt (gaF "IN_GAP") "one instant, one time") 0), .adr (itmAt (dctAt (gaF "IN_GAP") "one instant, one time") 1)],
  tupD (itmAt (dctAt (gaF "IN_GAP") "order of instants") 0) [.int 0, .int 0],
  tupD (itmAt (dctAt (gaF "IN_GAP") "order of instants") 1) [.int 2, .int 0],
  tupD (dctAt (gaF "IN_GAP") "order of instants") [.adr (itmAt (dctAt (gaF "IN_GAP") "order of instants") 0), .adr (itmAt (dctAt (gaF "IN_GAP") "order of instants") 1)],
  nonB (gaF "IN_GAP") "from universal and back",
  nonB (gaF "IN_GAP") "there and back",
  nonB (gaF "IN_GAP") "same clock",
  nonB (gaF "IN_GAP") "later",
  nonB (gaF "IN_GAP") "equal means one instant",
  nonB (gaF "IN_GAP") "order kept",
  nonB (gaF "IN_GAP") "equal sums",
  valsD (gaF "IN_FOLD") [(("every reading" : Str), .adr (dctAt (gaF "IN_FOLD") "every reading")), (("some reading" : Str), .adr (dctAt (gaF "IN_FOLD") "some reading")), (("sums told" : Str), .adr (dctAt (gaF "IN_FOLD") "sums told")), (("difference recovers" : Str), .adr (dctAt (gaF "IN_FOLD") "difference recovers")), (("order by difference" : Str), .adr (dctAt (gaF "IN_FOLD") "order by difference")), (("equal means one instant" : Str), .adr (dctAt (gaF "IN_FOLD") "equal means one instant")), (("order of instants" : Str), .adr (dctAt (gaF "IN_FOLD") "order of instants"))],
  tupD (dctAt (gaF "IN_FOLD") "every reading") [.int (-1)],
  tupD (dctAt (gaF "IN_FOLD") "some reading") [.int (-1)],
  tupD (itmAt (dctAt (gaF "IN_FOLD") "sums told") 0) [.int (-3), .int 0],
  tupD (dctAt (gaF "IN_FOLD") "sums told") [.adr (itmAt (dctAt (gaF "IN_FOLD") "sums told") 0), .int 2],
  tupD (itmAt (dctAt (gaF "IN_FOLD") "difference recovers") 0) [.int (-3), .int 0],
  tupD (itmAt (dctAt (gaF "IN_FOLD") "difference recovers") 1) [.int (-1), .int 1],
  tupD (dctAt (gaF "IN_FOLD") "difference recovers") [.adr (itmAt (dctAt (gaF "IN_FOLD") "difference recovers") 0), .adr (itmAt (dctAt (gaF "IN_FOLD") "difference recovers") 1)],
  tupD (itmAt (dctAt (gaF "IN_FOLD") "order by difference") 0) [.int (-1), .int 0],
  tupD (itmAt (dctAt (gaF "IN_FOLD") "order by difference") 1) [.int (-1), .int 1],
  tupD (dctAt (gaF "IN_FOLD") "order by difference") [.adr (itmAt (dctAt (gaF "IN_FOLD") "order by difference") 0), .adr (itmAt (dctAt (gaF "IN_FOLD") "order by difference") 1)],
  tupD (itmAt (dctAt (gaF "IN_FOLD") "equal means one instant") 0) [.int (-1), .int 0],
  tupD (itmAt (dctAt (gaF "IN_FOLD") "equal means one instant") 1) [.int (-1), .int 1],
  tupD (dctAt (gaF "IN_FOLD") "equal means one instant") [.adr (itmAt (dctAt (gaF "IN_FOLD") "equal means one instant") 0), .adr (itmAt (dctAt (gaF "IN_FOLD") "equal means one instant") 1)],
  tupD (itmAt (dctAt (gaF "IN_FOLD") "order of instants") 0) [.int (-1), .int 0],
  tupD (itmAt (dctAt (gaF "IN_FOLD") "order of instants") 1) [.int (-1), .int 1],
  tupD (dctAt (gaF "IN_FOLD") "order of instants") [.adr (itmAt (dctAt (gaF "IN_FOLD") "order of instants") 0), .adr (itmAt (dctAt (gaF "IN_FOLD") "order of instants") 1)],
  nonB (gaF "IN_FOLD") "from universal and back",
  nonB (gaF "IN_FOLD") "to universal and back",
  nonB (gaF "IN_FOLD") "there and back",
  nonB (gaF "IN_FOLD") "sum of durations",
  nonB (gaF "IN_FOLD") "elapsed time",
  nonB (gaF "IN_FOLD") "same clock",
  nonB (gaF "IN_FOLD") "later",
  nonB (gaF "IN_FOLD") "one instant means equal",
  nonB (gaF "IN_FOLD") "one instant, one time",
  nonB (gaF "IN_FOLD") "order kept",
  nonB (gaF "IN_FOLD") "equal sums",
  valsD (gaF "PASSES_IN_GAP") [(("keep" : Str), .adr (dctAt (gaF "PASSES_IN_GAP") "keep")), (("refuse" : Str), .adr (dctAt (gaF "PASSES_IN_GAP") "refuse")), (("shift" : Str), .adr (dctAt (gaF "PASSES_IN_GAP") "shift"))],
  tupD (dctAt (gaF "PASSES_IN_GAP") "keep") [.int 0],
  tupD (dctAt (gaF "PASSES_IN_GAP") "refuse") [],
  tupD (dctAt (gaF "PASSES_IN_GAP") "shift") [],
  valsD (gaF "PASSES_IN_FOLD") [(("both" : Str), .adr (dctAt (gaF "PASSES_IN_FOLD") "both")), (("first" : Str), .adr (dctAt (gaF "PASSES_IN_FOLD") "first")), (("refuse" : Str), .adr (dctAt (gaF "PASSES_IN_FOLD") "refuse")), (("second" : Str), .adr (dctAt (gaF "PASSES_IN_FOLD") "second"))],
  tupD (dctAt (gaF "PASSES_IN_FOLD") "both") [.int 0, .int 1],
  tupD (dctAt (gaF "PASSES_IN_FOLD") "first") [.int 0],
  tupD (dctAt (gaF "PASSES_IN_FOLD") "refuse") [],
  tupD (dctAt (gaF "PASSES_IN_FOLD") "second") [.int 0],
  tupD (gaF "SUMS") [.str "elapsed", .str "wall"],
  tupD (gaF "ORDERS") [.str "elapsed", .str "wall"],
  tupD (gaF "GAPS") [.str "keep", .str "refuse", .str "shift"],
  tupD (gaF "FOLDS") [.str "both", .str "first", .str "refuse", .str "second"],
  valsD (gaF "STATEMENTS") [(("from universal and back" : Str), .glo "_from_universal_and_back"), (("to universal and back" : Str), .glo "_to_universal_and_back"), (("every reading" : Str), .glo "_every_reading"), (("some reading" : Str), .glo "_some_reading"), (("there and back" : Str), .glo "_there_and_back"), (("sum of durations" : Str), .glo "_sum_of_durations"), (("elapsed time" : Str), .glo "_elapsed_time"), (("same clock" : Str), .glo "_same_clock"), (("later" : Str), .glo "_later"), (("sums told" : Str), .glo "_sums_told"), (("difference recovers" : Str), .glo "_difference_recovers"), (("order by difference" : Str), .glo "_order_by_difference"), (("equal means one instant" : Str), .glo "_equal_means_one_instant"), (("one instant means equal" : Str), .glo "_one_instant_means_equal"), (("one instant, one time" : Str), .glo "_one_instant_one_time"), (("order of instants" : Str), .glo "_order_of_instants"), (("order kept" : Str), .glo "_order_kept"), (("equal sums" : Str), .glo "_equal_sums")],
  valsD (gaF "SHAPES") [(("from universal and back" : Str), .adr (dctAt (gaF "SHAPES") "from universal and back")), (("to universal and back" : Str), .adr (dctAt (gaF "SHAPES") "to universal and back")), (("every reading" : Str), .adr (dctAt (gaF "SHAPES") "every reading")), (("some reading" : Str), .adr (dctAt (gaF "SHAPES") "some reading")), (("there and back" : Str), .adr (dctAt (gaF "SHAPES") "there and back")), (("sum of durations" : Str), .adr (dctAt (gaF "SHAPES") "sum of durations")), (("elapsed time" : Str), .adr (dctAt (gaF "SHAPES") "elapsed time")), (("same clock" : Str), .adr (dctAt (gaF "SHAPES") "same clock")), (("later" : Str), .adr (dctAt (gaF "SHAPES") "later")), (("sums told" : Str), .adr (dctAt (gaF "SHAPES") "sums told")), (("difference recovers" : Str), .adr (dctAt (gaF "SHAPES") "difference recovers")), (("order by difference" : Str), .adr (dctAt (gaF "SHAPES") "order by difference")), (("equal means one instant" : Str), .adr (dctAt (gaF "SHAPES") "equal means one instant")), (("one instant means equal" : Str), .adr (dctAt (gaF "SHAPES") "one instant means equal")), (("one instant, one time" : Str), .adr (dctAt (gaF "SHAPES") "one instant, one time")), (("order of instants" : Str), .adr (dctAt (gaF "SHAPES") "order of instants")), (("order kept" : Str), .adr (dctAt (gaF "SHAPES") "order kept")), (("equal sums" : Str), .adr (dctAt (gaF "SHAPES") "equal sums"))],
  tupD (dctAt (gaF "SHAPES") "from universal and back") [.str "instant"],
  tupD (dctAt (gaF "SHAPES") "to universal and back") [.str "time"],
  tupD (dctAt (gaF "SHAPES") "every reading") [.str "reading"],
  tupD (dctAt (gaF "SHAPES") "some reading") [.str "reading"],
  tupD (dctAt (gaF "SHAPES") "there and back") [.str "time", .str "duration"],
  tupD (dctAt (gaF "SHAPES") "sum of durations") [.str "time", .str "duration", .str "duration"],
  tupD (dctAt (gaF "SHAPES") "elapsed time") [.str "time", .str "duration"],
  tupD (dctAt (gaF "SHAPES") "same clock") [.str "time"],
  tupD (dctAt (gaF "SHAPES") "later") [.str "time", .str "duration"],
  tupD (dctAt (gaF "SHAPES") "sums told") [.str "time", .str "duration"],
  tupD (dctAt (gaF "SHAPES") "difference recovers") [.str "time", .str "time"],
  tupD (dctAt (gaF "SHAPES") "order by difference") [.str "time", .str "time"],
  tupD (dctAt (gaF "SHAPES") "equal means one instant") [.str "time", .str "time"],
  tupD (dctAt (gaF "SHAPES") "one instant means equal") [.str "time", .str "time"],
  tupD (dctAt (gaF "SHAPES") "one instant, one time") [.str "time", .str "time"],
  tupD (dctAt (gaF "SHAPES") "order of instants") [.str "time", .str "time"],
  tupD (dctAt (gaF "SHAPES") "order kept") [.str "time", .str "time", .str "duration"],
  tupD (dctAt (gaF "SHAPES") "equal sums") [.str "time", .str "time", .str "duration"],
  keysD (gaF "SHAPES") ["from universal and back", "to universal and back", "every reading", "some reading", "there and back", "sum of durations", "elapsed time", "same clock", "later", "sums told", "difference recovers", "order by difference", "equal means one instant", "one instant means equal", "one instant, one time", "order of instants", "order kept", "equal sums"],
  tupD (gaF "KINDS") [.str "fixed", .str "skips", .str "repeats", .str "both"],
  tupD (itmAt (itmAt (gaF "GAP_ZONE") 1) 0) [.int 0, .int 2],
  tupD (itmAt (gaF "GAP_ZONE") 1) [.adr (itmAt (itmAt (gaF "GAP_ZONE") 1) 0)],
  tupD (gaF "GAP_ZONE") [.int 0, .adr (itmAt (gaF "GAP_ZONE") 1)],
  tupD (itmAt (itmAt (gaF "FOLD_ZONE") 1) 0) [.int 0, .int (-2)],
  tupD (itmAt (gaF "FOLD_ZONE") 1) [.adr (itmAt (itmAt (gaF "FOLD_ZONE") 1) 0)],
  tupD (gaF "FOLD_ZONE") [.int 0, .adr (itmAt (gaF "FOLD_ZONE") 1)],
  errB (gaF "NotText"),
  excB (gaF "NotText") (gaF "TimeError"),
  errB (gaF "InvalidText"),
  excB (gaF "InvalidText") (gaF "TimeError"),
  kitsB [gaF "NotText", gaF "InvalidText"],
  apartB [gaF "NotText", gaF "InvalidText"]]
def tfs : List He.Defn := []
def as_ : List Addr := [3, 6, 17, 20, 21, 47, 68, 75, 80, 85, 90, 95, 259, 264, 271, 272, 276, 287, 294, 301, 308, 315, 322, 329, 336, 343, 350, 357, 364, 371, 378, 385, 392, 399, 406, 407, 408, 409, 410, 417, 422, 429, 436, 443, 450, 457, 464, 471, 478, 485, 492, 499, 506, 513, 520, 527, 534, 541, 548, 555, 562, 569, 576, 583, 590, 597, 604, 611, 618, 625, 632, 633, 641, 642, 668, 675, 682, 689, 694, 701, 702, 709, 716, 723, 728, 733, 740, 747, 752, 757, 762, 769, 776, 783, 790, 795, 802, 807, 812, 819, 826, 67, 74, 79, 84, 89, 94, 258, 263, 270, 286, 293, 300, 307, 314, 321, 328, 335, 342, 349, 356, 363, 370, 377, 384, 391, 398, 405, 416, 421, 428, 435, 442, 449, 456, 463, 470, 477, 484, 491, 498, 505, 512, 519, 526, 533, 540, 547, 554, 561, 568, 575, 582, 589, 596, 603, 610, 617, 624, 631, 640, 667, 674, 681, 688, 693, 700, 708, 715, 722, 727, 732, 739, 746, 751, 756, 761, 768, 775, 782, 789, 794, 801, 806, 811, 818, 825, 16, 15, 19, 18, 23, 22, 24, 25, 27, 26, 29, 28, 31, 30, 34, 32, 33, 37, 35, 36, 40, 38, 39, 43, 41, 42, 46, 44, 45, 48, 49, 51, 50, 54, 52, 53, 57, 55, 56, 60, 58, 59, 63, 61, 62, 273, 274, 275, 277, 278, 279, 280, 643, 644, 645, 646, 647, 648, 649, 650, 651, 652, 653, 654, 655, 656, 657, 658, 659, 661, 105, 104, 118, 117, 130, 129, 142, 141, 154, 153, 166, 165, 178, 177, 190, 189, 202, 201, 214, 213, 226, 225, 238, 237, 250, 249]
abbrev hk : PySem.W.Hook := hookLT as_ fa fn ts tfs ps
def ob (s : PySem.W.SharedT) : He.AlX := obsLT as_ fa fn ts tfs ps (HandSHeadRun.getT s)
theorem ob_eq (s : PySem.W.SharedT) : ob s = hk.obs s.abs := obsLT_eq (HandSHeadRun.getT_eq s)
def loose : List PySem.Str := [("GAP_ZONE" : PySem.Str), ("FOLD_ZONE" : PySem.Str), ("IN_GAP" : PySem.Str), ("IN_FOLD" : PySem.Str), ("arguments_in_gap" : PySem.Str), ("arguments_in_fold" : PySem.Str), ("_arguments_in_fold_for_wall_sums" : PySem.Str), ("_arguments_in_fold_for_elapsed_sums" : PySem.Str), ("holds_over_gaps" : PySem.Str), ("holds_over_folds" : PySem.Str), ("TimeError" : PySem.Str), ("BadZone" : PySem.Str), ("BadInstant" : PySem.Str), ("BadReading" : PySem.Str), ("BadLibrary" : PySem.Str), ("BadTime" : PySem.Str), ("BadDuration" : PySem.Str), ("BadRule" : PySem.Str), ("BadArguments" : PySem.Str), ("BadKind" : PySem.Str), ("BadRules" : PySem.Str), ("NotText" : PySem.Str), ("InvalidText" : PySem.Str), ("offset_in_force" : PySem.Str), ("instants_with" : PySem.Str), ("offset_before_gap" : PySem.Str), ("REFUSED" : PySem.Str), ("PASSES_IN_GAP" : PySem.Str), ("PASSES_IN_FOLD" : PySem.Str), ("passes_at" : PySem.Str), ("instant_of_time" : PySem.Str), ("time_at" : PySem.Str), ("time_read" : PySem.Str), ("MOST_INSTANT" : PySem.Str), ("MOST_READING" : PySem.Str), ("MOST_DURATION" : PySem.Str), ("is_between" : PySem.Str), ("is_tuple_of" : PySem.Str), ("is_instant" : PySem.Str), ("is_reading" : PySem.Str), ("is_duration" : PySem.Str), ("MOST_FIRST_OFFSET" : PySem.Str), ("MOST_LATER_OFFSET" : PySem.Str), ("MOST_CHANGES" : PySem.Str), ("MOST_CHANGE_INSTANT" : PySem.Str), ("LEAST_DISTANCE" : PySem.Str), ("MOST_STEP" : PySem.Str), ("is_zone" : PySem.Str), ("_are_changes_after" : PySem.Str), ("_is_change_after" : PySem.Str), ("check_zone" : PySem.Str), ("check_instant" : PySem.Str), ("check_reading" : PySem.Str), ("offset_at" : PySem.Str), ("kind_of" : PySem.Str), ("instants_of" : PySem.Str), ("SUMS" : PySem.Str), ("ORDERS" : PySem.Str), ("GAPS" : PySem.Str), ("FOLDS" : PySem.Str), ("is_library" : PySem.Str), ("all_libraries" : PySem.Str), ("check_library" : PySem.Str), ("is_time" : PySem.Str), ("check_time" : PySem.Str), ("to_instant" : PySem.Str), ("from_instant" : PySem.Str), ("read" : PySem.Str), ("place_of" : PySem.Str), ("time_after" : PySem.Str), ("hours_between" : PySem.Str), ("order_of" : PySem.Str), ("HOURS_OF_A_DAY" : PySem.Str), ("_from_universal_and_back" : PySem.Str), ("_to_universal_and_back" : PySem.Str), ("_every_reading" : PySem.Str), ("_some_reading" : PySem.Str), ("_there_and_back" : PySem.Str), ("_sum_of_durations" : PySem.Str), ("_elapsed_time" : PySem.Str), ("_same_clock" : PySem.Str), ("_later" : PySem.Str), ("_sums_told" : PySem.Str), ("_difference_recovers" : PySem.Str), ("_order_by_difference" : PySem.Str), ("_have_one_instant" : PySem.Str), ("_equal_means_one_instant" : PySem.Str), ("_one_instant_means_equal" : PySem.Str), ("_one_instant_one_time" : PySem.Str), ("_order_of_instants" : PySem.Str), ("_order_kept" : PySem.Str), ("_equal_sums" : PySem.Str), ("_are_sums_in_order" : PySem.Str), ("STATEMENTS" : PySem.Str), ("is_true_of" : PySem.Str), ("MOST_DURATION_OF_RULES" : PySem.Str), ("SHAPES" : PySem.Str), ("rules" : PySem.Str), ("is_rule" : PySem.Str), ("check_rule" : PySem.Str), ("holds_for" : PySem.Str), ("_are_arguments" : PySem.Str), ("_is_argument" : PySem.Str), ("KINDS" : PySem.Str), ("check_kind" : PySem.Str), ("holds" : PySem.Str), ("counterexample" : PySem.Str), ("check_rules" : PySem.Str), ("profile" : PySem.Str), ("implies" : PySem.Str), ("parting" : PySem.Str), ("libraries_with" : PySem.Str), ("_keeps_all" : PySem.Str), ("most_rules" : PySem.Str), ("check_duration" : PySem.Str), ("add" : PySem.Str), ("subtract" : PySem.Str), ("compare" : PySem.Str), ("DIGITS" : PySem.Str), ("MOST_DIGITS" : PySem.Str), ("integer_of" : PySem.Str), ("check_text" : PySem.Str), ("read_zone" : PySem.Str), ("_change_of" : PySem.Str), ("_law_taken" : PySem.Str)]
theorem run0 (w : World) : HandSHeadRun.RunEq R (PySem.W.view R.prog [142]) hk ob 12000 loose (w.withFollow "special-get-raises" false) := by
  intro os
  kernel_rfl
theorem run1 (w : World) : HandSHeadRun.RunEq R (PySem.W.view R.prog [142]) hk ob 12000 loose (w.withFollow "special-get-raises" true) := by
  intro os
  kernel_rfl
theorem run (w : World) : HandSHeadRun.RunEq R (PySem.W.view R.prog [142]) hk ob 12000 loose w := PySem.W.byRow2 "special-get-raises" (P := fun w => HandSHeadRun.RunEq R (PySem.W.view R.prog [142]) hk ob 12000 loose w) run0 run1 w

section
open PpSet
/-- one turn's element joins the set at D -/
def Join (w : World) (D : Addr) (Nx : Hp → Prop) : VK := fun y G =>
  ∃ (k : Int) (S : Int → Bool) (c : Nat), y = .int k ∧ G D = some (SetO w D S c) ∧ c + 1 < scanBound ∧
    Nx (upd G D (SetO w D (fun j => S j || decide (j = k)) (if S k = true then c else c + 1)))
/-- one turn of the block -/
def TurnSc (w : World) (g : TG) (tt : TT) (te : TE) (vs : List Nat) (σ : L2.St) (D : Addr) (Nx : Hp → Prop) : V → Hp → Prop := fun x G =>
  g x (wipe σ vs) G fun σ2 G2 => wipe σ2 vs = wipe σ vs ∧
    tt σ2 G2 fun b G3 => if b = true then te σ2 G3 (Join w D Nx) else Nx G3
def LoopSc (w : World) (g : TG) (tt : TT) (te : TE) (vs : List Nat) (σ : L2.St) (D : Addr) (J : It) (H1 : Hp) (Qd : Hp → Prop) : Prop :=
  ∃ W : Nat → Nat → Hp → Prop, (∃ m, W 0 m (upd H1 D (SetO w D (fun _ => false) 0))) ∧
    ∀ i m G, W i m G → (J.stop i G ∧ Qd G) ∨
      (J.go i G ∧ ∃ Nx : Hp → Prop, (∀ G', Nx G' → ∃ m', m' < m ∧ W (i + 1) m' G') ∧
        ∀ x G', J.yld i G x G' → TurnSc w g tt te vs σ D Nx x G')
def tScI (w : World) (wi : TI) (g : TG) (tt : TT) (te : TE) (vs : List Nat) : TE := fun σ H Q =>
  wi σ H fun J H1 => ∀ D, H1 D = none → LoopSc w g tt te vs σ D J H1 (Q (.ref D))
section
variable {X : Cx}
theorem join_add {pins : List (Addr × Obj)} {σ : L2.St} {G : Hp} {s : Shared} {D : Addr} {Nx : Hp → Prop} {y : V} {z : Value} {Q : Value → Shared → Prop}
    (I : Inv X pins σ G s) (r : RelV y z) (j : Join X.w D Nx y G)
    (k : ∀ s' G', Inv X pins σ G' s' → Nx G' → ∀ v, Q v s') :
    wpAny (model X.prog X.w) X.A (call (.builtin "set.add") [.ref D, z]) Q X.xe s := by
  obtain ⟨i, S, c, rfl, hD, hc, nx⟩ := j
  refine thn (mt_sadd pins s σ G (.ref D) [.int i] (.ref D) [z] (fun _ G' => Nx G') I rfl (.cons r .nil) ⟨D, i, S, c, rfl, rfl, hD, hc, nx⟩) ?_
  rintro v s' ⟨x, G', I', -, q⟩
  exact k s' G' I' q v
variable {elt tg iter : Expr} {ifs : List Expr} {scope : Scope} {own : List (PySem.Str × Nat)} {pos pos' : Pos} {wi : TI} {g : TG} {tt : TT} {te : TE}
theorem scI_core {pins : List (Addr × Obj)} {s : Shared} {σ : L2.St} {H : Hp} {Q : VK} {use : Option (Value → Sem Unit)} {Qf : Value → Shared → Prop}
    (hc : X.calm = true) (hN : X.N.Nodup) (I : Inv X pins σ H s)
    (hi : PI X tg iter wi) (ok : BlkOk X.N X.env.scope scope own)
    (hg : ∀ (s : Shared) (H : Hp) (C : Addr) (cl : List (PySem.Str × Addr)) (fp : List Addr),
      PG (X.blk s H scope (compEnvC scope cl C X.env) fp) tg g)
    (ht : ∀ (s : Shared) (H : Hp) (C : Addr) (cl : List (PySem.Str × Addr)) (fp : List Addr),
      PTs (X.blk s H scope (compEnvC scope cl C X.env) fp) ifs tt)
    (he : ∀ (s : Shared) (H : Hp) (C : Addr) (cl : List (PySem.Str × Addr)) (fp : List Addr),
      PE (X.blk s H scope (compEnvC scope cl C X.env) fp) elt te)
    (hs : ∀ x, foldedSetIterable iter X.env x = pure x)
    (h : tScI X.w wi g tt te (own.map (·.2)) σ H Q)
    (fin : ∀ D C s' m G, Inv X pins σ G s' → Q (.ref D) G → s'.heap.Ns C m → FpOk X pins G C →
      compPost (model X.prog X.w) X.A X.xe use Qf (.ref D) C (.ok .next) s') :
    wpAny (model X.prog X.w) X.A (comprehension (.SetComp elt [⟨tg, iter, ifs, 0⟩] scope pos) scope X.env pos'
      (newSet (.type "set")) false (eval iter X.env) use) Qf X.xe s := by
  have cellsOk : ∀ y ∈ scope.names, y.2 = .free → ∃ c, X.env.cells.lookup y.1 = some c := fun y hy e =>
    (ok.free y hy e).elim (fun k => I.ok.has _ (.inl k)) (fun k => I.ok.has _ (.inr k))
  refine wpAny_comprehension_free (use := use) rfl hs (closure_ok cellsOk) ok.kind (fun y hy e => by rw [ok.uniq y hy, e]) ?_
  refine thn (hi.run pins s σ H _ I h) fun xv s1 hx => thn hx ?_
  rintro itv s2 ⟨it, fp, tn, J, H2, rfl, I2, T, st2, f2, q⟩
  refine newSet_ok (newEnv_comp ?_)
  generalize hD : s2.heap.objs.size = D
  have free2 : H2 D = none := I2.hok.fresh (Nat.le_of_eq hD)
  obtain ⟨W, ⟨m0, w0⟩, turn⟩ := q D free2
  generalize hob : ({ cls := .type "set", dict := none, data := .set #[] 0 (.fresh 0 0 (!X.w.params.followText "set-order")) } : Obj) = ob
  generalize hE : SetO X.w D (fun _ => false) 0 = emp at w0
  have I3 : Inv X pins σ (upd H2 D emp) { s2 with heap := s2.heap.push ob } := by
    subst hob hE
    refine I2.laid (t' := s2.toks) (fun b o e => Heap.get?_push_of_some _ e) (Nat.le_of_eq hD) ?_
    subst hD
    exact setO_new (setR_fresh X.w)
  generalize hs3 : ({ s2 with heap := s2.heap.push ob } : Shared) = s3 at I3
  have h3 : s3.heap = s2.heap.push ob := by rw [← hs3]
  have older : ∀ b ∈ fp, b < s2.heap.objs.size := fun b hb =>
    have ⟨_, e, _⟩ := T.obj _ _ st2 b hb
    Heap.lt_size e
  have f3 : ∀ b ∈ fp, FpOk X pins (upd H2 D emp) b ∧ b < s3.heap.objs.size := by
    intro b hb
    have lt := older b hb
    have ne : b ≠ D := by rw [← hD]; exact Nat.ne_of_lt lt
    refine ⟨⟨(upd_ne ne).trans (f2 b hb).1, (f2 b hb).2⟩, ?_⟩
    rw [h3, Heap.size_push]
    exact Nat.lt_succ_of_lt lt
  have st3 : tn 0 s3.heap := T.keep _ _ _ st2 fun b _ o e => by
    rw [h3]
    exact Heap.get?_push_of_some _ e
  have I4 := block_start I3 ok hN f3
  have pg := hg s3 (upd H2 D emp) s3.heap.objs.size (cellsFrom (s3.heap.objs.size + 1) scope.names (cloFrom X.env.cells scope.names [])) fp
  have pt := ht s3 (upd H2 D emp) s3.heap.objs.size (cellsFrom (s3.heap.objs.size + 1) scope.names (cloFrom X.env.cells scope.names [])) fp
  have pe := he s3 (upd H2 D emp) s3.heap.objs.size (cellsFrom (s3.heap.objs.size + 1) scope.names (cloFrom X.env.cells scope.names [])) fp
  show codeAny _ _ (.compStart (.SetComp elt [⟨tg, iter, ifs, 0⟩] scope pos) 0 (.ref it) (.ref D)
      (compEnvC scope (cellsFrom (s3.heap.objs.size + 1) scope.names (cloFrom X.env.cells scope.names [])) s3.heap.objs.size X.env))
    (compPost (model X.prog X.w) X.A X.xe use Qf (.ref D) s3.heap.objs.size)
    { s3 with heap := pushCells (s3.heap.push { cls := .type "dict", data := .dict #[] }) scope.names }
  have out3 : ∀ b ∈ fp, (upd H2 D emp) b = none := fun b hb => (f3 b hb).1.1
  generalize hce : compEnvC scope (cellsFrom (s3.heap.objs.size + 1) scope.names (cloFrom X.env.cells scope.names [])) s3.heap.objs.size X.env = ce at I4 pg pt pe ⊢
  have locC : ce.locals = s3.heap.objs.size := by subst hce; rfl
  generalize hH3 : upd H2 D emp = H3 at I3 I4 pg pt pe w0 out3 f3
  generalize hs4 : ({ s3 with heap := pushCells (s3.heap.push { cls := .type "dict", data := .dict #[] }) scope.names } : Shared) = s4 at I4 ⊢
  have st4 : tn 0 s4.heap := T.keep _ _ _ st3 fun b _ o e => by
    rw [← hs4]
    exact pushCells_keeps _ _ _ _ (Heap.get?_push_of_some _ e)
  have itOk : ∀ {σ' : L2.St} {G : Hp} {s' : Shared}, Inv (X.blk s3 H3 scope ce fp) [] σ' G s' → (∀ b ∈ fp, G b = none) →
      ∀ b ∈ fp, FpOk (X.blk s3 H3 scope ce fp) [] G b := fun {σ' G s'} I' out b hb =>
    ⟨out b hb, (I'.ok.exf b hb).1, I'.ok.exfs b hb, .inl hb, fun x c e => (I'.ok.exf b hb).2 x c e, fun p hp => nomatch (show p ∈ ([] : List (Addr × Obj)) from hp)⟩
  have loop : codeAny (model X.prog X.w) X.A (.compLoop (.SetComp elt [⟨tg, iter, ifs, 0⟩] scope pos) 0 (.ref it) (.ref D) ce)
      (compPost (model X.prog X.w) X.A X.xe use Qf (.ref D) s3.heap.objs.size) s4 := by
    refine compLoopS_any (fun n s' => ∃ i G, Inv (X.blk s3 H3 scope ce fp) [] (wipe σ (own.map (·.2))) G s' ∧
      tn i s'.heap ∧ (∀ b ∈ fp, G b = none) ∧ W i n G) ?_ m0 ⟨0, H3, I4, st4, out3, w0⟩
    rintro n s5 ⟨i, G5, I5, st5, out5, w5⟩
    obtain ⟨stop, qq⟩ | ⟨go, Nx, hNx, step⟩ := turn i n G5 w5
    · have td := T.done (X.blk s3 H3 scope ce fp) rfl rfl rfl hc i [] s5 _ G5 (fun _ _ => False) I5 (itOk I5 out5) st5 stop
      refine thnF td ?_
      rintro r s6 ⟨rfl, I6⟩
      have I7 : Inv X pins σ G5 s6 := I3.call' (ch := fp) I6.os I6.base I6.hok I6.bare fun b hb =>
        have z := (f3 b hb).1
        ⟨z.2.2.2.1, z.2.1, z.2.2.2.2.1, z.2.2.2.2.2⟩
      have out : G5 s3.heap.objs.size = none := locC ▸ I6.free
      obtain ⟨m, hn, -⟩ := I6.loc
      have hn2 : s6.heap.Ns s3.heap.objs.size m := locC ▸ hn
      exact fin D s3.heap.objs.size s6 m G5 I7 qq hn2 (I3.fpOk (Nat.le_refl _) out)
    · have ti := T.item (X.blk s3 H3 scope ce fp) rfl rfl rfl hc i [] s5 _ G5 (fun _ _ => False) I5 (itOk I5 out5) st5 go
      refine thnF ti ?_
      rintro r s6 ⟨u, rfl, h6⟩
      refine thnF h6 ?_
      rintro _ s7 ⟨x, G7, I7, r7, y7, st7, out7⟩
      have I7' := I7.pinned (itOk I7 out7) (T.obj _ _ st7)
      refine thnF (pg.run _ s7 _ G7 x u _ I7' r7 (step x G7 y7)) ?_
      rintro _ s8 ⟨σ8, G8, I8, hw8, q8⟩
      refine thnF (pt.run _ s8 σ8 G8 _ I8 q8) ?_
      rintro b s9 ⟨G9, I9, q9⟩
      have again : ∀ {s' : Shared} {G : Hp}, Inv (X.blk s3 H3 scope ce fp) ([] ++ pinsAt fp s7.heap) σ8 G s' → Nx G →
          ∃ m, m < n ∧ ∃ i G, Inv (X.blk s3 H3 scope ce fp) [] (wipe σ (own.map (·.2))) G s' ∧ tn i s'.heap ∧ (∀ b ∈ fp, G b = none) ∧ W i m G := by
        intro s' G I' nx
        obtain ⟨m', lt, w'⟩ := hNx G nx
        have pinned : ∀ b ∈ fp, ∀ o, s7.heap.get? b = some o → s'.heap.get? b = some o ∧ G b = none := fun b hb o e =>
          have z := I'.pin (b, o) (List.mem_append_right _ (List.mem_append_right _ (mem_pinsAt hb e)))
          ⟨z.1, z.2.1⟩
        have hl : (wipe σ (own.map (·.2))).length = σ8.length := by rw [← hw8, wipe_length]
        refine ⟨m', lt, i + 1, G, (I'.unpinned (pins := [])).weak hl ?_, T.keep _ _ _ st7 fun b hb o e => (pinned b hb o e).1, ?_, w'⟩
        · intro j v e
          rw [← hw8] at e
          exact (wipe_some e).1
        · intro b hb
          obtain ⟨o, e, -⟩ := T.obj _ _ st7 b hb
          exact (pinned b hb o e).2
      cases b with
      | false =>
        rw [if_neg (by decide)] at q9 ⊢
        exact again I9 q9
      | true =>
        rw [if_pos rfl] at q9 ⊢
        refine thnF (pe.run _ s9 σ8 G9 _ I9 q9) ?_
        rintro z s10 ⟨yv, G10, I10, r10, jn⟩
        exact thnF (join_add (X := X.blk s3 H3 scope ce fp) (Q := fun _ s' => ∃ G', Inv (X.blk s3 H3 scope ce fp) ([] ++ pinsAt fp s7.heap) σ8 G' s' ∧ Nx G') I10 r10 jn fun s' G' I' nx _ => ⟨G', I', nx⟩)
          fun _ s' ⟨G', I', nx⟩ => again I' nx
  exact codeAny_compStart_set loop (T.self X.A 0 _ _ _ st4 loop)
theorem pe_scI (hc : X.calm = true) (hN : X.N.Nodup) (hi : PI X tg iter wi) (ok : BlkOk X.N X.env.scope scope own)
    (hg : ∀ (s : Shared) (H : Hp) (C : Addr) (cl : List (PySem.Str × Addr)) (fp : List Addr),
      PG (X.blk s H scope (compEnvC scope cl C X.env) fp) tg g)
    (ht : ∀ (s : Shared) (H : Hp) (C : Addr) (cl : List (PySem.Str × Addr)) (fp : List Addr),
      PTs (X.blk s H scope (compEnvC scope cl C X.env) fp) ifs tt)
    (he : ∀ (s : Shared) (H : Hp) (C : Addr) (cl : List (PySem.Str × Addr)) (fp : List Addr),
      PE (X.blk s H scope (compEnvC scope cl C X.env) fp) elt te)
    (hs : ∀ x, foldedSetIterable iter X.env x = pure x := by intro _; rfl) :
    PE X (.SetComp elt [⟨tg, iter, ifs, 0⟩] scope pos) (tScI X.w wi g tt te (own.map (·.2))) := by
  refine ⟨fun pins s σ H Q I h => ?_⟩
  rw [eval_SetComp]
  refine scI_core hc hN I hi ok hg ht he hs h ?_
  intro D C s' m G I' q hn f
  refine ⟨m, hn, fun h'' sb => ?_⟩
  obtain ⟨f0, f1, f2, f3, f4, f5⟩ := f
  exact ⟨.ref D, G, I'.turned (t' := s'.toks) (fun b o hb e => (sb.2 b hb).trans e) f0 f1 f3 f4 f5, rfl, q⟩
end
end
abbrev Ex := Evl.Ex
abbrev St := L2.St
/-! ### a def of the text: where it stands -/
structure FA (K : PySem.W.Frag) (mg : Str → Option Value) (x : Str) (st : Stmt) (ps : List Str) where
  f : Addr
  fd : FuncData
  F : FunD K x x (defArgs st) (defBody st) (defScope st) [] [] f fd
  b : Binds K fd ps []
  g : mg x = some (.ref f)
theorem pd_get {α β : Type} {F : α → β → Prop} : ∀ {xs : List α} {ys : List β} {i : Nat} {x : α}, Paired F xs ys → xs[i]? = some x → ∃ y, ys[i]? = some y ∧ F x y
  | _, _, _, _, .nil, e => by simp at e
  | _, _, 0, x, .cons (b := b) r _, e => by
    have e2 : _ = x := Option.some.inj e
    subst e2
    exact ⟨b, rfl, r⟩
  | _, _, i + 1, x, .cons _ t, e => pd_get (i := i) t e
theorem pd_app {α β : Type} {F : α → β → Prop} : ∀ {xs xs' : List α} {ys ys' : List β}, Paired F xs ys → Paired F xs' ys' → Paired F (xs ++ xs') (ys ++ ys')
  | _, _, _, _, .nil, h => h
  | _, _, _, _, .cons r t, h => .cons r (pd_app t h)
/-! ### what is kept -/
/-- tuples stand as they stood -/
def TrT (K : PySem.W.Frag) (H H' : Hp) : Prop := ∀ a xs, SqT K H a xs → SqT K H' a xs
def TrL (K : PySem.W.Frag) (H H' : Hp) : Prop := ∀ a xs, SqL K H a xs → SqL K H' a xs
/-- all but the object at r -/
def Fr (r : Addr) (H H' : Hp) : Prop := ∀ a o, a ≠ r → H a = some o → H' a = some o
section
variable {K : PySem.W.Frag} {H H' H1 H2 : Hp} {r : Addr}
theorem Fr.refl : Fr r H H := fun _ _ _ h => h
theorem Fr.trans (a : Fr r H H1) (b : Fr r H1 H2) : Fr r H H2 := fun x o n h => b x o n (a x o n h)
theorem Fr.of (e : Ex H H') : Fr r H H' := fun a o _ h => e a o h
theorem TrT.of (e : Ex H H') : TrT K H H' := fun _ _ h => Evl.ex_t e h
theorem TrL.of (e : Ex H H') : TrL K H H' := fun _ _ h => Evl.ex_l e h
theorem TrT.refl : TrT K H H := fun _ _ h => h
theorem TrT.trans (a : TrT K H H1) (b : TrT K H1 H2) : TrT K H H2 := fun x xs h => b x xs (a x xs h)
theorem TrT.fr {xs : List V} (hr : H r = some (.lst xs)) (e : Fr r H H') : TrT K H H' := by
  intro a ys h
  have ne : ∀ o, H a = some o → (∀ zs, o ≠ .lst zs) → a ≠ r := fun o q n z => by
    subst z
    rw [hr] at q
    exact n xs (Option.some.inj q).symm
  rcases h with (h | ⟨o, h⟩) | h
  · exact .inl (.inl (e a _ (ne _ h fun _ z => nomatch z) h))
  · exact .inl (.inr ⟨o, e a _ (ne _ h fun _ z => nomatch z) h⟩)
  · exact .inr h
theorem TrT.upd {xs ys : List V} (hr : H r = some (.lst xs)) : TrT K H (upd H r (.lst ys)) :=
  TrT.fr hr fun a o n h => by rw [upd_ne n]; exact h
theorem TrT.newl {o : HO} (hr : H r = none) : TrT K H (L2.upd H r o) := TrT.of (Evl.Ex.new hr)
theorem Fr.upd {o : HO} : Fr r H (L2.upd H r o) := fun a u n h => by rw [upd_ne n]; exact h
/-- an object that the first heap does not have may change -/
theorem Fr.mut {q : Addr} {o : HO} (e : Fr r H H') (h : H q = none) : Fr r H (L2.upd H' q o) := fun a u n ha => by
  rw [upd_ne (ne_of_none ha h)]
  exact e a u n ha
end
/-! ### data: pairs, changes, zones -/
def PV (K : PySem.W.Frag) (H : Hp) (v : V) (p : Int × Int) : Prop := ∃ a, v = .ref a ∧ SqT K H a [.int p.1, .int p.2]
abbrev PVs (K : PySem.W.Frag) (H : Hp) : List V → List (Int × Int) → Prop := Paired (PV K H)
def CsV (K : PySem.W.Frag) (H : Hp) (v : V) (cs : List (Int × Int)) : Prop := ∃ a xs, v = .ref a ∧ SqT K H a xs ∧ PVs K H xs cs
abbrev Zone := Int × List (Int × Int)
def ZV (K : PySem.W.Frag) (H : Hp) (v : V) (z : Zone) : Prop := ∃ a c, v = .ref a ∧ SqT K H a [.int z.1, c] ∧ CsV K H c z.2
section
variable {K : PySem.W.Frag} {H H' : Hp} {v : V}
theorem PV.tr {p : Int × Int} (e : TrT K H H') (h : PV K H v p) : PV K H' v p := by
  obtain ⟨a, q, h⟩ := h
  exact ⟨a, q, e _ _ h⟩
theorem PVs.tr {vs : List V} {ps : List (Int × Int)} (e : TrT K H H') (h : PVs K H vs ps) : PVs K H' vs ps :=
  L2.Paired.mapP h fun _ _ q => q.tr e
theorem CsV.tr {cs : List (Int × Int)} (e : TrT K H H') (h : CsV K H v cs) : CsV K H' v cs := by
  obtain ⟨a, xs, q, h, k⟩ := h
  exact ⟨a, xs, q, e _ _ h, k.tr e⟩
theorem ZV.tr {z : Zone} (e : TrT K H H') (h : ZV K H v z) : ZV K H' v z := by
  obtain ⟨a, c, q, h, k⟩ := h
  exact ⟨a, c, q, e _ _ h, k.tr e⟩
theorem PVs.len {vs : List V} {ps : List (Int × Int)} (h : PVs K H vs ps) : vs.length = ps.length := Paired.length h
end
/-! ### readings, step by step -/
section
variable {σ : L2.St} {H : Hp} {n : St → Hp → Prop} {r : VK} {b c : St → Hp → Prop} {Q : VK}
theorem g_seq {t u : TS} (h : t (Ends.mk (u (Ends.mk n r b c)) r b c) σ H) : tSeq t u (Ends.mk n r b c) σ H := h
theorem g_next (h : n σ H) : tNext (Ends.mk n r b c) σ H := h
theorem g_brk (h : b σ H) : tBreak (Ends.mk n r b c) σ H := h
theorem g_cont (h : c σ H) : tCont (Ends.mk n r b c) σ H := h
theorem g_asg {te : TE} {g : TG} (h : te σ H fun x H1 => g x σ H1 n) : tAsg te g (Ends.mk n r b c) σ H := h
theorem g_ret {te : TE} (h : te σ H r) : tRet te (Ends.mk n r b c) σ H := h
theorem g_retN (h : r .non H) : tRetN (Ends.mk n r b c) σ H := h
theorem g_drop {te : TE} (h : te σ H fun _ H1 => n σ H1) : tDrop te (Ends.mk n r b c) σ H := h
theorem g_ifS {tc : TT} {t u : TS} (h : tc σ H fun k H1 => if k = true then t (Ends.mk n r b c) σ H1 else u (Ends.mk n r b c) σ H1) : tIfS tc t u (Ends.mk n r b c) σ H := h
theorem g_par {i j : Nat} {ta : TA} (h : ta σ H fun vs H1 => ∃ v w, vs = [v, w] ∧ n ((σ.set i (some v)).set j (some w)) H1) : tPar i j ta (Ends.mk n r b c) σ H := h
theorem g_par_ {v w : V} {N : V → V → Prop} (h : N v w) : ∃ v' w', [v, w] = [v', w'] ∧ N v' w' := ⟨v, w, rfl, h⟩
theorem g_var {i : Nat} {v : V} (e : σ[i]? = some (some v)) (h : Q v H) : tVar i σ H Q := ⟨v, e, h⟩
theorem g_c {v : V} (h : Q v H) : tC v σ H Q := h
theorem g_op {rr : R2} {ta tb : TE} (h : ta σ H fun x H1 => tb σ H1 fun y H2 => rr x y H2 Q) : tOp rr ta tb σ H Q := h
theorem g_un {rr : V → Hp → VK → Prop} {ta : TE} (h : ta σ H fun x H1 => rr x H1 Q) : tUn rr ta σ H Q := h
theorem g_I0 {g : Int → Int → V} {i j : Int} (h : Q (g i j) H) : rI0 g (.int i) (.int j) H Q := ⟨i, j, rfl, rfl, h⟩
theorem g_I {C : Int → Int → Prop} {g : Int → Int → V} {i j : Int} (k : C i j) (h : Q (g i j) H) : rI C g (.int i) (.int j) H Q := ⟨i, j, rfl, rfl, k, h⟩
theorem g_U {g : Int → V} {i : Int} (h : Q (g i) H) : rU g (.int i) H Q := ⟨i, rfl, h⟩
theorem dec_int {i j : Int} : decide (V.int i = V.int j) = decide (i = j) := decide_eq_decide.mpr ⟨fun e => V.int.inj e, fun e => by rw [e]⟩
theorem dec_str {i j : Str} : decide (V.str i = V.str j) = decide (i = j) := decide_eq_decide.mpr ⟨fun e => V.str.inj e, fun e => by rw [e]⟩
theorem dec_bl {i j : Bool} : decide (V.bl i = V.bl j) = (i == j) := by cases i <;> cases j <;> rfl
theorem g_eqI {i j : Int} (h : Q (.bl (decide (i = j))) H) : rEq (.int i) (.int j) H Q := ⟨rfl, by rw [dec_int]; exact h⟩
theorem g_neI {i j : Int} (h : Q (.bl (!decide (i = j))) H) : rNe (.int i) (.int j) H Q := ⟨rfl, by rw [dec_int]; exact h⟩
theorem g_eqS {i j : Str} (h : Q (.bl (decide (i = j))) H) : rEq (.str i) (.str j) H Q := ⟨rfl, by rw [dec_str]; exact h⟩
theorem g_neS {i j : Str} (h : Q (.bl (!decide (i = j))) H) : rNe (.str i) (.str j) H Q := ⟨rfl, by rw [dec_str]; exact h⟩
theorem g_eqB {i j : Bool} (h : Q (.bl (i == j)) H) : rEq (.bl i) (.bl j) H Q := ⟨rfl, by rw [dec_bl]; exact h⟩
theorem g_neB {i j : Bool} (h : Q (.bl (!(i == j))) H) : rNe (.bl i) (.bl j) H Q := ⟨rfl, by rw [dec_bl]; exact h⟩
theorem g_test {t : TE} {R : Bool → Hp → Prop} (h : t σ H fun x H' => ∃ k, x = .bl k ∧ R k H') : tTest t σ H R := h
theorem g_B {t : TE} {R : Bool → Hp → Prop} (h : t σ H fun x H' => ∃ k, x = .bl k ∧ R k H') : tB t σ H R := h
theorem g_bl {k : Bool} {R : Bool → Prop} (h : R k) : ∃ k', V.bl k = V.bl k' ∧ R k' := ⟨k, rfl, h⟩
theorem g_not {t : TT} {R : Bool → Hp → Prop} (h : t σ H fun k H1 => R (!k) H1) : tNot t σ H R := h
theorem g_and {t u : TT} {R : Bool → Hp → Prop} (h : t σ H fun k H1 => if k = true then u σ H1 R else R false H1) : tAnd t u σ H R := h
theorem g_or {t u : TT} {R : Bool → Hp → Prop} (h : t σ H fun k H1 => if k = true then R true H1 else u σ H1 R) : tOr t u σ H R := h
theorem g_andV {ta tb : TE} (h : ta σ H fun x H1 => ∃ k, x = .bl k ∧ if k = true then tb σ H1 Q else Q (.bl false) H1) : tAndV ta tb σ H Q := h
theorem g_orV {ta tb : TE} (h : ta σ H fun x H1 => ∃ k, x = .bl k ∧ if k = true then Q (.bl true) H1 else tb σ H1 Q) : tOrV ta tb σ H Q := h
theorem g_notV {ta : TE} (h : ta σ H fun x H1 => ∃ k, x = .bl k ∧ Q (.bl (!k)) H1) : tNotV ta σ H Q := h
theorem g_yes {R : Bool → Hp → Prop} (h : R true H) : tYes σ H R := h
theorem if_tt {A B : Prop} (h : A) : if true = true then A else B := h
theorem if_ff {A B : Prop} (h : B) : if false = true then A else B := h
theorem if_nt {A B : Prop} (h : B) : if (!true) = true then A else B := h
theorem if_nf {A B : Prop} (h : A) : if (!false) = true then A else B := h
theorem g_asg2 {te : TE} {g1 g2 : TG} (h : te σ H fun x H1 => g1 x σ H1 fun σ1 H2 => g2 x σ1 H2 n) : tAsg2 te g1 g2 (Ends.mk n r b c) σ H := h
theorem g_par3 {i j l : Nat} {ta : TA} (h : ta σ H fun vs H1 => ∃ u v w, vs = [u, v, w] ∧ n (((σ.set i (some u)).set j (some v)).set l (some w)) H1) : tPar3 i j l ta (Ends.mk n r b c) σ H := h
theorem g_par3_ {u v w : V} {N : V → V → V → Prop} (h : N u v w) : ∃ u' v' w', [u, v, w] = [u', v', w'] ∧ N u' v' w' := ⟨u, v, w, rfl, h⟩
theorem g_chain {rr rr' : R2} {ta tb tc : TE} (h : ta σ H fun x H1 => tb σ H1 fun y H2 => rr x y H2 fun z H3 => ∃ k, z = .bl k ∧ (if k = true then tc σ H3 fun v H4 => rr' y v H4 Q else Q (.bl false) H3)) : tChain rr rr' ta tb tc σ H Q := h
theorem g_if {t : TT} {ta tb : TE} (h : t σ H fun k H1 => if k = true then ta σ H1 Q else tb σ H1 Q) : tIf t ta tb σ H Q := h
theorem g_nil {R : List V → Hp → Prop} (h : R [] H) : tNil σ H R := h
theorem g_cons {ta : TE} {tr : TA} {R : List V → Hp → Prop} (h : ta σ H fun x H1 => tr σ H1 fun xs H2 => R (x :: xs) H2) : tCons ta tr σ H R := h
def NewT (xs : List V) (H : Hp) (Q : VK) : Prop := xs.length ≤ sizeLine ∧ ∀ p, H p = none → Q (.ref p) (upd H p (.tup xs))
def NewL (xs : List V) (H : Hp) (Q : VK) : Prop := xs.length ≤ sizeLine ∧ ∀ p, H p = none → Q (.ref p) (upd H p (.lst xs))
theorem g_tup {ta : TA} (h : ta σ H fun xs H1 => NewT xs H1 Q) : tTup ta σ H Q := h
theorem g_lst {ta : TA} (h : ta σ H fun xs H1 => NewL xs H1 Q) : tLst ta σ H Q := h
theorem g_newT {xs : List V} (l : xs.length ≤ 100000) (h : ∀ p H', H p = none → Ex H H' → H' p = some (.tup xs) → Q (.ref p) H') :
    NewT xs H Q := ⟨Nat.le_trans l (by decide), fun p hp => h p _ hp (Evl.Ex.new hp) upd_same⟩
theorem g_newL {xs : List V} (l : xs.length ≤ 100000) (h : ∀ p H', H p = none → Ex H H' → H' p = some (.lst xs) → Q (.ref p) H') :
    NewL xs H Q := ⟨Nat.le_trans l (by decide), fun p hp => h p _ hp (Evl.Ex.new hp) upd_same⟩
theorem g_CB {rr : List V → Hp → VK → Prop} {t : TA} (h : t σ H fun vs H1 => rr vs H1 Q) : tCB rr t σ H Q := h
theorem g_call {sp : Sp} {E : XK} {t : TA} (h : t σ H fun vs H1 => sp vs H1 Q E) : tCall sp [] E t σ H Q := by
  show t σ H fun vs H1 => sp (vs ++ []) H1 Q E
  have e : (fun vs H1 => sp (vs ++ []) H1 Q E) = fun vs H1 => sp vs H1 Q E := by
    funext vs H1
    rw [List.append_nil]
  rw [e]
  exact h
theorem g_name {i : Nat} {v : V} (h : n (σ.set i (some v)) H) : gName i v σ H n := h
theorem g_gtup {K : PySem.W.Frag} {a : Addr} {xs : List V} {k : Nat} {t : TGs} (q : SqT K H a xs) (l : xs.length = k) (h : t xs σ H n) : gTup K k t (.ref a) σ H n := ⟨a, xs, rfl, q, l, h⟩
theorem g_gnil (h : n σ H) : gNil [] σ H n := ⟨rfl, h⟩
theorem g_gcons {t : TG} {u : TGs} {v : V} {rest : List V} (h : t v σ H fun σ' H' => u rest σ' H' n) : gCons t u (v :: rest) σ H n := ⟨v, rest, rfl, h⟩
theorem g_for {wi : TI} {g : TG} {tb : TS} (h : wi σ H fun J H1 => ∃ W : Nat → Nat → St → Hp → Prop, (∃ m, W 0 m σ H1) ∧ ∀ i m σ H, W i m σ H →
    (J.stop i H ∧ n σ H) ∨ (J.go i H ∧ ∃ N : St → Hp → Prop, (∀ σ' H', N σ' H' → ∃ m', m' < m ∧ W (i + 1) m' σ' H') ∧ ∀ x H', J.yld i H x H' → g x σ H' fun σ2 H2 => tb (Ends.mk N r n N) σ2 H2)) :
    tFor wi g tb (Ends.mk n r b c) σ H := h
theorem g_iTup {K : PySem.W.Frag} {tl : TE} {R : It → Hp → Prop} (h : tl σ H fun x H1 => ∃ a, x = .ref a ∧ (∃ xs, SqT K H1 a xs) ∧ R (Itt K a) H1) : iTup K tl σ H R := h
theorem g_iList {K : PySem.W.Frag} {tl : TE} {R : It → Hp → Prop} (h : tl σ H fun x H1 => ∃ a, x = .ref a ∧ (∃ xs, SqL K H1 a xs) ∧ R (Itl K a) H1) : iList K tl σ H R := h
theorem g_rng1 {ta : TA} {R : It → Hp → Prop} (h : ta σ H fun vs H1 => ∃ j : Int, vs = [.int j] ∧ -(2 ^ 62) ≤ j ∧ j < 2 ^ 62 ∧ R (Itr 0 j.toNat) H1) : iRng1 ta σ H R := h
theorem g_rng2 {ta : TA} {R : It → Hp → Prop} (h : ta σ H fun vs H1 => ∃ i j : Int, vs = [.int i, .int j] ∧ (-(2 ^ 62) ≤ i ∧ i < 2 ^ 62 ∧ -(2 ^ 62) ≤ j ∧ j < 2 ^ 62) ∧ R (Itr i (j - i).toNat) H1) : iRng2 ta σ H R := h
theorem g_ixT {K : PySem.W.Frag} {p : Addr} {xs : List V} {i : Int} {v : V} (q : SqT K H p xs) (e : atI xs i = some v) (h : Q v H) : rIxT K (.ref p) (.int i) H Q := ⟨p, xs, i, v, rfl, rfl, q, e, h⟩
theorem g_ixL {K : PySem.W.Frag} {p : Addr} {xs : List V} {i : Int} {v : V} (q : SqL K H p xs) (e : atI xs i = some v) (h : Q v H) : rIxL K (.ref p) (.int i) H Q := ⟨p, xs, i, v, rfl, rfl, q, e, h⟩
theorem if_t {A B : Prop} {k : Bool} (e : k = true) (h : A) : if k = true then A else B := by rw [if_pos e]; exact h
theorem if_f {A B : Prop} {k : Bool} (e : k = false) (h : B) : if k = true then A else B := by rw [if_neg (by rw [e]; decide)]; exact h
theorem if_b {A B : Prop} {k : Bool} (h1 : k = true → A) (h2 : k = false → B) : if k = true then A else B := by
  cases k with
  | true => exact if_t rfl (h1 rfl)
  | false => exact if_f rfl (h2 rfl)
end
/-! ### calls of built-ins, named -/
def r_int : List V → Hp → VK → Prop := fun xs H Q => (∃ i, xs = [.int i] ∧ Q (.int i) H) ∨ ∃ k, xs = [.bl k] ∧ Q (.int (if k then 1 else 0)) H
def r_abs : List V → Hp → VK → Prop := fun xs H Q => ∃ i, xs = [.int i] ∧ Q (.int (if i < 0 then -i else i)) H
def r_tupleOf (K : PySem.W.Frag) : List V → Hp → VK → Prop := fun xs H Q => ∃ p ys, xs = [.ref p] ∧
  ((SqL K H p ys ∧ ∀ l, H l = none → Q (.ref l) (upd H l (.tup ys))) ∨ (SqT K H p ys ∧ Q (.ref p) H))
def r_isN : R2 := fun x y H Q => y = .non ∧ Q (.bl (decide (x = .non))) H
def r_notN : R2 := fun x y H Q => y = .non ∧ Q (.bl (!decide (x = .non))) H
section
variable {K : PySem.W.Frag} {w : World} {H : Hp} {Q : VK} {a : Addr} {xs ys : List V}
theorem g_tupleOfL (q : SqL K H a xs) (h : ∀ p H', H p = none → Ex H H' → H' p = some (.tup xs) → Q (.ref p) H') : r_tupleOf K [.ref a] H Q :=
  ⟨a, xs, rfl, .inl ⟨q, fun p hp => h p _ hp (Evl.Ex.new hp) upd_same⟩⟩
theorem g_listOfT (q : SqT K H a xs) (h : ∀ p H', H p = none → Ex H H' → H' p = some (.lst xs) → Q (.ref p) H') : Evl.rListS K [.ref a] H Q :=
  ⟨a, xs, rfl, .inr q, fun p hp => h p _ hp (Evl.Ex.new hp) upd_same⟩
theorem g_lenL (q : SqL K H a xs) (h : Q (.int (xs.length : Int)) H) : Evl.rLenS K [.ref a] H Q := ⟨a, xs, rfl, .inl q, h⟩
theorem g_lenT (q : SqT K H a xs) (h : Q (.int (xs.length : Int)) H) : Evl.rLenS K [.ref a] H Q := ⟨a, xs, rfl, .inr q, h⟩
theorem g_cat {b : Addr} (q : H a = some (.lst xs)) (q' : H b = some (.lst ys)) (l : xs.length + ys.length ≤ 100000) (h : ∀ p H', H p = none → Ex H H' → H' p = some (.lst (xs ++ ys)) → Q (.ref p) H') : rCat (.ref a) (.ref b) H Q :=
  ⟨a, b, xs, ys, rfl, rfl, q, q', Nat.le_trans l (by decide), fun p hp => h p _ hp (Evl.Ex.new hp) upd_same⟩
theorem g_sortedSet {S : Int → Bool} {n : Nat} (q : H a = some (SetO w a S n)) (l : n < 64)
    (h : ∀ (ns : List Int) p H', H p = none → Ex H H' → H' p = some (.lst (ns.map V.int)) → ns.Pairwise (· < ·) → (∀ k : Int, k ∈ ns ↔ S k = true) → Q (.ref p) H') : rSortedSet w [.ref a] H Q :=
  ⟨a, S, n, rfl, q, l, fun ns p h1 h2 _ hp => h ns p _ hp (Evl.Ex.new hp) upd_same h1 h2⟩
theorem g_int {i : Int} (h : Q (.int i) H) : r_int [.int i] H Q := .inl ⟨i, rfl, h⟩
theorem g_abs {i : Int} (h : Q (.int (if i < 0 then -i else i)) H) : r_abs [.int i] H Q := ⟨i, rfl, h⟩
/-- isinstance(x, T), by the types' names -/
theorem g_isi {x : V} {T U : String} {b : Bool} (t : TyX K H x (.type T)) (k : kitB T U = some b) (h : Q (.bl b) H) : rIsi K [x, .ty U] H Q :=
  ⟨x, .ty U, _, _, b, rfl, .ty U, t, kit_ty k, h⟩
theorem g_isiT {x : V} {T U U' : String} {b b' : Bool} {tp : Addr} (h0 : H tp = some (.tup [.ty U, .ty U'])) (t : TyX K H x (.type T)) (k : kitB T U = some b) (k' : kitB T U' = some b') (h : Q (.bl (b || b')) H) : rIsiT K [x, .ref tp] H Q := by
  refine ⟨x, tp, _, _, _, b || b', rfl, h0, .cons (.ty U) (.cons (.ty U') .nil), t, ?_, h⟩
  refine kitAny_cons (kit_ty k) (fun e => ?_) (fun e => by rw [e] <;> rfl)
  refine kitAny_cons (kit_ty k') (fun e' => by rw [e, e']; exact kitAny_nil) (fun e' => by rw [e, e'] <;> rfl)
theorem g_same {x : V} (e : scal x x = true) (h : Q (.bl true) H) : rEq x x H Q := ⟨e, by rw [decide_eq_true (rfl : x = x)]; exact h⟩
theorem g_isB {i j : Bool} (h : Q (.bl (decide (i = j))) H) : rIsB (.bl i) (.bl j) H Q := ⟨i, j, rfl, rfl, h⟩
theorem g_notB {i j : Bool} (h : Q (.bl (!decide (i = j))) H) : rNotB (.bl i) (.bl j) H Q := ⟨i, j, rfl, rfl, h⟩
theorem g_isN {x : V} (h : Q (.bl (decide (x = .non))) H) : r_isN x .non H Q := ⟨rfl, h⟩
theorem g_notN {x : V} (h : Q (.bl (!decide (x = .non))) H) : r_notN x .non H Q := ⟨rfl, h⟩
theorem g_app {l : Addr} {y : V} (q : H l = some (.lst xs)) (h5 : xs.length < 100000) (h : ∀ H', H' = upd H l (.lst (xs ++ [y])) → Q .non H') : rAppend (.ref l) [y] H Q :=
  ⟨l, xs, y, rfl, rfl, q, Nat.lt_of_lt_of_le h5 (by decide), h _ rfl⟩
theorem g_tbm {σ : St} {to : TE} {t : TA} {rr : V → List V → Hp → VK → Prop} (h : to σ H fun x H1 => (∃ a xs, x = .ref a ∧ SqL K H1 a xs) ∧ t σ H1 fun xs H2 => rr x xs H2 Q) (mono : ∀ R R' : VK, (∀ v H', R v H' → R' v H') → to σ H R → to σ H R') : tBM K "list" rr to t σ H Q := by
  refine mono _ _ ?_ h
  rintro v H' ⟨⟨a, xs, rfl, q⟩, k⟩
  exact ⟨.inl ⟨rfl, xs, q⟩, k⟩
theorem g_tbmV {σ : St} {i : Nat} {t : TA} {rr : V → List V → Hp → VK → Prop} (e : σ[i]? = some (some (.ref a))) (q : SqL K H a xs) (h : t σ H fun ys H2 => rr (.ref a) ys H2 Q) : tBM K "list" rr (tVar i) t σ H Q :=
  ⟨_, e, .inl ⟨rfl, xs, q⟩, h⟩
theorem g_maxL {a : Addr} {ns : List Int} (q : SqL K H a (ns.map V.int)) (l : 0 < ns.length) (h : ∀ m, m ∈ ns → (∀ y, y ∈ ns → y ≤ m) → Q (.int m) H) : rMax K [.ref a] H Q := ⟨a, ns, rfl, q, l, h⟩
theorem g_intB {b : Bool} (h : Q (.int (if b then 1 else 0)) H) : r_int [.bl b] H Q := .inr ⟨b, rfl, h⟩
theorem g_gunl {σ : St} {a : Addr} {xs : List V} {k : Nat} {t : TGs} {n : St → Hp → Prop} (q : SqL K H a xs) (l : xs.length = k) (h : t xs σ H n) : gUnl K k t (.ref a) σ H n := ⟨a, xs, rfl, q, l, h⟩
theorem dp_int {v : V} {i : Int} (h : Dp K H v (.int i)) : v = .int i := by cases h; rfl
theorem cmul_r {i j : Int} (h1 : -(2 ^ 64) < j) (h2 : j < 2 ^ 64) : CMul i j := .inr ⟨h1, h2⟩
theorem cmul_l {i j : Int} (h1 : -(2 ^ 64) < i) (h2 : i < 2 ^ 64) : CMul i j := .inl ⟨h1, h2⟩
theorem cdiv_of {i j : Int} (h1 : 0 < j) (h2 : j < 2 ^ 64) : CDivW i j := wide_div (b := 64) h1 (by omega) (by decide) (by decide)
theorem cpow_of {i j : Int} (h1 : 0 ≤ j) (h2 : j ≤ 1000000) (h3 : i.natAbs < 2 ^ 64) : CPow i j := ⟨h1, h2, h3⟩
theorem g_sub {σ : St} {H : Hp} {to ti : TE} {t : TSet} {v : V} {n : St → Hp → Prop} (h : to σ H fun o H1 => ti σ H1 fun i H2 => t o i v H2 fun H3 => n σ H3) : gSub to ti t v σ H n := h
theorem g_setL {p : Addr} {xs : List V} {k : Int} {j : Nat} {v : V} {H : Hp} {R : Hp → Prop} (q : H p = some (.lst xs)) (e : ixN xs.length k = some j)
    (h : ∀ H', Fr p H H' → H' p = some (.lst (xs.set j v)) → R H') : rSetL (.ref p) (.int k) v H R := ⟨p, xs, k, j, rfl, rfl, q, e, h _ Fr.upd upd_same⟩
theorem room65 {k : Nat} {A : Around} (r : Room k A) : A.units + 65 < cLine := by
  have := r.un
  omega
theorem atI_of {α : Type} {xs : List α} {i : Int} {v : α} (h : 0 ≤ i) (e : xs[i.toNat]? = some v) : atI xs i = some v := by
  have q := atI_nat e
  rw [Int.toNat_of_nonneg h] at q
  exact q
theorem atI_end {α : Type} {xs : List α} {v : α} (e : xs.getLast? = some v) : atI xs (-1) = some v := by
  obtain ⟨ys, rfl⟩ := List.getLast?_eq_some_iff.mp e
  exact atI_last ys v
/-! ### the row of draws -/
/-- a row: its address, its script's, the script's ints -/
abbrev Rw := Addr × Addr × List Int
/-- the script: read, whatever the row is -/
def Scr (K : PySem.W.Frag) (H : Hp) (ρ : Rw) : Prop := ∀ H', Fr ρ.1 H H' → SqL K H' ρ.2.1 (ρ.2.2.map V.int)
def Row (K : PySem.W.Frag) (H : Hp) (ρ : Rw) : Prop := ∃ i s t : Int, H ρ.1 = some (.lst [.ref ρ.2.1, .int i, .int s, .int t]) ∧ Scr K H ρ ∧ 0 ≤ i ∧ 0 ≤ s ∧ s < 2 ^ 40
section
variable {K : PySem.W.Frag} {H H' H0 : Hp} {ρ : Rw}
theorem Scr.fr (h : Scr K H ρ) (e : Fr ρ.1 H H') : Scr K H' ρ := fun G f => h G (e.trans f)
theorem Row.lst (h : Row K H ρ) : ∃ xs, H ρ.1 = some (.lst xs) := by
  obtain ⟨i, s, t, h, _⟩ := h
  exact ⟨_, h⟩
theorem Row.tr (h : Row K H ρ) (e : Fr ρ.1 H H') : TrT K H H' := by
  obtain ⟨xs, h⟩ := h.lst
  exact TrT.fr h e
theorem Row.ex (h : Row K H ρ) (e : Ex H H') : Row K H' ρ := by
  obtain ⟨i, s, t, h, k, b⟩ := h
  exact ⟨i, s, t, e _ _ h, k.fr (Fr.of e), b⟩
/-- an object that the first heap does not have changes -/
theorem Row.mut {l : Addr} {o : HO} (h0 : Row K H0 ρ) (h : Row K H ρ) (e : Fr ρ.1 H0 H) (n : H0 l = none) : Row K (L2.upd H l o) ρ := by
  obtain ⟨i, s, t, h, k, b⟩ := h
  obtain ⟨xs, q⟩ := h0.lst
  obtain ⟨_, _, _, _, k0, _⟩ := h0
  have ne : ρ.1 ≠ l := ne_of_none q n
  exact ⟨i, s, t, by rw [upd_ne ne]; exact h, k0.fr (Fr.mut e n), b⟩
end
theorem ty_int {i : Int} : TyX K H (.int i) (.type "int") := .base (.int i)
theorem ty_str {i : Str} : TyX K H (.str i) (.type "str") := .base (.str i)
theorem ty_bl {i : Bool} : TyX K H (.bl i) (.type "bool") := .base (.bl i)
theorem ty_non : TyX K H .non (.type "NoneType") := .base .non
theorem ty_tup (q : SqT K H a xs) : TyX K H (.ref a) (.type "tuple") := by
  rcases q with (q | ⟨o, q⟩) | q
  · exact .base (.tup q)
  · exact .fTuple q
  · obtain ⟨o, its, n, e, c, _⟩ := q
    exact .kTuple e c
theorem ty_lst (q : H a = some (.lst xs)) : TyX K H (.ref a) (.type "list") := .base (.lst q)
end
theorem if_d {A B : Prop} {p : Prop} [Decidable p] (h1 : p → A) (h2 : ¬ p → B) : if decide p = true then A else B :=
  if_b (fun h => h1 (of_decide_eq_true h)) (fun h => h2 (of_decide_eq_false h))
theorem if_nd {A B : Prop} {p : Prop} [Decidable p] (h1 : ¬ p → A) (h2 : p → B) : if (!decide p) = true then A else B :=
  if_b (fun h => h1 fun q => by rw [decide_eq_true q] at h; cases h) (fun h => h2 (by
    cases e : decide p with
    | true => exact of_decide_eq_true e
    | false => rw [e] at h; cases h))
/-! ### a cut: what follows is shown once -/
section
variable {σ : St} {H : Hp} {n : St → Hp → Prop} {r : VK} {b c : St → Hp → Prop} {Q : VK}
theorem cutE {te : TE} (Post : VK) (ev : ∀ Q' : VK, (∀ v H', Post v H' → Q' v H') → te σ H Q') (k : ∀ v H', Post v H' → Q v H') : te σ H Q := ev Q k
theorem cutS {ts : TS} (Mid : St → Hp → Prop) (ev : ∀ n' : St → Hp → Prop, (∀ σ' H', Mid σ' H' → n' σ' H') → ts (Ends.mk n' r b c) σ H) (k : ∀ σ' H', Mid σ' H' → n σ' H') : ts (Ends.mk n r b c) σ H := ev n k
end
/-! ### dicts with written text keys -/
section
variable {σ : St} {H H0 : Hp} {Q : VK}
def DispEnd (p : Addr) (ps : List (V × V)) (H : Hp) (Q : VK) : Prop := H p = some (.dK []) ∧ ∃ kvs : List (Key × V), ps = kvs.map (fun kv => (kV kv.1, kv.2)) ∧ kvs.length ≤ 15 ∧ Q (.ref p) (upd H p (.dK (mergeK [] kvs)))
theorem g_disp {trs : List (TE × TE)} (h : ∀ p H', H p = none → Ex H H' → H' p = some (.dK []) → tPairs trs σ H' fun ps H2 => DispEnd p ps H2 Q) : tDisp trs σ H Q :=
  fun p hp => h p _ hp (Evl.Ex.new hp) upd_same
theorem g_pcons {tk tv : TE} {r : List (TE × TE)} {R : List (V × V) → Hp → Prop} (h : tk σ H fun x H1 => tv σ H1 fun y H2 => tPairs r σ H2 fun ps H3 => R ((x, y) :: ps) H3) : tPairs ((tk, tv) :: r) σ H R := h
theorem g_pnil {R : List (V × V) → Hp → Prop} (h : R [] H) : tPairs [] σ H R := h
theorem g_dispEnd {p : Addr} {ps : List (V × V)} (kvs : List (Key × V)) (n : H0 p = none) (e : Ex H0 H) (q : H p = some (.dK [])) (eq : ps = kvs.map (fun kv => (kV kv.1, kv.2))) (l : kvs.length ≤ 15)
    (h : ∀ H3, Ex H0 H3 → Fr p H H3 → H3 p = some (.dK (mergeK [] kvs)) → Q (.ref p) H3) : DispEnd p ps H Q := ⟨q, kvs, eq, l, h _ (Evl.Ex.mut e n) Fr.upd upd_same⟩
def DGetR (a : Addr) (z : V) (y : V) (H : Hp) (Q : VK) : Prop := ∃ o, DGet H a y o ∧ Q (o.getD z) H
theorem g_dget2 {td ty tx : TE} (h : td σ H fun x H1 => ∃ a, x = .ref a ∧ IsD H1 a ∧ ty σ H1 fun y H2 => tx σ H2 fun z H3 => DGetR a z y H3 Q) : tDGet2 td ty tx σ H Q := h
theorem g_isD {a : Addr} {kvs : List (Key × V)} {R : Addr → Prop} (q : H a = some (.dK kvs)) (h : R a) : ∃ a', V.ref a = V.ref a' ∧ IsD H a' ∧ R a' := ⟨a, rfl, .inl ⟨kvs, .inl q⟩, h⟩
theorem g_dgetR {a : Addr} {z : V} {x : Str} {kvs : List (Key × V)} (q : H a = some (.dK kvs)) (h : Q ((valV kvs (Sum.inr x : Key)).getD z) H) : DGetR a z (.str x) H Q := ⟨_, DGet.k (k := Sum.inr x) q, h⟩
end
/-! ### loops over data -/
section
variable {α : Type} {K : PySem.W.Frag} {a : Addr} {xs : List V} {g : TG} {tb : TS} {n : St → Hp → Prop} {r : VK} {σ : St} {H : Hp} {ds : List α} {F : Hp → V → α → Prop}
theorem at_drop {i : Nat} {x : V} (hp : Paired (F H) xs ds) (hi : xs[i]? = some x) : ∃ d, F H x d ∧ ds.drop i = d :: ds.drop (i + 1) := by
  have L := Paired.length hp
  have lt : i < ds.length := by rw [← L]; exact (List.getElem?_eq_some_iff.mp hi).1
  obtain ⟨y, hy, hv⟩ := pd_get hp hi
  have ey : y = ds[i] := by
    rw [List.getElem?_eq_getElem lt] at hy
    exact (Option.some.inj hy).symm
  exact ⟨y, hv, by rw [ey]; exact List.drop_eq_getElem_cons lt⟩
theorem at_end (hp : Paired (F H) xs ds) : ds.drop xs.length = [] := by rw [Paired.length hp, List.drop_length]
/-- for x in a tuple -/
theorem g_forT (hx : SqT K H a xs) (hp : Paired (F H) xs ds) (Iv : List α → St → Hp → Prop) (h0 : Iv ds σ H)
    (keep : ∀ l σ' H', Iv l σ' H' → SqT K H' a xs ∧ ∀ x d, F H x d → F H' x d)
    (step : ∀ d l x σ' H', Iv (d :: l) σ' H' → F H' x d → g x σ' H' fun σ2 H2 => tb (Ends.mk (Iv l) r n (Iv l)) σ2 H2)
    (last : ∀ σ' H', Iv [] σ' H' → n σ' H') :
    ∃ a', V.ref a = V.ref a' ∧ (∃ xs, SqT K H a' xs) ∧ ∃ W : Nat → Nat → St → Hp → Prop, (∃ m, W 0 m σ H) ∧ ∀ i m σ H, W i m σ H →
      ((Itt K a').stop i H ∧ n σ H) ∨ ((Itt K a').go i H ∧ ∃ N : St → Hp → Prop, (∀ σ' H', N σ' H' → ∃ m', m' < m ∧ W (i + 1) m' σ' H') ∧ ∀ x H', (Itt K a').yld i H x H' → g x σ H' fun σ2 H2 => tb (Ends.mk N r n N) σ2 H2) := by
  refine ⟨a, rfl, ⟨xs, hx⟩, for_tup (K := K) (xs := xs) (D := Ends.mk n r n n) (fun i σ' H' => Iv (ds.drop i) σ' H') h0 (fun i σ' H' _ q => (keep _ _ _ q).1) ?_ ?_⟩
  · intro i x σ' H' hi q
    obtain ⟨d, hd, e⟩ := at_drop hp hi
    rw [e] at q
    exact step d _ x σ' H' q ((keep _ _ _ q).2 x d hd)
  · intro σ' H' q
    rw [at_end hp] at q
    exact last _ _ q
/-- for x in a list -/
theorem g_forL (hx : SqL K H a xs) (hp : Paired (F H) xs ds) (Iv : List α → St → Hp → Prop) (h0 : Iv ds σ H)
    (keep : ∀ l σ' H', Iv l σ' H' → SqL K H' a xs ∧ ∀ x d, F H x d → F H' x d)
    (step : ∀ d l x σ' H', Iv (d :: l) σ' H' → F H' x d → g x σ' H' fun σ2 H2 => tb (Ends.mk (Iv l) r n (Iv l)) σ2 H2)
    (last : ∀ σ' H', Iv [] σ' H' → n σ' H') :
    ∃ a', V.ref a = V.ref a' ∧ (∃ xs, SqL K H a' xs) ∧ ∃ W : Nat → Nat → St → Hp → Prop, (∃ m, W 0 m σ H) ∧ ∀ i m σ H, W i m σ H →
      ((Itl K a').stop i H ∧ n σ H) ∨ ((Itl K a').go i H ∧ ∃ N : St → Hp → Prop, (∀ σ' H', N σ' H' → ∃ m', m' < m ∧ W (i + 1) m' σ' H') ∧ ∀ x H', (Itl K a').yld i H x H' → g x σ H' fun σ2 H2 => tb (Ends.mk N r n N) σ2 H2) := by
  refine ⟨a, rfl, ⟨xs, hx⟩, for_list (K := K) (xs := xs) (D := Ends.mk n r n n) (fun i σ' H' => Iv (ds.drop i) σ' H') h0 (fun i σ' H' _ q => (keep _ _ _ q).1) ?_ ?_⟩
  · intro i x σ' H' hi q
    obtain ⟨d, hd, e⟩ := at_drop hp hi
    rw [e] at q
    exact step d _ x σ' H' q ((keep _ _ _ q).2 x d hd)
  · intro σ' H' q
    rw [at_end hp] at q
    exact last _ _ q
/-- for k in range(j) -/
theorem g_forR {j : Int} (h1 : j < 2 ^ 62) (h2 : -(2 ^ 62) ≤ j) (Iv : Nat → St → Hp → Prop) (h0 : Iv 0 σ H)
    (step : ∀ i σ' H', i < j.toNat → Iv i σ' H' → g (.int (i : Int)) σ' H' fun σ2 H2 => tb (Ends.mk (Iv (i + 1)) r n (Iv (i + 1))) σ2 H2)
    (last : ∀ σ' H', Iv j.toNat σ' H' → n σ' H') :
    ∃ j' : Int, [V.int j] = [V.int j'] ∧ -(2 ^ 62) ≤ j' ∧ j' < 2 ^ 62 ∧ ∃ W : Nat → Nat → St → Hp → Prop, (∃ m, W 0 m σ H) ∧ ∀ i m σ H, W i m σ H →
      ((Itr 0 j'.toNat).stop i H ∧ n σ H) ∨ ((Itr 0 j'.toNat).go i H ∧ ∃ N : St → Hp → Prop, (∀ σ' H', N σ' H' → ∃ m', m' < m ∧ W (i + 1) m' σ' H') ∧ ∀ x H', (Itr 0 j'.toNat).yld i H x H' → g x σ H' fun σ2 H2 => tb (Ends.mk N r n N) σ2 H2) := by
  refine ⟨j, rfl, h2, h1, for_range (lo := 0) (n := j.toNat) (D := Ends.mk n r n n) Iv h0 ?_ last⟩
  intro i σ' H' hi q
  have e : (0 : Int) + (i : Int) = (i : Int) := Int.zero_add _
  rw [e]
  exact step i σ' H' hi q
end
/-! ### comprehensions over data -/
section
variable {α : Type} {K : PySem.W.Frag} {a : Addr} {xs : List V} {g : TG} {tt : TT} {te : TE} {vs : List Nat} {σ : St} {H : Hp} {ds : List α} {F : Hp → V → α → Prop} {Q : VK}
theorem filt_all (ds : List α) : ds.filter (fun _ => true) = ds := List.filter_eq_self.mpr fun _ _ => rfl
/-- what the first turns have given -/
def gave (f : α → Bool) (v : α → V) (ds : List α) (i : Nat) : List V := ((ds.take i).filter f).map v
theorem gave_len (f : α → Bool) (v : α → V) (ds : List α) (i : Nat) : (gave f v ds i).length ≤ ds.length := by
  unfold gave
  rw [List.length_map]
  exact Nat.le_trans (List.length_filter_le _ _) (by rw [List.length_take]; omega)
theorem gave_next {f : α → Bool} {v : α → V} {ds : List α} {i : Nat} {d : α} {r : List α} (e : ds.drop i = d :: r) :
    gave f v ds (i + 1) = gave f v ds i ++ (if f d = true then [v d] else []) := by
  have h : ds[i]? = some d := by
    have q : (ds.drop i)[0]? = some d := by rw [e] <;> rfl
    rw [List.getElem?_drop] at q
    exact q
  unfold gave
  rw [List.take_add_one, h]
  show (List.filter f (List.take i ds ++ [d])).map v = _
  rw [List.filter_append, List.map_append]
  cases q : f d with
  | true => rw [if_pos rfl, List.filter_cons, if_pos q] <;> rfl
  | false => rw [if_neg (by decide), List.filter_cons, if_neg (by rw [q]; decide)] <;> rfl
theorem gave_all (f : α → Bool) (v : α → V) (ds : List α) : gave f v ds ds.length = (ds.filter f).map v := by
  unfold gave
  rw [List.take_length]
def LcW (H : Hp) (D : Addr) (f : α → Bool) (v : α → V) (ds : List α) (i : Nat) (H' : Hp) : Prop := H D = none ∧ Ex H H' ∧ H' D = some (.lst (gave f v ds i))
/-- one turn, its continuations open -/
def LcT (g : TG) (tt : TT) (te : TE) (vs : List Nat) (σ : St) (f : α → Bool) (v : α → V) (x : V) (d : α) (H' : Hp) : Prop :=
  ∀ (R : Hp → Prop) (S : VK), (f d = false → ∀ H3, Ex H' H3 → R H3) → (f d = true → ∀ H3, Ex H' H3 → S (v d) H3) →
    g x (wipe σ vs) H' fun σ2 H2 => wipe σ2 vs = wipe σ vs ∧ tt σ2 H2 fun b H3 => if b = true then te σ2 H3 S else R H3
theorem lc_turn {D : Addr} {f : α → Bool} {v : α → V} {i : Nat} {x : V} {d : α} {H' : Hp} {rest : List α} (hz : ds.length ≤ 100000) (w : LcW H D f v ds i H') (e : ds.drop i = d :: rest) (t : LcT g tt te vs σ f v x d H') :
    g x (wipe σ vs) H' fun σ2 H2 => wipe σ2 vs = wipe σ vs ∧ tt σ2 H2 fun b H3 =>
      if b = true then te σ2 H3 fun y H4 => ∃ acc, H4 D = some (.lst acc) ∧ acc.length < sizeLine ∧ LcW H D f v ds (i + 1) (upd H4 D (.lst (acc ++ [y]))) else LcW H D f v ds (i + 1) H3 := by
  obtain ⟨w1, w2, w3⟩ := w
  have en := gave_next (f := f) (v := v) e
  refine t _ _ (fun hf H3 e3 => ⟨w1, w2.trans e3, ?_⟩) (fun hf H3 e3 => ⟨_, e3 D _ w3, ?_, w1, Evl.Ex.mut (w2.trans e3) w1, ?_⟩)
  · rw [en, hf, if_neg (by decide), List.append_nil]
    exact e3 D _ w3
  · exact Nat.lt_of_le_of_lt (Nat.le_trans (gave_len f v ds i) hz) (by decide)
  · rw [en, hf, if_pos rfl]
    exact upd_same
/-- a comprehension over the value that its iterable has given -/
def tLcT (K : PySem.W.Frag) (x : V) (g : TG) (tt : TT) (te : TE) (vs : List Nat) : TE := tLc (iTup K fun _ H1 R => R x H1) g tt te vs
def tLcL (K : PySem.W.Frag) (x : V) (g : TG) (tt : TT) (te : TE) (vs : List Nat) : TE := tLc (iList K fun _ H1 R => R x H1) g tt te vs
theorem g_lcTup {tl : TE} (h : tl σ H fun x H1 => tLcT K x g tt te vs σ H1 Q) : tLc (iTup K tl) g tt te vs σ H Q := h
theorem g_lcList {tl : TE} (h : tl σ H fun x H1 => tLcL K x g tt te vs σ H1 Q) : tLc (iList K tl) g tt te vs σ H Q := h
theorem g_lcRng1 {ta : TA} (h : ta σ H fun us H1 => tLc (iRng1 fun _ H2 R => R us H2) g tt te vs σ H1 Q) : tLc (iRng1 ta) g tt te vs σ H Q := h
theorem g_lcRng2 {ta : TA} (h : ta σ H fun us H1 => tLc (iRng2 fun _ H2 R => R us H2) g tt te vs σ H1 Q) : tLc (iRng2 ta) g tt te vs σ H Q := h
theorem g_lcT (hx : SqT K H a xs) (hp : Paired (F H) xs ds) (hz : ds.length ≤ 100000) (f : α → Bool) (v : α → V)
    (mono : ∀ H' x d, Ex H H' → F H x d → F H' x d)
    (step : ∀ d x H', Ex H H' → F H' x d → LcT g tt te vs σ f v x d H')
    (last : ∀ D H', H D = none → Ex H H' → H' D = some (.lst ((ds.filter f).map v)) → Q (.ref D) H') :
    tLcT K (.ref a) g tt te vs σ H Q := by
  refine ⟨a, rfl, ⟨xs, hx⟩, fun D hD => lc_tup (K := K) (xs := xs) (LcW H D f v ds) ⟨hD, Evl.Ex.new hD, upd_same⟩ (fun i H' _ p => Evl.ex_t p.2.1 hx) ?_ ?_⟩
  · intro i x H' hi p
    obtain ⟨d, hd, e⟩ := at_drop hp hi
    exact lc_turn hz p e (step d x H' p.2.1 (mono _ _ _ p.2.1 hd))
  · intro H' p
    obtain ⟨p1, p2, p3⟩ := p
    rw [Paired.length hp, gave_all] at p3
    exact last D H' p1 p2 p3
theorem g_lcL (hx : SqL K H a xs) (hp : Paired (F H) xs ds) (hz : ds.length ≤ 100000) (f : α → Bool) (v : α → V)
    (mono : ∀ H' x d, Ex H H' → F H x d → F H' x d)
    (step : ∀ d x H', Ex H H' → F H' x d → LcT g tt te vs σ f v x d H')
    (last : ∀ D H', H D = none → Ex H H' → H' D = some (.lst ((ds.filter f).map v)) → Q (.ref D) H') :
    tLcL K (.ref a) g tt te vs σ H Q := by
  refine ⟨a, rfl, ⟨xs, hx⟩, fun D hD => lc_list (K := K) (xs := xs) (LcW H D f v ds) ⟨hD, Evl.Ex.new hD, upd_same⟩ (fun i H' _ p => Evl.ex_l p.2.1 hx) ?_ ?_⟩
  · intro i x H' hi p
    obtain ⟨d, hd, e⟩ := at_drop hp hi
    exact lc_turn hz p e (step d x H' p.2.1 (mono _ _ _ p.2.1 hd))
  · intro H' p
    obtain ⟨p1, p2, p3⟩ := p
    rw [Paired.length hp, gave_all] at p3
    exact last D H' p1 p2 p3
/-- the list of a range -/
def irange (lo : Int) (n : Nat) : List Int := (List.range n).map fun (i : Nat) => lo + (i : Int)
theorem irange_len (lo : Int) (n : Nat) : (irange lo n).length = n := by unfold irange; rw [List.length_map, List.length_range]
theorem irange_get {lo : Int} {n i : Nat} (h : i < n) : (irange lo n)[i]? = some (lo + (i : Int)) := by
  unfold irange
  rw [List.getElem?_map, List.getElem?_range h]
  rfl
theorem irange_drop {lo : Int} {n i : Nat} (h : i < n) : (irange lo n).drop i = (lo + (i : Int)) :: (irange lo n).drop (i + 1) := by
  have lt : i < (irange lo n).length := by rw [irange_len]; exact h
  rw [List.drop_eq_getElem_cons lt]
  have e := irange_get (lo := lo) h
  rw [List.getElem?_eq_getElem lt] at e
  rw [Option.some.inj e]
theorem lcR_core {lo : Int} {n : Nat} (hz : n ≤ 100000) (f : Int → Bool) (v : Int → V)
    (step : ∀ k H', Ex H H' → lo ≤ k → k < lo + n → LcT g tt te vs σ f v (.int k) k H')
    (last : ∀ D H', H D = none → Ex H H' → H' D = some (.lst (((irange lo n).filter f).map v)) → Q (.ref D) H') :
    ∀ D, H D = none → ∃ W : Nat → Nat → Hp → Prop, (∃ m, W 0 m (upd H D (.lst []))) ∧ ∀ i m H, W i m H →
      ((Itr lo n).stop i H ∧ Q (.ref D) H) ∨ ((Itr lo n).go i H ∧ ∃ Nx : Hp → Prop, (∀ H', Nx H' → ∃ m', m' < m ∧ W (i + 1) m' H') ∧ ∀ x H', (Itr lo n).yld i H x H' → g x (wipe σ vs) H' fun σ2 H2 => wipe σ2 vs = wipe σ vs ∧ tt σ2 H2 fun b H3 =>
        if b = true then te σ2 H3 fun y H4 => ∃ acc, H4 D = some (.lst acc) ∧ acc.length < sizeLine ∧ Nx (upd H4 D (.lst (acc ++ [y]))) else Nx H3) := by
  have len : (irange lo n).length = n := by unfold irange; rw [List.length_map, List.length_range]
  refine fun D hD => lc_range (lo := lo) (n := n) (LcW H D f v (irange lo n)) ⟨hD, Evl.Ex.new hD, upd_same⟩ ?_ ?_
  · intro i H' hi p
    exact lc_turn (by rw [len]; exact hz) p (irange_drop hi) (step _ H' p.2.1 (by omega) (by omega))
  · intro H' p
    obtain ⟨p1, p2, p3⟩ := p
    have e : gave f v (irange lo n) n = ((irange lo n).filter f).map v := by
      have q := gave_all f v (irange lo n)
      rw [len] at q
      exact q
    rw [e] at p3
    exact last D H' p1 p2 p3
theorem g_lcR2 {lo hi : Int} (b1 : -(2 ^ 60) ≤ lo) (b2 : hi ≤ 2 ^ 60) (b3 : lo ≤ hi) (b4 : hi - lo ≤ 100000) (f : Int → Bool) (v : Int → V)
    (step : ∀ k H', Ex H H' → lo ≤ k → k < hi → LcT g tt te vs σ f v (.int k) k H')
    (last : ∀ D H', H D = none → Ex H H' → H' D = some (.lst (((irange lo (hi - lo).toNat).filter f).map v)) → Q (.ref D) H') :
    tLc (iRng2 fun _ H2 R => R [.int lo, .int hi] H2) g tt te vs σ H Q := by
  have c1 : -(2 ^ 62) ≤ lo := by omega
  have c2 : lo < 2 ^ 62 := by omega
  have c3 : -(2 ^ 62) ≤ hi := by omega
  have c4 : hi < 2 ^ 62 := by omega
  exact ⟨lo, hi, rfl, ⟨c1, c2, c3, c4⟩, lcR_core (by omega) f v (fun k H' e h1 h2 => step k H' e h1 (by omega)) last⟩
theorem g_lcR1 {hi : Int} (b2 : hi ≤ 100000) (b3 : 0 ≤ hi) (f : Int → Bool) (v : Int → V)
    (step : ∀ k H', Ex H H' → 0 ≤ k → k < hi → LcT g tt te vs σ f v (.int k) k H')
    (last : ∀ D H', H D = none → Ex H H' → H' D = some (.lst (((irange 0 hi.toNat).filter f).map v)) → Q (.ref D) H') :
    tLc (iRng1 fun _ H2 R => R [.int hi] H2) g tt te vs σ H Q :=
  ⟨hi, rfl, by omega, by omega, lcR_core (by omega) f v (fun k H' e h1 h2 => step k H' e h1 (by omega)) last⟩
end
/-! ### a set of ints over a list of ints -/
section
variable {w : World} {K : PySem.W.Frag} {a : Addr} {ns : List Int} {g : TG} {tt : TT} {te : TE} {vs : List Nat} {σ : St} {H : Hp} {Q : VK}
/-- the members so far -/
def mem_ (f : Int → Bool) (v : Int → Int) (ns : List Int) (i : Nat) (k : Int) : Bool := (ns.take i).any fun h => f h && decide (k = v h)
def ScW (w : World) (H : Hp) (D : Addr) (f : Int → Bool) (v : Int → Int) (ns : List Int) (i : Nat) (H' : Hp) : Prop :=
  H D = none ∧ Ex H H' ∧ ∃ c, c ≤ i ∧ H' D = some (SetO w D (mem_ f v ns i) c)
def ScT (g : TG) (tt : TT) (te : TE) (vs : List Nat) (σ : St) (f : Int → Bool) (v : Int → Int) (x : V) (d : Int) (H' : Hp) : Prop :=
  ∀ (R : Hp → Prop) (S : VK), (f d = false → ∀ H3, Ex H' H3 → R H3) → (f d = true → ∀ H3, Ex H' H3 → S (.int (v d)) H3) →
    g x (wipe σ vs) H' fun σ2 H2 => wipe σ2 vs = wipe σ vs ∧ tt σ2 H2 fun b H3 => if b = true then te σ2 H3 S else R H3
theorem mem_next {f : Int → Bool} {v : Int → Int} {i : Nat} {d : Int} {r : List Int} (e : ns.drop i = d :: r) :
    mem_ f v ns (i + 1) = fun k => mem_ f v ns i k || (f d && decide (k = v d)) := by
  have h : ns[i]? = some d := by
    have q : (ns.drop i)[0]? = some d := by rw [e] <;> rfl
    rw [List.getElem?_drop] at q
    exact q
  funext k
  unfold mem_
  rw [List.take_add_one, h]
  show (List.take i ns ++ [d]).any _ = _
  rw [List.any_append]
  show (_ || ((f d && decide (k = v d)) || false)) = _
  rw [Bool.or_false]
def tScL (w : World) (K : PySem.W.Frag) (x : V) (g : TG) (tt : TT) (te : TE) (vs : List Nat) : TE := tScI w (iList K fun _ H1 R => R x H1) g tt te vs
theorem g_scList {tl : TE} (h : tl σ H fun x H1 => tScL w K x g tt te vs σ H1 Q) : tScI w (iList K tl) g tt te vs σ H Q := h
theorem g_scL (hx : SqL K H a (ns.map V.int)) (hz : ns.length ≤ 60) (f : Int → Bool) (v : Int → Int)
    (step : ∀ d H', Ex H H' → ScT g tt te vs σ f v (.int d) d H')
    (last : ∀ D H' c, H D = none → Ex H H' → c ≤ ns.length → H' D = some (SetO w D (mem_ f v ns ns.length) c) → Q (.ref D) H') :
    tScL w K (.ref a) g tt te vs σ H Q := by
  refine ⟨a, rfl, ⟨_, hx⟩, fun D hD => ?_⟩
  refine ⟨fun i m H' => m = ns.length - i ∧ i ≤ ns.length ∧ ScW w H D f v ns i H', ⟨ns.length, rfl, Nat.zero_le _, hD, Evl.Ex.new hD, 0, Nat.le_refl _, upd_same⟩, ?_⟩
  rintro i m H' ⟨rfl, hi, w1, w2, c, hc, w3⟩
  have q : SqL K H' a (ns.map V.int) := Evl.ex_l w2 hx
  by_cases lt : i < ns.length
  · have hi' : (ns.map V.int)[i]? = some (V.int ns[i]) := by
      rw [List.getElem?_map, List.getElem?_eq_getElem lt] <;> rfl
    have e : ns.drop i = ns[i] :: ns.drop (i + 1) := List.drop_eq_getElem_cons lt
    refine .inr ⟨⟨_, _, q, hi'⟩, ScW w H D f v ns (i + 1), fun G p => ⟨ns.length - (i + 1), by omega, rfl, lt, p⟩, fun x G y => ?_⟩
    obtain ⟨e1, y⟩ := y
    subst e1
    have ex := y _ q
    rw [hi'] at ex
    have ex := (Option.some.inj ex).symm
    subst ex
    have en := mem_next (f := f) (v := v) e
    refine step ns[i] G w2 _ _ (fun hf H3 e3 => ⟨w1, w2.trans e3, c, Nat.le_succ_of_le hc, ?_⟩) (fun hf H3 e3 => ⟨v ns[i], _, c, rfl, e3 D _ w3, ?_, w1, Evl.Ex.mut (w2.trans e3) w1, ?_⟩)
    · rw [e3 D _ w3, en, hf]
      congr 2
      funext k
      rw [Bool.false_and, Bool.or_false]
    · have hb : scanBound = scanBound := rfl
      exact Nat.lt_of_le_of_lt (show c + 1 ≤ 61 by omega) (by unfold scanBound; decide)
    · refine ⟨_, ?_, by rw [upd_same, en, hf]; simp only [Bool.true_and]; rfl⟩
      split <;> omega
  · have e : i = ns.length := by omega
    subst e
    exact .inl ⟨⟨_, q, by rw [List.length_map]; exact Nat.le_refl _⟩, last D H' c w1 w2 hc w3⟩
end
section
variable {K : PySem.W.Frag} {H H' : Hp}
theorem dpAll_pd : ∀ {vs : List V} {ds : List PyData}, DpAll K H vs ds → Paired (Dp K H) vs ds
  | _, _, .nil => .nil
  | _, _, .cons h t => .cons h (dpAll_pd t)
theorem pd_dpAll : ∀ {vs : List V} {ds : List PyData}, Paired (Dp K H) vs ds → DpAll K H vs ds
  | _, _, .nil => .nil
  | _, _, .cons h t => .cons h (pd_dpAll t)
mutual
theorem dp_tr (e : TrT K H H') (l : TrL K H H') : ∀ (d : PyData) (v : V), Dp K H v d → Dp K H' v d
  | .none, _, h => by cases h; exact .non
  | .bool b, _, h => by cases h; exact .bl b
  | .int b, _, h => by cases h; exact .int b
  | .str b, _, h => by cases h; exact .str b
  | .list ds, _, h => by
    cases h with
    | lst h1 h2 => exact .lst (l _ _ h1) (dpAll_tr e l ds _ h2)
  | .tuple ds, _, h => by
    cases h with
    | tup h1 h2 => exact .tup (e _ _ h1) (dpAll_tr e l ds _ h2)
  | .dict _, _, h => by cases h
theorem dpAll_tr (e : TrT K H H') (l : TrL K H H') : ∀ (ds : List PyData) (vs : List V), DpAll K H vs ds → DpAll K H' vs ds
  | [], _, h => by cases h; exact .nil
  | d :: ds, _, h => by
    cases h with
    | cons h1 h2 => exact .cons (dp_tr e l d _ h1) (dpAll_tr e l ds _ h2)
end
theorem dp_ex (e : Ex H H') {d : PyData} {v : V} (h : Dp K H v d) : Dp K H' v d := dp_tr (TrT.of e) (TrL.of e) d v h
/-- data of tuples, at most n deep -/
def fits : Nat → PyData → Bool
  | _, .none => true
  | _, .bool _ => true
  | _, .int _ => true
  | _, .str _ => true
  | n + 1, .tuple xs => decide (xs.length ≤ 1000) && xs.all (fits n)
  | _, _ => false
theorem fits_tuple {n : Nat} {xs : List PyData} : fits (n + 1) (.tuple xs) = (decide (xs.length ≤ 1000) && xs.all (fits n)) := rfl
theorem dp_trT (e : TrT K H H') : ∀ (n : Nat) (d : PyData) (v : V), fits n d = true → Dp K H v d → Dp K H' v d := by
  intro n
  induction n with
  | zero =>
    intro d v f h
    cases h with
    | non => exact .non
    | bl b => exact .bl b
    | int b => exact .int b
    | str b => exact .str b
    | lst h1 h2 => cases f
    | tup h1 h2 => cases f
  | succ n ih =>
    intro d v f h
    cases h with
    | non => exact .non
    | bl b => exact .bl b
    | int b => exact .int b
    | str b => exact .str b
    | lst h1 h2 => cases f
    | @tup a xs ds h1 h2 =>
      refine .tup (e _ _ h1) (pd_dpAll ?_)
      have f' : ∀ x ∈ ds, fits n x = true := List.all_eq_true.mp (Bool.and_eq_true_iff.mp (show (decide (ds.length ≤ 1000) && ds.all (fits n)) = true from f)).2
      have p := dpAll_pd h2
      clear h1 h2 f
      induction p with
      | nil => exact .nil
      | @cons x d xs ds q t ih2 => exact .cons (ih d x (f' d (by simp)) q) (ih2 fun z hz => f' z (by simp [hz]))
theorem pd_map {α β γ : Type} {F : α → β → Prop} {G : α → γ → Prop} {f : β → γ} (h : ∀ a b, F a b → G a (f b)) : ∀ {xs : List α} {ys : List β}, Paired F xs ys → Paired G xs (ys.map f)
  | _, _, .nil => .nil
  | _, _, .cons q t => .cons (h _ _ q) (pd_map h t)
theorem pd_maps {α β γ : Type} {F : α → β → Prop} {f : γ → α} {g : γ → β} : ∀ (zs : List γ), (∀ z ∈ zs, F (f z) (g z)) → Paired F (zs.map f) (zs.map g)
  | [], _ => .nil
  | z :: zs, h => .cons (h z (by simp)) (pd_maps zs fun y hy => h y (by simp [hy]))
theorem dp_ints (ns : List Int) : DpAll K H (ns.map V.int) (ns.map PyData.int) := pd_dpAll (pd_maps ns fun z _ => .int z)
theorem dp_pair {v : V} {p : Int × Int} (h : PV K H v p) : Dp K H v (.tuple [.int p.1, .int p.2]) := by
  obtain ⟨a, rfl, h⟩ := h
  exact .tup h (.cons (.int _) (.cons (.int _) .nil))
/-! ### shapes -/
def sh (n : Nat) (d : PyData) : Prop := d.canLay0 = true ∧ d.depth ≤ n
theorem sh_all {n : Nat} : ∀ {ds : List PyData}, (∀ x ∈ ds, sh n x) → PyData.canLayAll0 ds = true ∧ PyData.depthAll ds ≤ n
  | [], _ => by simp [PyData.canLayAll0, PyData.depthAll]
  | d :: ds, h => by
    have h1 := h d (by simp)
    have h2 := sh_all (ds := ds) fun x hx => h x (by simp [hx])
    unfold PyData.canLayAll0 PyData.depthAll
    exact ⟨by rw [h1.1, h2.1] <;> rfl, by have := h1.2; have := h2.2; omega⟩
theorem sh_list {n : Nat} {ds : List PyData} (h : ∀ x ∈ ds, sh n x) : sh (n + 1) (.list ds) := by
  have q := sh_all h
  unfold sh PyData.canLay0 PyData.depth
  exact ⟨q.1, by have := q.2; omega⟩
theorem sh_tup {n : Nat} {ds : List PyData} (h : ∀ x ∈ ds, sh n x) : sh (n + 1) (.tuple ds) := by
  have q := sh_all h
  unfold sh PyData.canLay0 PyData.depth
  exact ⟨q.1, by have := q.2; omega⟩
theorem sh_int {n : Nat} {i : Int} : sh n (.int i) := by unfold sh PyData.canLay0 PyData.depth; exact ⟨rfl, Nat.zero_le _⟩
theorem sh_ints {n : Nat} {ns : List Int} : ∀ x ∈ ns.map PyData.int, sh n x := by
  intro x hx
  obtain ⟨i, _, rfl⟩ := List.mem_map.mp hx
  exact sh_int
theorem sh_ok {n : Nat} {d : PyData} (h : sh n d) (l : n ≤ 64) : SeqAt.shaped d = true := by
  unfold SeqAt.shaped
  rw [h.1, decide_eq_true (Nat.le_trans h.2 l)] <;> rfl
theorem eqvAll_nil (ds : List PyData) : PyData.eqvAll ds [] = ds.isEmpty := by
  cases ds with
  | nil => unfold PyData.eqvAll; rfl
  | cons d ds => unfold PyData.eqvAll; rfl
section
variable {Q : VK} {a b : Addr} {ns : List Int}
/-- xs != [] -/
theorem g_neNil (h1 : H a = some (.lst (ns.map V.int))) (h2 : H b = some (.lst [])) (k : Q (.bl (!ns.isEmpty)) H) : rNeD K (.ref a) (.ref b) H Q := by
  refine ⟨.list (ns.map PyData.int), .list [], .lst (SqL.of h1) (dp_ints ns), .lst (SqL.of h2) .nil, sh_ok (n := 1) (sh_list sh_ints) (by omega), sh_ok (n := 1) (sh_list (by simp)) (by omega), ?_⟩
  have e : PyData.eqv (.list (ns.map PyData.int)) (.list []) = ns.isEmpty := by
    show PyData.eqvAll (ns.map PyData.int) [] = ns.isEmpty
    rw [eqvAll_nil]
    cases ns <;> rfl
  rw [e]
  exact k
theorem g_eqNil (h1 : H a = some (.lst (ns.map V.int))) (h2 : H b = some (.lst [])) (k : Q (.bl ns.isEmpty) H) : rEqD K (.ref a) (.ref b) H Q := by
  refine ⟨.list (ns.map PyData.int), .list [], .lst (SqL.of h1) (dp_ints ns), .lst (SqL.of h2) .nil, sh_ok (n := 1) (sh_list sh_ints) (by omega), sh_ok (n := 1) (sh_list (by simp)) (by omega), ?_⟩
  have e : PyData.eqv (.list (ns.map PyData.int)) (.list []) = ns.isEmpty := by
    show PyData.eqvAll (ns.map PyData.int) [] = ns.isEmpty
    rw [eqvAll_nil]
    cases ns <;> rfl
  rw [e]
  exact k
end
end
theorem sh_bool {n : Nat} {i : Bool} : sh n (.bool i) := by unfold sh PyData.canLay0 PyData.depth; exact ⟨rfl, Nat.zero_le _⟩
theorem sh_none {n : Nat} : sh n .none := by unfold sh PyData.canLay0 PyData.depth; exact ⟨rfl, Nat.zero_le _⟩
theorem sh_str {n : Nat} {s : Str} (h : PyData.strOk s = true) : sh n (.str s) := by unfold sh PyData.canLay0 PyData.depth; exact ⟨h, Nat.zero_le _⟩
/-! ### a pair or a word -/
abbrev Tm := Int × Int
def encT : Option Tm → PyData
  | none => .str "refused"
  | some t => .tuple [.int t.1, .int t.2]
def TV (K : PySem.W.Frag) (H : Hp) (v : V) : Option Tm → Prop
  | none => v = .str "refused"
  | some t => PV K H v t
section
variable {K : PySem.W.Frag} {H H' : Hp} {v : V}
theorem TV.tr {o : Option Tm} (e : TrT K H H') (h : TV K H v o) : TV K H' v o := by
  cases o with
  | none => exact h
  | some t => exact PV.tr e h
theorem TV.dp {o : Option Tm} (h : TV K H v o) : Dp K H v (encT o) := by
  cases o with
  | none => cases (show v = .str "refused" from h); exact .str _
  | some t => exact dp_pair h
theorem sh_refused {n : Nat} : sh n (.str "refused") := sh_str (by decide +kernel)
theorem sh_encT {o : Option Tm} : sh 1 (encT o) := by
  cases o with
  | none => exact sh_refused
  | some t =>
    refine sh_tup fun x hx => ?_
    simp only [List.mem_cons, List.not_mem_nil, or_false] at hx
    rcases hx with rfl | rfl <;> exact sh_int
theorem eqv_tup {a b : Tm} : PyData.eqv (encT (some a)) (encT (some b)) = decide (a = b) := by
  show PyData.eqvAll [.int a.1, .int a.2] [.int b.1, .int b.2] = _
  unfold PyData.eqvAll PyData.eqvAll PyData.eqvAll PyData.eqv
  simp only [Bool.and_true]
  rw [show (a.1 == b.1) = decide (a.1 = b.1) from rfl, show (a.2 == b.2) = decide (a.2 = b.2) from rfl, ← Bool.decide_and]
  exact decide_eq_decide.mpr ⟨fun h => Prod.ext h.1 h.2, fun h => by rw [h]; exact ⟨rfl, rfl⟩⟩
theorem eqv_enc {a b : Option Tm} : PyData.eqv (encT a) (encT b) = decide (a = b) := by
  cases a with
  | none => cases b with
    | none => decide +kernel
    | some b => rfl
  | some a => cases b with
    | none => rfl
    | some b => rw [eqv_tup]; exact decide_eq_decide.mpr ⟨fun h => by rw [h], fun h => Option.some.inj h⟩
section
variable {Q : VK} {x y : V} {a b : Option Tm}
theorem g_eqT (h1 : TV K H x a) (h2 : TV K H y b) (k : Q (.bl (decide (a = b))) H) : rEqD K x y H Q :=
  ⟨_, _, h1.dp, h2.dp, sh_ok sh_encT (by omega), sh_ok sh_encT (by omega), by rw [eqv_enc]; exact k⟩
theorem g_neT (h1 : TV K H x a) (h2 : TV K H y b) (k : Q (.bl (!decide (a = b))) H) : rNeD K x y H Q :=
  ⟨_, _, h1.dp, h2.dp, sh_ok sh_encT (by omega), sh_ok sh_encT (by omega), by rw [eqv_enc]; exact k⟩
/-- "refused" in [x, y] -/
theorem g_inT {l : Addr} (h0 : H l = some (.lst [x, y])) (h1 : TV K H x a) (h2 : TV K H y b) (k : Q (.bl (decide (a = none) || decide (b = none))) H) : rInD K (.str "refused") (.ref l) H Q := by
  refine ⟨.str "refused", [encT a, encT b], .str _, .lst (SqL.of h0) (.cons h1.dp (.cons h2.dp .nil)), sh_ok (n := 1) sh_refused (by omega), sh_ok (n := 2) (sh_list ?_) (by omega), ?_⟩
  · intro z hz
    simp only [List.mem_cons, List.not_mem_nil, or_false] at hz
    rcases hz with rfl | rfl <;> exact sh_encT
  · show Q (.bl (PyData.eqv (encT a) (encT none) || (PyData.eqv (encT b) (encT none) || false))) H
    rw [eqv_enc, eqv_enc, Bool.or_false]
    exact k
end
end
/-! ### rising lists -/
theorem rise_ext : ∀ {xs ys : List Int}, xs.Pairwise (· < ·) → ys.Pairwise (· < ·) → (∀ k, k ∈ xs ↔ k ∈ ys) → xs = ys
  | [], [], _, _, _ => rfl
  | [], y :: ys, _, _, h => absurd ((h y).2 (by simp)) (by simp)
  | x :: xs, [], _, _, h => absurd ((h x).1 (by simp)) (by simp)
  | x :: xs, y :: ys, hx, hy, h => by
    rw [List.pairwise_cons] at hx hy
    have e : x = y := by
      have h1 := (h x).1 (by simp)
      have h2 := (h y).2 (by simp)
      rw [List.mem_cons] at h1 h2
      rcases h1 with h1 | h1
      · exact h1
      · rcases h2 with h2 | h2
        · exact h2.symm
        · have := hx.1 y h2
          have := hy.1 x h1
          omega
    subst e
    rw [rise_ext hx.2 hy.2 fun k => ?_]
    constructor
    · intro hk
      have q := (h k).1 (by simp [hk])
      rw [List.mem_cons] at q
      rcases q with q | q
      · have := hx.1 k hk
        omega
      · exact q
    · intro hk
      have q := (h k).2 (by simp [hk])
      rw [List.mem_cons] at q
      rcases q with q | q
      · have := hy.1 k hk
        omega
      · exact q
theorem irange_mem {lo : Int} {n : Nat} {k : Int} : k ∈ irange lo n ↔ lo ≤ k ∧ k < lo + n := by
  unfold irange
  rw [List.mem_map]
  constructor
  · rintro ⟨i, hi, rfl⟩
    rw [List.mem_range] at hi
    omega
  · rintro ⟨h1, h2⟩
    exact ⟨(k - lo).toNat, by rw [List.mem_range]; omega, by omega⟩
theorem irange_rise (lo : Int) (n : Nat) : (irange lo n).Pairwise (· < ·) := by
  unfold irange
  rw [List.pairwise_map]
  exact List.pairwise_lt_range.imp fun h => by omega
section
variable {σ : St} {H : Hp}
/-- an expression that gives v and leaves the heap as it is -/
def EvV (te : TE) (σ : St) (H : Hp) (v : V) : Prop := ∀ Q : VK, Q v H → te σ H Q
def EvK (tt : TT) (σ : St) (H : Hp) (b : Bool) : Prop := ∀ R : Bool → Hp → Prop, R b H → tt σ H R
variable {ta tb : TE} {tt : TT} {v : V} {a b c : Bool} {x y : Str} {i j : Int}
theorem evV_var {k : Nat} (e : σ[k]? = some (some v)) : EvV (tVar k) σ H v := fun Q q => ⟨v, e, q⟩
theorem evV_c : EvV (tC v) σ H v := fun Q q => q
theorem evV_not (h : EvV ta σ H (.bl a)) : EvV (tNotV ta) σ H (.bl (!a)) := fun Q q => h _ ⟨a, rfl, q⟩
theorem evV_or (h : EvV ta σ H (.bl a)) (h' : EvV tb σ H (.bl b)) : EvV (tOrV ta tb) σ H (.bl (a || b)) := fun Q q => h _ ⟨a, rfl, by
  cases a with
  | true => exact q
  | false => exact h' _ q⟩
theorem evV_and (h : EvV ta σ H (.bl a)) (h' : EvV tb σ H (.bl b)) : EvV (tAndV ta tb) σ H (.bl (a && b)) := fun Q q => h _ ⟨a, rfl, by
  cases a with
  | true => exact h' _ q
  | false => exact q⟩
theorem evK_B (h : EvV ta σ H (.bl a)) : EvK (tB ta) σ H a := fun R r => h _ ⟨a, rfl, r⟩
theorem evK_test (h : EvV ta σ H (.bl a)) : EvK (tTest ta) σ H a := fun R r => h _ ⟨a, rfl, r⟩
theorem evK_not (h : EvK tt σ H a) : EvK (tNot tt) σ H (!a) := fun R r => h _ r
theorem evV_if (h : EvK tt σ H c) (h1 : EvV ta σ H (.bl a)) (h2 : EvV tb σ H (.bl b)) : EvV (tIf tt ta tb) σ H (.bl (if c = true then a else b)) := fun Q q => h _ (by
  cases c with
  | true => exact if_t rfl (h1 _ q)
  | false => exact if_f rfl (h2 _ q))
theorem evV_eqB (h : EvV ta σ H (.bl a)) (h' : EvV tb σ H (.bl b)) : EvV (tOp rEq ta tb) σ H (.bl (a == b)) := fun Q q => h _ (h' _ (g_eqB q))
theorem evV_eqS (h : EvV ta σ H (.str x)) (h' : EvV tb σ H (.str y)) : EvV (tOp rEq ta tb) σ H (.bl (decide (x = y))) := fun Q q => h _ (h' _ (g_eqS q))
theorem evV_neS (h : EvV ta σ H (.str x)) (h' : EvV tb σ H (.str y)) : EvV (tOp rNe ta tb) σ H (.bl (!decide (x = y))) := fun Q q => h _ (h' _ (g_neS q))
theorem evV_is {v' : V} (h : EvV ta σ H v) (e : v = v') : EvV ta σ H v' := e ▸ h
theorem g_ev {Q : VK} (h : EvV ta σ H v) (q : Q v H) : ta σ H Q := h Q q
/-- a new pair of truth values -/
theorem g_pairB {Q : VK} (h1 : EvV ta σ H (.bl a)) (h2 : EvV tb σ H (.bl b)) (k : ∀ p H', H p = none → Ex H H' → H' p = some (.tup [.bl a, .bl b]) → Q (.ref p) H') : tTup (tCons ta (tCons tb tNil)) σ H Q :=
  h1 _ (h2 _ (g_newT (by simp) k))
end
section
variable {K : PySem.W.Frag} {H H' H0 : Hp} {D : Addr}
theorem TrT.frD {kvs : List (Key × V)} (hr : H D = some (.dK kvs)) (e : Fr D H H') : TrT K H H' := by
  intro a ys h
  have ne : ∀ o, H a = some o → (∀ zs, o ≠ .dK zs) → a ≠ D := fun o q n z => by
    subst z
    rw [hr] at q
    exact n kvs (Option.some.inj q).symm
  rcases h with (h | ⟨o, h⟩) | h
  · exact .inl (.inl (e a _ (ne _ h fun _ z => nomatch z) h))
  · exact .inl (.inr ⟨o, e a _ (ne _ h fun _ z => nomatch z) h⟩)
  · exact .inr h
theorem ex_fr (e : Ex H0 H) (n : H0 D = none) (f : Fr D H H') : Ex H0 H' := fun a o h => f a o (ne_of_none h n) (e a o h)
/-- a pair of truth values -/
def BP (K : PySem.W.Frag) (H : Hp) (v : V) (p : Bool × Bool) : Prop := ∃ a, v = .ref a ∧ SqT K H a [.bl p.1, .bl p.2]
theorem BP.tr {v : V} {p : Bool × Bool} (e : TrT K H H') (h : BP K H v p) : BP K H' v p := by
  obtain ⟨a, q, h⟩ := h
  exact ⟨a, q, e _ _ h⟩
/-- a dict of names and what they stand for -/
def DictAt (K : PySem.W.Frag) {α : Type} (nm : α → Str) (F : Hp → V → α → Prop) (H : Hp) (D : Addr) (rs : List α) : Prop :=
  ∃ kvs : List (Key × V), H D = some (.dK kvs) ∧ Paired (fun (kv : Key × V) r => kv.1 = (Sum.inr (nm r) : Key) ∧ F H kv.2 r) kvs rs
section
variable {α : Type} {nm : α → Str} {F : Hp → V → α → Prop}
theorem any_none {kvs : List (Key × V)} {rs : List α} {k : Str} {P : V → α → Prop} (h : Paired (fun (kv : Key × V) r => kv.1 = (Sum.inr (nm r) : Key) ∧ P kv.2 r) kvs rs) (n : ∀ r ∈ rs, nm r ≠ k) :
    (kvs.any fun kv => decide (kv.1 = (Sum.inr k : Key))) = false := by
  induction h with
  | nil => rfl
  | @cons kv r kvs rs q t ih =>
    rw [List.any_cons, ih fun x hx => n x (by simp [hx]), Bool.or_false, q.1]
    exact decide_eq_false fun e => n r (by simp) (Sum.inr.inj e)
theorem DictAt.put {rs : List α} {r : α} {v : V} {R : Hp → Prop} (h : DictAt K nm F H D rs) (mono : ∀ H' v r, TrT K H H' → F H v r → F H' v r) (n : ∀ x ∈ rs, nm x ≠ nm r) (few : rs.length < 1000) (hv : F H v r)
    (k : ∀ H', Fr D H H' → DictAt K nm F H' D (rs ++ [r]) → R H') : rSetD (.ref D) (.str (nm r)) v H R := by
  obtain ⟨kvs, hD, hp⟩ := h
  have len := Paired.length hp
  have e : putK kvs (Sum.inr (nm r) : Key) v = kvs ++ [((Sum.inr (nm r) : Key), v)] := by
    unfold putK
    rw [any_none (P := F H) hp n, if_neg (by decide)]
  have tr : TrT K H (L2.upd H D (.dK (kvs ++ [((Sum.inr (nm r) : Key), v)]))) := TrT.frD hD Fr.upd
  refine ⟨D, _, rfl, DPut.k (k := (Sum.inr (nm r) : Key)) hD (by rw [len]; exact Nat.lt_of_lt_of_le few (by decide)), ?_⟩
  rw [e]
  refine k _ Fr.upd ⟨_, upd_same, pd_app (L2.Paired.mapP hp fun _ _ q => ⟨q.1, mono _ _ _ tr q.2⟩) (.cons ⟨rfl, mono _ _ _ tr hv⟩ .nil)⟩
theorem DictAt.trT {rs : List α} (h : DictAt K nm F H D rs) (f : Fr D H H') : TrT K H H' := by
  obtain ⟨kvs, hD, _⟩ := h
  exact TrT.frD hD f
theorem DictAt.get {rs : List α} {r : α} (h : DictAt K nm F H D rs) (inj : ∀ x ∈ rs, nm x = nm r → x = r) (m : r ∈ rs) : ∃ v, DGet H D (.str (nm r)) (some v) ∧ F H v r := by
  obtain ⟨kvs, hD, hp⟩ := h
  have q : ∃ v, valV kvs (Sum.inr (nm r) : Key) = some v ∧ F H v r := by
    clear hD
    induction hp with
    | nil => cases m
    | @cons kv x kvs rs q t ih =>
      by_cases c : nm x = nm r
      · have e := inj x (by simp) c
        subst e
        exact ⟨kv.2, valV_pos q.1, q.2⟩
      · rw [valV_neg (by rw [q.1]; exact fun e => c (Sum.inr.inj e))]
        rcases List.mem_cons.mp m with e | m
        · exact (c (by rw [e])).elim
        · exact ih (fun y hy => inj y (by simp [hy])) m
  obtain ⟨v, e, f⟩ := q
  exact ⟨v, by rw [← e]; exact DGet.k (k := (Sum.inr (nm r) : Key)) hD, f⟩
theorem DictAt.tr {rs : List α} (h : DictAt K nm F H D rs) (e : Ex H H') (mono : ∀ H' v r, TrT K H H' → F H v r → F H' v r) : DictAt K nm F H' D rs := by
  obtain ⟨kvs, hD, hp⟩ := h
  exact ⟨kvs, e _ _ hD, L2.Paired.mapP hp fun _ _ q => ⟨q.1, mono _ _ _ (TrT.of e) q.2⟩⟩
end
theorem g_inL {Q : VK} {a : Addr} {xs : List V} {x : V} (q : SqL K H a xs) (f1 : flatV x = true) (f2 : xs.all flatV = true) (k : Q (.bl (inV x xs)) H) : rIn K false x (.ref a) H Q := ⟨a, xs, rfl, .inl q, f1, f2, k⟩
theorem g_inTu {Q : VK} {a : Addr} {xs : List V} {x : V} (q : SqT K H a xs) (f1 : flatV x = true) (f2 : xs.all flatV = true) (k : Q (.bl (inV x xs)) H) : rIn K false x (.ref a) H Q := ⟨a, xs, rfl, .inr q, f1, f2, k⟩
theorem inV_strs (x : Str) : ∀ xs : List Str, inV (.str x) (xs.map V.str) = xs.any fun y => decide (y = x)
  | [] => rfl
  | y :: ys => by
    show (eqV (.str y) (.str x) || inV (.str x) (ys.map V.str)) = (decide (y = x) || ys.any fun y => decide (y = x))
    rw [inV_strs x ys]
    rfl
end
section
open He
theorem tupD_ok {K : PySem.W.Frag} {a : PySem.W.Frag → Addr} {vs : List Dv} (h : tupD a vs K = true) (H : Hp) : SqT K H (a K) (vs.map (Dv.v K)) := by
  unfold tupD at h
  split at h
  next c od its n sl q =>
    obtain ⟨h1, h2⟩ := ba h
    obtain ⟨h3, h4⟩ := ba h2
    exact .inr ⟨_, its, n, q, by rw [of_decide_eq_true h1], rfl, of_decide_eq_true h3, relAll_ok h4⟩
  next => cases h
theorem kdct_of {K : PySem.W.Frag} {w : World} {a : PySem.W.Frag → Addr} {kvs : List (Str × Dv)} (d : ∃ es n, KDict K w (a K) es n) (h : valsD a kvs K = true) {q : Str × Dv} (hq : q ∈ kvs) : KDct K w (a K) q.1 (q.2.v K) := by
  obtain ⟨es, n, d⟩ := d
  obtain ⟨u, e, r⟩ := valsB_ok h hq
  exact ⟨es, n, u, d.1, d.2, e, r⟩
/-- a table's key's object stands where the path says -/
def adrB (a : PySem.W.Frag → Addr) (x : Str) (K : PySem.W.Frag) : Bool := eqO (PySem.W.nsIn K (a K) x) (some (some (.ref (dctAt a x K))))
def obsX (fa : List Fa) (fn : List DefD) (ts : List Tab) (ps : List (PySem.W.Frag → Bool)) (K : PySem.W.Frag) : AlX := (obsT fa fn ts K, ps.all fun p => p K)
def valX (fn : List DefD) (ts : List Tab) (w : World) : AlX := (valT fn ts w, true)
def obsXG (n : Nat) (fa : List Fa) (fn : List DefD) (ts : List Tab) (ps : List (PySem.W.Frag → Bool)) (g : Addr → Option Obj) : AlX := obsX fa fn ts ps (frG g (asD g n))
def SaysX (fa : List Fa) (fn : List DefD) (ts : List Tab) (ps : List (PySem.W.Frag → Bool)) (w : World) (K : PySem.W.Frag) : Prop := obsX fa fn ts ps K = valX fn ts w
def hookX (n : Nat) (fa : List Fa) (fn : List DefD) (ts : List Tab) (ps : List (PySem.W.Frag → Bool)) : PySem.W.Hook where
  α := AlX
  obs := fun s => obsXG n fa fn ts ps s.heap.get?
  val := fun w => valX fn ts w
  says := fun w h => ∃ K : PySem.W.Frag, K.In h ∧ SaysX fa fn ts ps w K
  of := fun _ _ e => ⟨_, frG_in, e⟩
  keeps := fun _ _ _ ⟨K, hK, c⟩ k => ⟨K, PySem.W.Frag.In.keeps hK k, c⟩
theorem obsXG_eq {n : Nat} {fa : List Fa} {fn : List DefD} {ts : List Tab} {ps : List (PySem.W.Frag → Bool)} {g : Addr → Option Obj} {s : Shared} (h : ∀ a, g a = s.heap.get? a) : obsXG n fa fn ts ps g = (hookX n fa fn ts ps).obs s := by
  have e : g = s.heap.get? := funext h
  rw [e] <;> rfl
section
variable {fa : List Fa} {fn : List DefD} {ts : List Tab} {ps : List (PySem.W.Frag → Bool)} {w : World} {K : PySem.W.Frag}
theorem SaysX.t (c : SaysX fa fn ts ps w K) : SaysT fa fn ts w K := congrArg (fun z : AlX => z.1) c
theorem SaysX.p (c : SaysX fa fn ts ps w K) (i : Nat) {p : PySem.W.Frag → Bool} (h : ps[i]? = some p := by rfl) : p K = true :=
  List.all_eq_true.mp (congrArg (fun z : AlX => z.2) c) p (List.mem_of_getElem? h)
end
end
/-! ### match over texts -/
def isOne (z : Str) (ps : List Str) : Bool := ps.any fun p => decide (z = p)
structure PPat (X : Cx) (p : Pattern) (ps : List Str) : Prop where
  run : ∀ (pins : List (Addr × Obj)) (s : Shared) (σ : St) (H : Hp) (z : Str) (t : Tok) (Q : Option (List (Str × Value)) → Shared → Prop), Inv X pins σ H s →
    (∀ s', Inv X pins σ H s' → Q (if isOne z ps = true then some [] else none) s') → wpAny (model X.prog X.w) X.A (matchPattern p X.env (.str z t)) Q X.xe s
structure POr (X : Cx) (p : List Pattern) (ps : List Str) : Prop where
  run : ∀ (pins : List (Addr × Obj)) (s : Shared) (σ : St) (H : Hp) (z : Str) (t : Tok) (Q : Option (List (Str × Value)) → Shared → Prop), Inv X pins σ H s →
    (∀ s', Inv X pins σ H s' → Q (if isOne z ps = true then some [] else none) s') → wpAny (model X.prog X.w) X.A (matchFirst p X.env (.str z t)) Q X.xe s
def tCases : List (List Str × TS) → Str → TS
  | [], _ => fun D σ H => D.nx σ H
  | c :: r, z => fun D σ H => if isOne z c.1 = true then c.2 D σ H else tCases r z D σ H
structure PCs (X : Cx) (cs : List MatchCase) (tcs : List (List Str × TS)) : Prop where
  run : ∀ (pins : List (Addr × Obj)) (s : Shared) (σ : St) (H : Hp) (D : Ends) (z : Str) (t : Tok) (first : Bool), Inv X pins σ H s → tCases tcs z D σ H →
    wpAny (model X.prog X.w) X.A (matchCases cs X.env (.str z t) first) (SP X pins D) X.xe s
def tMatch (te : TE) (tcs : List (List Str × TS)) : TS := fun D σ H => te σ H fun x H1 => ∃ z, x = .str z ∧ tCases tcs z D σ H1
section
variable {X : Cx} {pos pos' : Pos}
theorem pat_str {x : Str} {j : Nat} : PPat X (.MatchValue (.Constant (.str x) j pos) pos') [x] := by
  refine ⟨fun pins s σ H z t Q I h => ?_⟩
  refine wpAny_matchPattern_Value (thn (pe_str.run pins s σ H (fun v H1 => v = .str x ∧ H1 = H) I ⟨rfl, rfl⟩) fun v s1 ⟨y, H1, I1, r1, e1, e2⟩ => ?_)
  subst e1 e2
  refine thn (op_eq pins s1 σ _ (.str z) (.str x) _ _ (fun c H2 => c = .bl (decide (V.str z = V.str x)) ∧ H2 = _) I1 ⟨t, rfl⟩ r1 ⟨rfl, rfl, rfl⟩) fun c s2 ⟨y, H2, I2, r2, e1, e2⟩ => ?_
  subst e1 e2
  cases r2
  refine wpAny_truthy_bool ?_
  have q := h s2 I2
  have e : isOne z [x] = decide (V.str z = V.str x) := by
    unfold isOne
    rw [List.any_cons, List.any_nil, Bool.or_false]
    exact decide_eq_decide.mpr ⟨fun e => by rw [e], fun e => V.str.inj e⟩
  rw [e] at q
  cases c : decide (V.str z = V.str x) with
  | true => rw [c] at q; exact q
  | false => rw [c] at q; exact q
theorem por_nil : POr X [] [] := ⟨fun pins s σ H z t Q I h => wpAny_matchFirst_nil (h s I)⟩
theorem por_cons {p : Pattern} {ps : List Pattern} {xs ys : List Str} (hp : PPat X p xs) (hr : POr X ps ys) : POr X (p :: ps) (xs ++ ys) := by
  refine ⟨fun pins s σ H z t Q I h => ?_⟩
  refine wpAny_matchFirst_cons (hp.run pins s σ H z t _ I fun s1 I1 => ?_)
  have e : isOne z (xs ++ ys) = (isOne z xs || isOne z ys) := List.any_append
  rw [e] at h
  cases c : isOne z xs with
  | true =>
    rw [c] at h
    exact h s1 I1
  | false =>
    rw [c] at h
    exact hr.run pins s1 σ H z t Q I1 fun s2 I2 => h s2 I2
theorem pat_or {ps : List Pattern} {zs : List Str} (h : POr X ps zs) (hn : namesOfAll (ps.take 1) = [] := by rfl) : PPat X (.MatchOr ps pos) zs := by
  refine ⟨fun pins s σ H z t Q I hq => ?_⟩
  refine wpAny_matchPattern_Or (h.run pins s σ H z t _ I fun s1 I1 => ?_)
  have q := hq s1 I1
  cases c : isOne z zs with
  | true =>
    rw [c] at q
    show Q (some ((namesOfAll (ps.take 1)).filterMap _)) s1
    rw [hn]
    exact q
  | false =>
    rw [c] at q
    exact q
theorem pcs_nil : PCs X [] [] := ⟨fun _ _ σ H _ _ _ _ I h => wpAny_matchCases_nil ⟨σ, H, I, h⟩⟩
theorem pcs_cons {p : Pattern} {ps : List Str} {body : List Stmt} {t : TS} {rest : List MatchCase} {tcs : List (List Str × TS)} (hp : PPat X p ps) (hb : PSs X body t) (hr : PCs X rest tcs) : PCs X (⟨p, none, body⟩ :: rest) ((ps, t) :: tcs) := by
  refine ⟨fun pins s σ H D z tk first I h => ?_⟩
  refine wpAny_matchCases_cons (hp.run pins s σ H z tk _ I fun s1 I1 => ?_)
  have h : if isOne z ps = true then t D σ H else tCases tcs z D σ H := h
  cases c : isOne z ps with
  | true =>
    rw [c] at h
    exact wpAny_assignInOrder_none (hb.run pins s1 σ H D I1 h)
  | false =>
    rw [c] at h
    exact hr.run pins s1 σ H D z tk false I1 h
theorem ps_match {e : Expr} {te : TE} {cs : List MatchCase} {tcs : List (List Str × TS)} (he : PE X e te) (hc : PCs X cs tcs) : PS X (.Match e cs pos) (tMatch te tcs) := by
  refine ⟨fun pins s σ H D I h => ?_⟩
  refine wpAny_Match (thn (he.run pins s σ H _ I h) fun v s1 ⟨x, H1, I1, r1, z, e1, q⟩ => ?_)
  subst e1
  obtain ⟨t, rfl⟩ := r1
  exact hc.run pins s1 σ H1 D z t true I1 q
/-! ### the truth of a list or tuple -/
def tTru (K : PySem.W.Frag) (ta : TE) : TT := fun σ H Q => ta σ H fun x H' => ∃ k, TruV K x H' k ∧ Q k H'
theorem pt_tru {a : Expr} {ta : TE} (ha : PE X a ta) (he : ∀ whole, isTrue a X.env whole = (do let v ← whole; standAt a.pos; holding [v] (truthy v)) := by intro _; rfl) : PT X a (tTru X.K ta) := pt_truth ha he
end
section
variable {σ : St} {H : Hp} {n : St → Hp → Prop} {r : VK} {b c : St → Hp → Prop} {Q : VK} {z : Str} {D : Ends}
theorem g_match {te : TE} {tcs : List (List Str × TS)} (h : te σ H fun x H1 => ∃ z, x = .str z ∧ tCases tcs z (Ends.mk n r b c) σ H1) : tMatch te tcs (Ends.mk n r b c) σ H := h
theorem g_mstr {R : Str → Prop} (h : R z) : ∃ z', V.str z = V.str z' ∧ R z' := ⟨z, rfl, h⟩
theorem g_case {ps : List Str} {t : TS} {tcs : List (List Str × TS)} (h : if isOne z ps = true then t D σ H else tCases tcs z D σ H) : tCases ((ps, t) :: tcs) z D σ H := h
theorem g_caseT {ps : List Str} {t : TS} {tcs : List (List Str × TS)} (e : isOne z ps = true) (h : t D σ H) : tCases ((ps, t) :: tcs) z D σ H := g_case (if_t e h)
theorem g_caseF {ps : List Str} {t : TS} {tcs : List (List Str × TS)} (e : isOne z ps = false) (h : tCases tcs z D σ H) : tCases ((ps, t) :: tcs) z D σ H := g_case (if_f e h)
theorem g_caseN (h : n σ H) : tCases [] z (Ends.mk n r b c) σ H := h
theorem g_truT {K : PySem.W.Frag} {a : Addr} {xs : List V} {R : Bool → Prop} (q : SqT K H a xs) (h : R (!xs.isEmpty)) : ∃ k, TruV K (.ref a) H k ∧ R k := ⟨_, .inr (.inl ⟨xs, q, rfl⟩), h⟩
theorem g_tru {K : PySem.W.Frag} {ta : TE} {R : Bool → Hp → Prop} (h : ta σ H fun x H' => ∃ k, TruV K x H' k ∧ R k H') : tTru K ta σ H R := h
end
/-! ### x(e, .., *y), x a local name that holds a def -/
def HeldS (P : Program) (w : World) (K : PySem.W.Frag) (mg : Str → Option Value) (base : Heap) (k : Nat) (f : Addr) (sp : Sp) : Prop :=
  ∃ (fd : FuncData) (ps : List Str), FnOk P w K mg base CX0 k f fd ps sp ∧ PySem.W.keepIn K (.ref f) = true ∧ Binds K fd ps []
def tCallH (P : Program) (w : World) (K : PySem.W.Frag) (mg : Str → Option Value) (base : Heap) (k : Nat) (tf : TE) (t : TA) : TE := fun σ H Q => tf σ H fun v H0 =>
  ∃ f sp, v = .ref f ∧ HeldS P w K mg base k f sp ∧ t σ H0 fun vs H1 => sp vs H1 Q (fun _ _ _ => False)
theorem pe_callH {X : Cx} {k : Nat} {x : Str} {p pos : Pos} {e : Expr} {es : List Expr} {tf : TE} {t : TA} (hr : Room k X.A) (hf : PE X (.Name x p) tf) (ha : PA X (e :: es) t)
    (he : starEach (e :: es) X.env = (false, eval e X.env) :: starEach es X.env := by rfl) (hst : (backTo pos (starEach es X.env)).any (·.1) = true := by rfl) :
    PE X (.Call (.Name x p) (e :: es) [] pos) (tCallH X.prog X.w X.K X.mg X.base k tf t) := by
  refine ⟨fun pins s σ H Q I h => ?_⟩
  refine wpAny_Call_Name_kw (thn (hf.run pins s σ H _ I h) fun u s1 ⟨v, H1, I1, r1, f, sp, ev, ⟨fd, ps, F, hk, hb⟩, ht⟩ => ?_)
  subst ev
  cases r1
  refine PySem.W.callWith_S2 (h₀ := X.base) I.ok.mod.kin hk (thn (ha.run pos pins s1 σ _ _ I1 ht) fun us s2 ⟨vs, H2, I2, r, q⟩ => ⟨I2.kIn, ?_⟩) he hst
  have q' : sp (vs ++ []) H2 Q (fun _ _ _ => False) := by rw [List.append_nil]; exact q
  exact run_fn (E := fun _ _ _ => False) (CX := CX0) F hr hb .nil (fun _ _ _ _ _ _ _ z => z.elim) I2 r q'
section
variable {σ : St} {H : Hp} {Q : VK}
theorem g_callH {P : Program} {w : World} {K : PySem.W.Frag} {mg : Str → Option Value} {base : Heap} {k : Nat} {tf : TE} {t : TA} (h : tf σ H fun v H0 => ∃ f sp, v = .ref f ∧ HeldS P w K mg base k f sp ∧ t σ H0 fun vs H1 => sp vs H1 Q (fun _ _ _ => False)) :
    tCallH P w K mg base k tf t σ H Q := h
theorem HeldS.of {P : Program} {w : World} {K : PySem.W.Frag} {mg : Str → Option Value} {base : Heap} {j k : Nat} {x : Str} {st : Stmt} {ps : List Str} {sp : Sp} (a : FA K mg x st ps) (F : FnOk P w K mg base CX0 j a.f a.fd ps sp) (h : j ≤ k) : HeldS P w K mg base k a.f sp :=
  ⟨a.fd, ps, F.mono h, a.F.kp, a.b⟩
/-- *y: a tuple's items -/
theorem g_starT {K : PySem.W.Frag} {te : TE} {t : TA} {R : List V → Hp → Prop} (h : te σ H fun x H1 => ∃ p xs, x = V.ref p ∧ SqT K H1 p xs ∧ t σ H1 fun ys H2 => R (xs ++ ys) H2) (mono : ∀ S S' : VK, (∀ v H', S v H' → S' v H') → te σ H S → te σ H S') : StX.tStar K te t σ H R := by
  refine mono _ _ ?_ h
  rintro v H' ⟨p, xs, e, q, k⟩
  exact ⟨p, xs, e, .inl q, k⟩
theorem g_starV {K : PySem.W.Frag} {i : Nat} {p : Addr} {xs : List V} {t : TA} {R : List V → Hp → Prop} (e : σ[i]? = some (some (.ref p))) (q : SqT K H p xs) (h : t σ H fun ys H2 => R (xs ++ ys) H2) : StX.tStar K (tVar i) t σ H R :=
  ⟨_, e, p, xs, rfl, .inl q, h⟩
end
/-! ### a comprehension over zip of two tuples -/
def tLcZ (K : PySem.W.Frag) (a b : Addr) (g : TG) (tt : TT) (te : TE) (vs : List Nat) : TE := tLc (fun _ H R => R (RZ.ItzT K a b) H) g tt te vs
section
variable {K : PySem.W.Frag} {σ : St} {H : Hp} {Q : VK} {g : TG} {tt : TT} {te : TE} {vs : List Nat} {a b : Addr} {xs ys : List V}
theorem g_lcZip {ta : TA} (h : ta σ H fun us H1 => ∃ a b xs ys, us = [.ref a, .ref b] ∧ SqT K H1 a xs ∧ SqT K H1 b ys ∧ tLcZ K a b g tt te vs σ H1 Q) (mono : ∀ S S' : List V → Hp → Prop, (∀ v H', S v H' → S' v H') → ta σ H S → ta σ H S') :
    tLc (RZ.iZipA K ta) g tt te vs σ H Q := by
  refine mono _ _ ?_ h
  rintro us H' ⟨a, b, xs, ys, e, q, q', k⟩
  exact ⟨a, b, xs, ys, e, .inr ⟨q, q', k⟩⟩
theorem g_lcZ (hx : SqT K H a xs) (hy : SqT K H b ys) (hl : xs.length = ys.length) (hz : xs.length ≤ 1000) (v : Nat → V)
    (step : ∀ i x y T H', xs[i]? = some x → ys[i]? = some y → Ex H H' → SqT K H' T [x, y] → ∀ S : VK, (∀ H3, Ex H' H3 → S (v i) H3) →
      g (.ref T) (wipe σ vs) H' fun σ2 H2 => wipe σ2 vs = wipe σ vs ∧ tt σ2 H2 fun b H3 => if b = true then te σ2 H3 S else False)
    (last : ∀ D H', H D = none → Ex H H' → H' D = some (.lst ((List.range xs.length).map v)) → Q (.ref D) H')
    (monoG : ∀ x σ1 H1 (N N' : St → Hp → Prop), (∀ σ2 H2, N σ2 H2 → N' σ2 H2) → g x σ1 H1 N → g x σ1 H1 N')
    (monoT : ∀ σ1 H1 (N N' : Bool → Hp → Prop), (∀ k H2, N k H2 → N' k H2) → tt σ1 H1 N → tt σ1 H1 N') : tLcZ K a b g tt te vs σ H Q := by
  intro D hD
  let Pv : Nat → Hp → Prop := fun i H' => Ex H H' ∧ H' D = some (.lst ((List.range i).map v))
  refine ⟨fun i m H' => m = xs.length - i ∧ i ≤ xs.length ∧ Pv i H', ⟨xs.length, rfl, Nat.zero_le _, Evl.Ex.new hD, upd_same⟩, ?_⟩
  rintro i m H' ⟨rfl, hi, e1, e2⟩
  have qx := Evl.ex_t e1 hx
  have qy := Evl.ex_t e1 hy
  by_cases hlt : i < xs.length
  · have h1 : xs[i]? = some xs[i] := List.getElem?_eq_getElem hlt
    have hlt2 : i < ys.length := by omega
    have h2 : ys[i]? = some ys[i] := List.getElem?_eq_getElem hlt2
    refine .inr ⟨⟨xs, ys, _, _, qx, qy, h1, h2⟩, Pv (i + 1), fun G p => ⟨xs.length - (i + 1), by omega, rfl, hlt, p⟩, fun u G y => ?_⟩
    obtain ⟨T, x', y', rfl, hT, rfl, f1, f2⟩ := y
    have eT : Ex H (upd H' T (.tup [x', y'])) := e1.trans (Evl.Ex.new hT)
    have hS : SqT K (upd H' T (.tup [x', y'])) T [x', y'] := SqT.of upd_same
    refine monoG _ _ _ _ _ ?_ (step i x' y' T _ (f1 xs qx) (f2 ys qy) eT hS (fun y H4 => ∃ acc, H4 D = some (.lst acc) ∧ acc.length < sizeLine ∧ Pv (i + 1) (upd H4 D (.lst (acc ++ [y])))) ?_)
    · rintro σ2 H2 ⟨w, k⟩
      refine ⟨w, monoT _ _ _ _ ?_ k⟩
      intro k H3 q
      cases k with
      | true => exact q
      | false => exact False.elim q
    · intro H3 e3
      have hD3 : H3 D = some (.lst ((List.range i).map v)) := e3 _ _ (Evl.Ex.new hT _ _ e2)
      refine ⟨_, hD3, ?_, Evl.Ex.mut (eT.trans e3) hD, ?_⟩
      · rw [List.length_map, List.length_range]
        exact Nat.lt_of_lt_of_le (Nat.lt_of_lt_of_le hlt hz) (by decide)
      · show upd H3 D _ D = some (.lst ((List.range (i + 1)).map v))
        rw [upd_same, List.range_succ, List.map_append]
        rfl
  · have e : i = xs.length := by omega
    subst e
    exact .inl ⟨⟨xs, ys, qx, qy, .inl (Nat.le_refl _)⟩, last D H' hD e1 e2⟩
theorem g_allL {bs : List Bool} (q : H a = some (.lst (bs.map V.bl))) (h : Q (.bl (bs.all id)) H) : rAll K [.ref a] H Q := ⟨a, bs, rfl, SqL.of q, h⟩
end
/-! ### t.index(x), whole numbers -/
def rTupIx (K : PySem.W.Frag) : V → List V → Hp → VK → Prop := fun x xs H Q => ∃ (p : Addr) (ys : List Int) (z : Int) (j : Nat), x = .ref p ∧ xs = [.int z] ∧ SqT K H p (ys.map V.int) ∧ ys[j]? = some z ∧ (∀ m, m < j → ys[m]? ≠ some z) ∧ Q (.int (j : Nat)) H
theorem flat_ints (ys : List Int) : (ys.map V.int).all flatV = true := by
  rw [List.all_map]
  exact List.all_eq_true.mpr fun _ _ => rfl
theorem mt_tupIx {X : Cx} : MtR X "tuple.index" (rTupIx X.K) := by
  intro pins s σ H x xs v us Q I rx rs h
  obtain ⟨p, ys, z, j, rfl, rfl, hq, hy, hno, q⟩ := h
  cases rx
  obtain ⟨u, rfl, t, rfl⟩ := vals1 rs
  obtain ⟨its, r, pl, hz⟩ := I.tuple hq
  obtain ⟨⟨cls, dd, dt, sl⟩, ho, hc, n, hd⟩ := pl
  simp only at hc hd
  subst hc
  subst hd
  have hl : its.toArray.size = ys.length := by rw [List.size_toArray, ← r.length, List.length_map]
  have hj : j < its.toArray.size := by rw [hl]; exact (List.getElem?_eq_some_iff.mp hy).1
  have at' : ∀ (m : Nat) (hm : m < its.toArray.size), ∃ y t', ys[m]? = some y ∧ its.toArray[m] = Value.int y t' := fun m hm => by
    have hm' : m < ys.length := by rw [← hl]; exact hm
    obtain ⟨w, hw, t', hw'⟩ := r.get (i := m) (x := .int ys[m]) (by simp [hm'])
    refine ⟨ys[m], t', List.getElem?_eq_getElem hm', ?_⟩
    have e := (List.getElem?_eq_some_iff.mp hw).2
    rw [← hw', ← e]
    simp
  refine call_meets PySem.F.slot_tuple_index ⟨_, ho, rfl⟩ PySem.F.entry_tuple_index (PySem.F.args_tuple_index_2 _ _) (TI.tuple_indexAt p its.toArray n dd sl (.int z t) (eqU (.int z)) j hj ?_ ?_)
    ⟨ho, fun w hw => mem_eqAt (x := .int z) ⟨t, rfl⟩ rfl r (flat_ints ys) w (by simpa using hw), ⟨.int (j : Nat), H, I.tok _, ⟨_, rfl⟩, q⟩⟩
  · obtain ⟨y, t', h1, h2⟩ := at' j hj
    rw [hy] at h1
    cases h1
    rw [h2]
    show (z == z) = true
    simp
  · intro m hm hmj
    obtain ⟨y, t', h1, h2⟩ := at' m hm
    rw [h2]
    show (y == z) = false
    refine beq_eq_false_iff_ne.mpr fun e => hno m hmj ?_
    rw [h1, e]
/-! a tuple whose object is known: it has no dict of its own -/
def TupD (H : Hp) (a : Addr) (xs : List V) : Prop := ∃ o : Obj, o.dict = none ∧ H a = some (.frz o (.tup xs))
theorem TupD.sq {K : PySem.W.Frag} {H : Hp} {a : Addr} {xs : List V} (h : TupD H a xs) : SqT K H a xs := by
  obtain ⟨o, _, h⟩ := h
  exact .inl (.inr ⟨o, h⟩)
theorem TupD.ex {H H' : Hp} {a : Addr} {xs : List V} (e : Ex H H') (h : TupD H a xs) : TupD H' a xs := by
  obtain ⟨o, n, h⟩ := h
  exact ⟨o, n, e _ _ h⟩
def r_tupleF (K : PySem.W.Frag) : List V → Hp → VK → Prop := fun xs H Q => ∃ p ys, xs = [.ref p] ∧ SqL K H p ys ∧ ∀ (l : Addr) (o : Obj), H l = none → o.dict = none → Q (.ref l) (upd H l (.frz o (.tup ys)))
theorem call_tupleF {X : Cx} : CallR X (.type "tuple") (r_tupleF X.K) := by
  intro pins s σ H xs us Q I r h
  obtain ⟨p, ys, rfl, hq, q⟩ := h
  obtain ⟨u, rfl, rx⟩ := vals1 r
  cases rx
  obtain ⟨its, r', pl, hz⟩ := I.list hq
  have hlen := r'.length
  refine call_tuple_list pl.isList (fun h' kp => ?_) (by simp only [List.size_toArray] <;> omega)
  have I1 : Inv X pins σ H { s with heap := h' } := I.kept (t' := s.toks) kp
  have I2 : Inv X pins σ (upd H h'.objs.size (.frz { cls := .type "tuple", data := .seq its.toArray } (.tup ys))) { s with heap := h'.push { cls := .type "tuple", data := .seq its.toArray } } :=
    I1.laid (t' := s.toks) (fun b o e => Heap.get?_push_of_some _ e) (Nat.le_refl _) (show ObjOk X.prog X.w _ _ _ (.frz _ (.tup ys)) from ⟨Heap.get?_push_size _ rfl, hz, its, r', IsTup.new _ _⟩)
  exact ⟨.ref h'.objs.size, _, I2, rfl, q _ _ (I1.hok.fresh (Nat.le_refl _)) rfl⟩
theorem g_tupleF {K : PySem.W.Frag} {H : Hp} {Q : VK} {a : Addr} {xs : List V} (q : SqL K H a xs) (h : ∀ p H', H p = none → Ex H H' → TupD H' p xs → Q (.ref p) H') : r_tupleF K [.ref a] H Q :=
  ⟨a, xs, rfl, q, fun p o hp ho => h p _ hp (Evl.Ex.new hp) ⟨o, ho, upd_same⟩⟩
def tBMT (r : V → List V → Hp → VK → Prop) (to : TE) (t : TA) : TE := fun σ H Q => to σ H fun x H1 => (∃ a xs, x = .ref a ∧ TupD H1 a xs) ∧ t σ H1 fun xs H2 => r x xs H2 Q
theorem pe_bmT {X : Cx} {o e : Expr} {es : List Expr} {to : TE} {t : TA} {name : Str} {apos cpos : Pos} {id : String} {r : V → List V → Hp → VK → Prop} (pa : PlainAttrs "tuple") (slot : Slot "tuple" name id) (hty : typeOf (.builtin id) = pure (.type "method_descriptor")) (hm : MtR X id r) (ho : PE X o to) (ha : PA X (e :: es) t)
    (hbase : attributeBase o name X.env (eval o X.env) = eval o X.env := by rfl)
    (hfew : ((backTo cpos (starEach (e :: es) X.env)).all (fun x => !x.1) && (backToKw cpos (keywordEach [] X.env)).all (fun x => x.1.isSome)
      && decide ((e :: es).length + ([] : List Keyword).length + (if ([] : List Keyword).isEmpty then 0 else 1) < 30)) = true := by rfl)
    (hline : (apos.endLine == cpos.line) = true := by rfl) (hs : starEach (e :: es) X.env = (false, eval e X.env) :: starEach es X.env := by rfl) (hplain : (backTo cpos (starEach es X.env)).any (·.1) = false := by rfl) :
    PE X (.Call (.Attribute o name apos) (e :: es) [] cpos) (tBMT r to t) := by
  refine ⟨fun pins s σ H Q I h => ?_⟩
  refine wpAny_Call_method_late hbase hfew hline rfl (thn (ho.run pins s σ H _ I h) fun v s1 ⟨x, H1, I1, r1, ⟨a, xs, ex, ob, od, hx⟩, q1⟩ => ?_)
  subst ex
  obtain rfl : v = Value.ref a := r1
  obtain ⟨g1, _, its, _, g2⟩ : s1.heap.get? a = some ob ∧ xs.length ≤ sizeLine ∧ ∃ its : List Value, Vals xs its ∧ IsTup s1.heap a its.toArray := I1.hok a _ hx
  refine ⟨"tuple", id, pa, slot, hty, g2.typeIs, fun b e => ?_, ?_⟩
  · cases e
    exact ⟨ob, g1, od⟩
  have hA := ha.run cpos pins s1 σ H1 _ I1 q1
  rw [hs] at hA ⊢
  refine Calls.callWith_builtin (by show (false || (backTo cpos (starEach es X.env)).any (·.1)) = false; rw [hplain] <;> rfl) (Calls.evalArgs_plain ?_)
  exact thn hA fun us s2 ⟨vs, H2, I2, r2, q2⟩ => hm pins s2 σ H2 (.ref a) vs _ us Q I2 rfl r2 q2
theorem g_bmT {σ : St} {H : Hp} {Q : VK} {i : Nat} {a : Addr} {xs : List V} {t : TA} {rr : V → List V → Hp → VK → Prop} (e : σ[i]? = some (some (.ref a))) (q : TupD H a xs) (h : t σ H fun ys H2 => rr (.ref a) ys H2 Q) : tBMT rr (tVar i) t σ H Q :=
  ⟨_, e, ⟨a, xs, rfl, q⟩, h⟩
/-! ### keys of a table of the top -/
def rInKD (K : PySem.W.Frag) (w : World) : R2 := fun x y H Q => ∃ (d : Addr) (z : Str) (r : Option Value), x = .str z ∧ y = .ref d ∧ (∃ es n, KDict K w d es n) ∧ PySem.W.nsIn K d z = some r ∧ Q (.bl r.isSome) H
theorem op_inKD {X : Cx} : OpR X (compareOp .In) (rInKD X.K X.w) := by
  intro pins s σ H x y v u Q I rx ry h
  obtain ⟨d, z, r, e1, e2, ⟨es, n, D⟩, e3, q⟩ := h
  exact op_in_kd D pins s σ H x y v u Q I rx ry ⟨z, r, e1, e2, e3, q⟩
section
variable {K : PySem.W.Frag} {w : World} {H : Hp} {Q : VK} {a : Addr} {x : Str}
theorem g_inKDy {v : V} (D : ∃ es n, KDict K w a es n) (d : KDct K w a x v) (h : Q (.bl true) H) : rInKD K w (.str x) (.ref a) H Q := by
  obtain ⟨es, n, u, e, _, e2, _⟩ := d
  exact ⟨a, x, _, rfl, rfl, D, e2, h⟩
theorem g_inKDn (D : ∃ es n, KDict K w a es n) (e : PySem.W.nsIn K a x = some none) (h : Q (.bl false) H) : rInKD K w (.str x) (.ref a) H Q := ⟨a, x, none, rfl, rfl, D, e, h⟩
theorem g_niTu {xs : List V} {v : V} (q : SqT K H a xs) (f1 : flatV v = true) (f2 : xs.all flatV = true) (k : Q (.bl (!inV v xs)) H) : rIn K true v (.ref a) H Q := ⟨a, xs, rfl, .inr q, f1, f2, k⟩
end
section
open PySem.W
section
variable {prog : Program} {w : World} {A : Around} {E : Value → Shared → Prop} {s : Shared} {T : String} {r d : Addr} {n : Nat} {P : Nat → Value → Prop} {OK : Heap → Prop}
theorem code_tuple_src {Q₁ : Value → Shared → Prop} (S : KdlSrc prog w T r d n P OK) (hT : (Value.type T == Value.type "tuple") = false) (hh : A.handled = none) (hok : OK s.heap) (hn : n ≤ sizeLine)
    (h : ∀ (h' : Heap) (tk : Nat) (acc : Array Value), (∀ b o, s.heap.get? b = some o → h'.get? b = some o) → ItemsOf P acc n →
      Q₁ (.ref h'.objs.size) { s with heap := h'.push { cls := .type "tuple", data := .seq acc }, toks := tk }) :
    codeAny (model prog w) A (.call (.builtin "tuple.__new__") ⟨[.type "tuple", .ref r], []⟩) (wants Q₁ E) s := by
  refine codeAny_of_tree ?_
  show wpAny _ A.in1 (do checkBuiltinCall "tuple.__new__" ⟨[.type "tuple", .ref r], []⟩; again (.builtin "tuple.__new__" ⟨[.type "tuple", .ref r], []⟩)) _ _ s
  refine wpAny_bind (wpAny_of_eq (F.newCall_tuple_1 _) (wpAny_pure ⟨plainId_quiet F.plain_tuple_new _, codeAny_builtin F.entry_tuple_new ?_⟩))
  rw [Around.under_plainId F.plain_tuple_new _]
  have hsub := sub_tuple_self
  have hinit := init_tuple_lookup
  have hmh := madeHere_tuple
  have hTI := S.type s hok
  have hh1 : A.in1.handled = none := hh
  wp_walk using wpAny_typeOf hTI, kdu_collect (A := A.in1) S hh1 hok hn
  intro h' tk acc hk hacc
  show wpAny _ _ (Builtin.Tuple.tupleExact acc.toList.toArray >>= fun v => ret v) _ _ _
  unfold Builtin.Tuple.tupleExact
  refine wpAny_bind (wpAny_newObj_type ?_ (by show acc.toList.toArray.size ≤ sizeLine; simp only [Array.toArray_toList]; rw [hacc.1]; exact hn))
  refine wpAny_pure ?_
  have e : acc.toList.toArray = acc := by simp
  rw [e]
  exact h h' tk acc hk hacc
theorem call_tuple_src {Q : Value → Shared → Prop} (S : KdlSrc prog w T r d n P OK) (hT : (Value.type T == Value.type "tuple") = false) (hh : A.handled = none) (hok : OK s.heap) (hn : n ≤ sizeLine)
    (hQ : ∀ (h' : Heap) (tk : Nat) (acc : Array Value), (∀ b o, s.heap.get? b = some o → h'.get? b = some o) → ItemsOf P acc n →
      Q (.ref h'.objs.size) { s with heap := h'.push { cls := .type "tuple", data := .seq acc }, toks := tk }) :
    wpAny (model prog w) A (call (.type "tuple") [.ref r]) Q E s := by
  refine callType_codes (Q₁ := fun obj s₁ => s₁.TypeIs obj "tuple" ∧ Q obj s₁) F.called_tuple (F.typeCall_tuple_1 _) F.entry_object_init
    (code_tuple_src (A := A.in1) S hT hh hok hn fun h' tk acc hk hacc => ⟨⟨_, Heap.get?_push_size _ rfl, rfl⟩, hQ h' tk acc hk hacc⟩) fun obj s₁ h₁ => ?_
  exact ⟨h₁.1, F.args_object_init_2 obj _, object_init_meets F.called_tuple.init.lookup F.called_tuple.made (by decide) prog w A.in1 _ s₁ ⟨h₁.1, rfl, h₁.2⟩⟩
end
/-! ### the keys of a table -/
def KeysL (K : PySem.W.Frag) (w : World) (a : Addr) (ks : List Str) : Prop := ∃ es n, KDict K w a es n ∧ es.toList.map keyS = ks.map some ∧ ks.length ≤ 1000
theorem keysD_ok {K : PySem.W.Frag} {w : World} {a : PySem.W.Frag → Addr} {ks : List Str} (d : ∃ es n, KDict K w (a K) es n) (h : keysD a ks K = true) : KeysL K w (a K) ks := by
  obtain ⟨es, n, d⟩ := d
  unfold keysD at h
  rw [d.at_] at h
  obtain ⟨h1, h2⟩ := He.ba h
  exact ⟨es, n, d, of_decide_eq_true h1, of_decide_eq_true h2⟩
theorem pd_at {α β : Type} {F : α → β → Prop} : ∀ {xs : List α} {ys : List β}, xs.length = ys.length → (∀ (i : Nat) (x : α) (y : β), xs[i]? = some x → ys[i]? = some y → F x y) → Paired F xs ys
  | [], [], _, _ => .nil
  | [], _ :: _, h, _ => by cases h
  | _ :: _, [], h, _ => by cases h
  | x :: xs, y :: ys, h, f => .cons (f 0 x y rfl rfl) (pd_at (by simpa using h) fun i a b e1 e2 => f (i + 1) a b (by simpa using e1) (by simpa using e2))
def r_tupleK (K : PySem.W.Frag) (w : World) : List V → Hp → VK → Prop := fun xs H Q => ∃ d ks, xs = [.ref d] ∧ KeysL K w d ks ∧ ∀ q, H q = none → Q (.ref q) (upd H q (.tup (ks.map V.str)))
theorem call_tupleK {X : Cx} (hc : X.calm = true) : CallR X (.type "tuple") (r_tupleK X.K X.w) := by
  intro pins s σ H xs us Q I r h
  obtain ⟨d, ks, rfl, ⟨es, n, D, hk, hl⟩, q⟩ := h
  obtain ⟨u, rfl, rx⟩ := vals1 r
  cases rx
  have e0 := I.kIn d _ D.at_
  have raw : s.heap.DictRaw d es n := ⟨_, e0, ⟨rfl, rfl, rfl⟩, rfl⟩
  have len : es.size = ks.length := by
    have := congrArg List.length hk
    simpa using this
  have big : ks.length ≤ sizeLine := Nat.le_trans hl (by decide)
  refine call_tuple_src (KdlSrc.rawDict D.low) (by decide) (I.ok.hd hc) raw (by rw [len]; exact big) fun h' tk acc kp hacc => ?_
  have I1 : Inv X pins σ H { s with heap := h', toks := tk } := I.kept (t' := tk) kp
  have vals : Vals (ks.map V.str) acc.toList := by
    refine pd_at (by have l1 := hacc.1; simp only [List.length_map, Array.length_toList]; omega) fun i x v e1 e2 => ?_
    obtain ⟨hi, ev⟩ := hacc.2 i v (by simpa using e2)
    have e3 : (es.toList.map keyS)[i]? = (ks.map some)[i]? := by rw [hk]
    rw [List.getElem?_map, List.getElem?_map] at e3
    rw [List.getElem?_map] at e1
    have e4 : es.toList[i]? = some es[i] := by simp [hi]
    rw [e4] at e3
    cases ek : ks[i]? with
    | none => rw [ek] at e1; cases e1
    | some z =>
      rw [ek] at e1 e3
      have ez : V.str z = x := Option.some.inj e1
      have e5 : keyS es[i] = some z := Option.some.inj e3
      rw [← ez, ev]
      unfold keyS at e5
      split at e5
      · next y t q' =>
        cases e5
        exact ⟨t, q'⟩
      · cases e5
  have I2 : Inv X pins σ (upd H h'.objs.size (.tup (ks.map V.str))) { s with heap := h'.push { cls := .type "tuple", data := .seq acc }, toks := tk } :=
    I1.laid (t' := tk) (fun b o e => Heap.get?_push_of_some _ e) (Nat.le_refl _) (show ObjOk X.prog X.w _ _ _ (.tup (ks.map V.str)) from ⟨by rw [List.length_map]; exact big, acc.toList, vals, by
      have e : acc.toList.toArray = acc := by simp
      rw [e]
      exact IsTup.new _ _⟩)
  exact ⟨.ref h'.objs.size, _, I2, rfl, q _ (I1.hok.fresh (Nat.le_refl _))⟩
theorem g_tupleK {K : PySem.W.Frag} {w : World} {H : Hp} {Q : VK} {a : Addr} {ks : List Str} (k : KeysL K w a ks) (h : ∀ p H', H p = none → Ex H H' → H' p = some (.tup (ks.map V.str)) → Q (.ref p) H') : r_tupleK K w [.ref a] H Q :=
  ⟨a, ks, rfl, k, fun p hp => h p _ hp (Evl.Ex.new hp) upd_same⟩
end
section
open LamX
/-- a lambda's words -/
structure LW where
  params : Arguments
  body : Expr
  scope : Scope
  pos : Pos
abbrev lamFd (q : Str) (L : LW) (cl : List (Str × Addr)) (dV doc pm : Value) (c : Addr) (ctv : Value) : FuncData := PySem.W.kdv_fn "<lambda>" q L.params (.expr L.body) L.scope cl dV doc pm (.ref c) ctv
/-- the object at f is the lambda -/
def LamO (f : Addr) (q : Str) (L : LW) (cl : List (Str × Addr)) (dV : Value) (c : Addr) : HO := .ext fun h => ∃ (doc pm ctv : Value), h.get? f = some ({ cls := .type "function", data := .func (lamFd q L cl dV doc pm c ctv) } : Obj)
def DfAt (H : Hp) (n : Option Int) (dV : Value) : Prop := match n with
  | none => dV = .none
  | some i => ∃ dt, dV = .ref dt ∧ H dt = some (.tup [.int i])
/-- the lambda stands at f -/
def LamAt (H : Hp) (f : Addr) (q : Str) (L : LW) (cl : List (Str × Addr)) (n : Option Int) : Prop :=
  ∃ (c : Addr) (dV : Value), H f = some (LamO f q L cl dV c) ∧ H c = some (CodeO c q) ∧ DfAt H n dV
theorem LamAt.keeps {H H' : Hp} {f : Addr} {q : Str} {L : LW} {cl : List (Str × Addr)} {n : Option Int} (h : LamAt H f q L cl n) (e : ∀ b o, H b = some o → (∀ xs, o ≠ .lst xs) → (∀ ps, o ≠ .tbl ps) → H' b = some o) : LamAt H' f q L cl n := by
  obtain ⟨c, dV, h1, h2, h3⟩ := h
  refine ⟨c, dV, e _ _ h1 (fun xs z => ?_) (fun xs z => ?_), e _ _ h2 (fun xs z => ?_) (fun xs z => ?_), ?_⟩
  · unfold LamO at z; cases z
  · unfold LamO at z; cases z
  · unfold CodeO at z; cases z
  · unfold CodeO at z; cases z
  · cases n with
    | none => exact h3
    | some i =>
      obtain ⟨dt, e1, e2⟩ := h3
      exact ⟨dt, e1, e _ _ e2 (fun xs z => nomatch z) (fun xs z => nomatch z)⟩
theorem LamAt.ex {H H' : Hp} {f : Addr} {q : Str} {L : LW} {cl : List (Str × Addr)} {n : Option Int} (h : LamAt H f q L cl n) (e : Ex H H') : LamAt H' f q L cl n := h.keeps fun b o q _ _ => e b o q
theorem LamAt.fr {H H' : Hp} {r f : Addr} {q : Str} {L : LW} {cl : List (Str × Addr)} {n : Option Int} {xs : List V} (h : LamAt H f q L cl n) (hr : H r = some (.lst xs)) (e : Fr r H H') : LamAt H' f q L cl n :=
  h.keeps fun b o q n1 _ => e b o (fun z => by rw [z, hr] at q; exact n1 _ (Option.some.inj q).symm) q
theorem LamAt.extN {H H' : Hp} {f : Addr} {q : Str} {L : LW} {cl : List (Str × Addr)} {n : Option Int} (h : LamAt H f q L cl n) (e : ExtN H H') : LamAt H' f q L cl n := h.keeps fun b o q _ n2 => e b o q n2
section
variable {X : Cx} {pins : List (Addr × Obj)} {σ : L2.St} {H : Hp} {s : Shared}
theorem inv_lam {q : Str} {L : LW} {cl : List (Str × Addr)} {dV doc pm ctv : Value} {c : Addr} {o : Obj} {t' : Nat} (I : Inv X pins σ H s) (ho : o = { cls := .type "function", data := .func (lamFd q L cl dV doc pm c ctv) }) :
    Inv X pins σ (L2.upd H s.heap.objs.size (LamO s.heap.objs.size q L cl dV c)) { s with heap := s.heap.push o, toks := t' } := by
  subst ho
  refine I.laid (a := s.heap.objs.size) (fun b u e => Heap.get?_push_of_some _ e) (Nat.le_refl _) ?_
  have e : (s.heap.push ({ cls := .type "function", data := .func (lamFd q L cl dV doc pm c ctv) } : Obj)).get? s.heap.objs.size = some ({ cls := .type "function", data := .func (lamFd q L cl dV doc pm c ctv) } : Obj) := Heap.get?_push_size _ rfl
  exact ⟨⟨doc, pm, ctv, e⟩, ⟨_, e⟩, fun h1 h2 ⟨d, p, t, z⟩ st => ⟨d, p, t, st _ z⟩⟩
theorem lamO_ne {f c : Addr} {q : Str} {L : LW} {cl : List (Str × Addr)} {dV : Value} (ps : Array Value) : LamO f q L cl dV c ≠ .tbl ps := fun z => by
  unfold LamO at z
  cases z
/-- the lambda's object is made: its code object is new, or found in the table -/
theorem lamV_tail {T : List (Addr × Str)} {c P : Addr} {L : LW} {dV : Value} {E : Value → Shared → Prop} {Q : Value → Shared → Prop} (I : Inv X pins σ H s) (TB : TabB X.base X.mg c P) (hcode : X.env.code = .ref c)
    (hm : (P, X.env.qual ++ "<lambda>") ∈ T) (hu : ∀ p ∈ T, p.1 = P → p.2 = X.env.qual ++ "<lambda>") (hT : Tabs T H) (hfree : ∀ y ∈ L.scope.names, y.2 = .free → ∃ c, X.env.cells.lookup y.1 = some c)
    (h : ∀ (f c' : Addr) (H1 : Hp) (s' : Shared), Inv X pins σ H1 s' → ExtN H H1 → Tabs T H1 → H f = none → H1 f = some (LamO f (X.env.qual ++ "<lambda>") L (cloFrom X.env.cells L.scope.names []) dV c') → H1 c' = some (CodeO c' (X.env.qual ++ "<lambda>")) → Q (.ref f) s') :
    wpAny (model X.prog X.w) X.A (makeTail "<lambda>" (X.env.qual ++ "<lambda>") L.params (.expr L.body) L.scope X.env dV .none none L.pos L.pos.line) Q E s := by
  obtain ⟨ps, hP, ht, ha⟩ := hT _ hm
  have bP : s.heap.BuiltinsAt X.mg P := TB.bm.keeps I.bk
  have hP' : s.heap.get? P = some { cls := .none, data := .fields ps } := I.hok P _ hP
  cases hc : codeAmong L.pos ps.toList with
  | none =>
    refine PySem.W.kdv_makeTail (mg := X.mg) (c := c) (P := P) (ps := ps) (closure_ok hfree) I.ok.glob (I.mod.glob.keeps I.bk) hcode (TB.code.keeps I.bk) hP' ht hc TB.gP bP fun c' ctv doc h' tk hx hge hlt hrec htb => ?_
    obtain ⟨c2, oc, vs, t, e2, hoc, hd, hv⟩ := hrec
    cases e2
    have nC : H c' = none := I.hok.fresh hge
    have I1 := inv_table (t' := tk) (more := #[rawInt L.pos.line, rawInt L.pos.col, .ref c']) (h' := h') I hP (fun b o hb e => hx b o hb e) htb hge ⟨oc, vs, t, hoc, hd, hv⟩
    have hE : ExtN H (L2.upd (L2.upd H P (.tbl (ps ++ #[rawInt L.pos.line, rawInt L.pos.col, .ref c']))) c' (CodeO c' (X.env.qual ++ "<lambda>"))) := fun b o e n => by
      rw [upd_ne (ne_of_none e nC), upd_ne (fun z => n ps (Option.some.inj (e.symm.trans (by rw [z]; exact hP))))]
      exact e
    have eL : (ps ++ #[rawInt L.pos.line, rawInt L.pos.col, .ref c']).toList = ps.toList ++ [rawInt L.pos.line, rawInt L.pos.col, .ref c'] := by simp
    have T1 : Tabs T (L2.upd (L2.upd H P (.tbl (ps ++ #[rawInt L.pos.line, rawInt L.pos.col, .ref c']))) c' (CodeO c' (X.env.qual ++ "<lambda>"))) := fun p hp => by
      by_cases hb : p.1 = P
      · rw [hu p hp hb, hb]
        refine ⟨_, by rw [upd_ne (ne_of_none hP nC), upd_same], by rw [eL]; exact PySem.TriplesOk_snoc _ _ _ _ ht, fun p' cv hcv => ?_⟩
        rw [eL] at hcv
        rcases among_app _ ht hcv with z | z
        · obtain ⟨c0, e1, e2⟩ := ha p' cv z
          exact ⟨c0, e1, hE _ _ e2 codeO_ne⟩
        · exact ⟨c', z, upd_same⟩
      · obtain ⟨ps', a1, a2, a3⟩ := hT p hp
        refine ⟨ps', by rw [upd_ne (ne_of_none a1 nC), upd_ne hb]; exact a1, a2, fun p' cv hcv => ?_⟩
        obtain ⟨c0, e1, e2⟩ := a3 p' cv hcv
        exact ⟨c0, e1, hE _ _ e2 codeO_ne⟩
    have nF := I1.hok.fresh (Nat.le_refl _)
    have I2 := inv_lam (q := X.env.qual ++ "<lambda>") (L := L) (cl := cloFrom X.env.cells L.scope.names []) (dV := dV) (c := c') (t' := tk) (doc := doc) (pm := (X.mg "__name__").getD .none) (ctv := ctv) I1 rfl
    refine h h'.objs.size c' _ _ I2 (fun b o e n => ?_) (T1.ext fun b o e => ?_) (I.hok.fresh (Nat.le_trans hge (Nat.le_of_lt hlt))) upd_same ?_
    · have e1 := hE b o e n
      exact (upd_ne (ne_of_none e1 nF)).trans e1
    · exact (upd_ne (ne_of_none e nF)).trans e
    · exact (upd_ne (Nat.ne_of_lt hlt)).trans upd_same
  | some cv =>
    obtain ⟨c', e, hco⟩ := ha L.pos cv hc
    subst e
    refine PySem.W.kdv_makeTailHit (mg := X.mg) (c := c) (P := P) (ps := ps) (closure_ok hfree) I.ok.glob (I.mod.glob.keeps I.bk) hcode (TB.code.keeps I.bk) hP' ht hc bP fun ctv doc h' tk hx hsz => ?_
    have I1 : Inv X pins σ H { s with heap := h', toks := tk } := I.kept hx
    have nF : H h'.objs.size = none := I1.hok.fresh (Nat.le_refl _)
    have I2 := inv_lam (q := X.env.qual ++ "<lambda>") (L := L) (cl := cloFrom X.env.cells L.scope.names []) (dV := dV) (c := c') (t' := tk) (doc := doc) (pm := (X.mg "__name__").getD .none) (ctv := ctv) I1 rfl
    refine h h'.objs.size c' _ _ I2 (fun b o e n => ?_) (hT.ext fun b o e => ?_) nF upd_same ?_
    · exact (upd_ne (ne_of_none e nF)).trans e
    · exact (upd_ne (ne_of_none e nF)).trans e
    · exact (upd_ne (ne_of_none hco nF)).trans hco
end
/-- the names of a lambda without names that the maker's list N holds: its parameters stand outside of N -/
structure LamS1 (N : List Str) (sc scope : Scope) : Prop where
  kind : scope.kind = .function
  co : scope.isCoroutine = false
  gen : scope.isGenerator = false
  own : ∀ y ∈ scope.names, y.2 ≠ .cell ∧ (y.2 = .local → y.1 ∉ N)
  free : ∀ y ∈ scope.names, y.2 = .free → sc.names.lookup y.1 = some .cell ∨ sc.names.lookup y.1 = some .free
def lamS1B (N : List Str) (sc scope : Scope) : Bool :=
  decide (scope.kind = .function) && !scope.isCoroutine && !scope.isGenerator && scope.names.all fun y => !decide (y.2 = .cell) && (!decide (y.2 = .local) || !decide (y.1 ∈ N)) && (!decide (y.2 = .free) || decide (sc.names.lookup y.1 = some .cell) || decide (sc.names.lookup y.1 = some .free))
theorem lamS1_by {N : List Str} {sc scope : Scope} (h : lamS1B N sc scope = true) : LamS1 N sc scope := by
  unfold lamS1B at h
  simp only [Bool.and_eq_true, Bool.or_eq_true, Bool.not_eq_true', decide_eq_true_eq, decide_eq_false_iff_not, List.all_eq_true] at h
  obtain ⟨⟨⟨h1, h2⟩, h3⟩, h4⟩ := h
  refine ⟨h1, h2, h3, fun y hy => ⟨(h4 y hy).1.1, fun e => (h4 y hy).1.2.elim (fun z => absurd e z) id⟩, fun y hy e => ?_⟩
  rcases (h4 y hy).2 with (z | z) | z
  · exact absurd e z
  · exact .inl z
  · exact .inr z
theorem LamS1.has {X : Cx} {scope : Scope} (L : LamS1 X.N X.env.scope scope) (ok : X.Ok) : ∀ y ∈ scope.names, y.2 = .free → ∃ c, X.env.cells.lookup y.1 = some c := fun y hy e => by
  rcases L.free y hy e with k | k
  · exact ok.has _ (.inl k)
  · exact ok.has _ (.inr k)
section
variable {X : Cx} {pins : List (Addr × Obj)} {σ : L2.St} {H HZ : Hp} {s s1 : Shared}
theorem lam_start3 {A : Around} {outer : List Env} {E : XK} {scope : Scope} {f c' : Addr} {h₁ : Heap} {tk : Nat} {m : Str → Option Value} (I : Inv X pins σ H s) (L : LamS1 X.N X.env.scope scope) (e0 : Env0 X.prog X.w X.K X.mg X.base A outer s1 HZ) (hd : A.handled = none)
    (un : Un (frs X.stack) [] H HZ s.heap s1.heap) (hns : h₁.Ns s1.heap.objs.size m) (kp : ∀ b o, s1.heap.get? b = some o → h₁.get? b = some o) :
    Inv (lamCx X A outer s1 HZ E scope f c') [] σ HZ { s1 with heap := h₁, toks := tk } := by
  have hfree := L.has I.ok
  have cm : ∀ {y c}, (cloFrom X.env.cells scope.names []).lookup y = some c → X.env.cells.lookup y = some c := fun {y c} e => by
    rcases cloFrom_mem (PySem.mem_of_lookup e) with hm | ⟨h1, h2⟩
    · cases hm
    · obtain ⟨c1, hc⟩ := hfree _ h1 rfl
      have hc : X.env.cells.lookup y = some c1 := hc
      have e2 : c = c1 := by
        rw [h2, hc] <;> rfl
      rw [e2]
      exact hc
  have look : ∀ {y}, scope.names.lookup y = some .free → ∃ c, (cloFrom X.env.cells scope.names []).lookup y = some c := fun {y} hl => by
    have hy : (y, NameKind.free) ∈ scope.names := PySem.mem_of_lookup hl
    exact mem_lookup (cloFrom_has (cells := X.env.cells) (acc := []) hy)
  have cellK : ∀ {c : Addr} {v : Option Value}, H c = none → s.heap.IsCell c v → h₁.IsCell c v := fun {c v} n ⟨o, ho, hd⟩ => by
    obtain ⟨sl, q⟩ := un.any ho n (by simp)
    exact ⟨_, kp _ _ q, hd⟩
  have noA : ∀ b : Addr, b ∉ (lamCx X A outer s1 HZ E scope f c').ex := fun b z => absurd (show b ∈ ([] : List Addr) from z) (by simp)
  refine ⟨⟨e0.mod, L.kind, rfl, rfl, Nat.le_refl _, fun y z c e1 e2 => I.ok.inj y z c (cm e1) (cm e2), fun y hy => ?_, fun y c z _ => ?_, fun _ => hd, Around.frames_deeper e0.frames, .inr ⟨rfl, rfl⟩, fun b z => absurd z (noA b), e0.bs, e0.bsz, fun b _ _ => noA b,
      fun b z => absurd z (noA b), e0.funs, e0.frf⟩,
    rfl, e0.bare, Un.kept kp, ⟨_, hns, fun i y v e1 e2 e3 => ?_⟩, fun y c e => ?_, e0.hok.fresh (Nat.le_refl _), fun y c e => ?_, fun q hq => absurd (show q ∈ ([] : List (Addr × Obj)) ++ [] from hq) (by simp), e0.hok.kept kp, I.len⟩
  · have hy : scope.names.lookup y = some .cell ∨ scope.names.lookup y = some .free := hy
    rcases hy with hy | hy
    · exact absurd rfl (L.own _ (PySem.mem_of_lookup hy)).1
    · exact look hy
  · have z : false = true := z
    cases z
  · have e3 : Vis scope y := e3
    have e1 : X.N[i]? = some y := e1
    rcases e3 with k | k | k
    · exact absurd (List.mem_of_getElem? e1) ((L.own _ (PySem.mem_of_lookup k)).2 rfl)
    · exact absurd rfl (L.own _ (PySem.mem_of_lookup k)).1
    · obtain ⟨m, hn, hl⟩ := I.loc
      have hvis : Vis X.env.scope y := (L.free _ (PySem.mem_of_lookup k) rfl).elim (fun k => .inr (.inl k)) (fun k => .inr (.inr k))
      obtain ⟨w', r, q⟩ := hl i y v e1 e2 hvis
      obtain ⟨c2, h2⟩ := look k
      refine ⟨w', r, .inr ⟨.inr k, c2, h2, ?_⟩⟩
      have c1 := cm h2
      rcases q with ⟨k', _⟩ | ⟨_, c3, e', z⟩
      · have k' : X.env.scope.names.lookup y = some .local := k'
        rcases L.free _ (PySem.mem_of_lookup k) rfl with k2 | k2 <;> rw [show X.env.scope.names.lookup y = _ from k2] at k' <;> cases k'
      · rw [c1] at e'
        cases e'
        exact cellK (I.freeC y _ c1) z
  · obtain ⟨w', z⟩ := I.cell y c (cm e)
    exact ⟨w', cellK (I.freeC y c (cm e)) z⟩
  · obtain ⟨v, o, ho, hd⟩ := I.cell y c (cm e)
    exact un.free c o ho (I.freeC y c (cm e)) (by simp)
/-- how the lambda's call without arguments binds -/
def LBinds (L : LW) (n : Option Int) : Prop := match n with
  | none => ∀ (q : Str) (cl : List (Str × Addr)) (doc pm : Value) (c : Addr) (ctv : Value), bindArgs (lamFd q L cl .none doc pm c ctv) ⟨[], []⟩ = pure []
  | some _ => ∃ a : Str, L.scope.names.lookup a = some .local ∧ ∀ (q : Str) (cl : List (Str × Addr)) (dt : Addr) (doc pm : Value) (c : Addr) (ctv u : Value),
      ∃ k, bindArgs (lamFd q L cl (.ref dt) doc pm c ctv) ⟨[], []⟩ = seqItems? (.ref dt) >>= k ∧ k (some #[u]) = pure [(a, u)]
theorem lam_binds {M : Model} {A : Around} {L : LW} {n : Option Int} {q : Str} {cl : List (Str × Addr)} {dV doc pm ctv : Value} {c : Addr} {P : List (Str × Value) → Shared → Prop} {E : Value → Shared → Prop} (I : HOk X.prog X.w HZ s1.heap) (b : LBinds L n) (d : DfAt HZ n dV)
    (h : ∀ binds : List (Str × Value), (∀ y ∈ binds, L.scope.names.lookup y.1 = some .local) → P binds s1) : wpAny M A (bindArgs (lamFd q L cl dV doc pm c ctv) ⟨[], []⟩) P E s1 := by
  cases n with
  | none =>
    have e : dV = .none := d
    subst e
    rw [b q cl doc pm c ctv]
    exact wpAny_pure (h [] fun y hy => absurd hy (by simp))
  | some i =>
    obtain ⟨dt, e, hd⟩ := d
    subst e
    obtain ⟨a, ha, b⟩ := b
    obtain ⟨vs, t, r⟩ := (show ∃ vs : List Value, s1.heap.IsTuple dt vs.toArray ∧ Vals [V.int i] vs from by
      have z := I dt _ hd
      obtain ⟨_, vs, r, t⟩ := z
      exact ⟨vs, t, r⟩)
    obtain ⟨o, ho, hc, hdat⟩ := t
    cases r with
    | cons r1 r2 =>
      rename_i u us
      cases r2
      obtain ⟨k, e1, e2⟩ := b q cl dt doc pm c ctv u
      rw [e1]
      obtain ⟨m, hdat⟩ := hdat
      refine wpAny_bind (wpAny_seqItems ho hdat ?_)
      rw [e2]
      exact wpAny_pure (h _ fun y hy => by
        rw [List.mem_singleton] at hy
        rw [hy]
        exact ha)
end

/-! ### the rules -/
def tLamV (T : List (Addr × Str)) (q : Str) (L : LW) (cl : List (Str × Addr)) (n : Option Int) : TE := fun _ H Q => Tabs T H ∧ ∀ (f : Addr) (H1 : Hp), ExtN H H1 → Tabs T H1 → H f = none → LamAt H1 f q L cl n → Q (.ref f) H1
section
variable {X : Cx}
theorem mf_none {M : Model} {A : Around} {E : Value → Shared → Prop} {Q : Value → Shared → Prop} {s : Shared} {name qual : Str} {params : Arguments} {body : FuncBody} {scope : Scope} {env : Env} {pos : Pos} {fl : Nat} (h : wpAny M A (makeTail name qual params body scope env .none .none none pos fl) Q E s) :
    wpAny M A (makeFunction name qual params body scope env [] [] [] pos fl) Q E s := by
  rw [makeFunction_eq]
  simp only [List.zip_nil_right, List.filterMap_nil, List.isEmpty_nil, if_true, pure_bind]
  exact h
theorem mf_one {M : Model} {A : Around} {E : Value → Shared → Prop} {Q : Value → Shared → Prop} {s : Shared} {name qual : Str} {params : Arguments} {body : FuncBody} {scope : Scope} {env : Env} {pos : Pos} {fl : Nat} {v : Value}
    (h : wpAny M A (newTextTuple [v]) (fun dV s' => wpAny M A (makeTail name qual params body scope env dV .none none pos fl) Q E s') E s) :
    wpAny M A (makeFunction name qual params body scope env [v] [] [] pos fl) Q E s := by
  rw [makeFunction_eq]
  simp only [List.zip_nil_right, List.filterMap_nil, List.isEmpty_nil, List.isEmpty_cons, if_true, pure_bind, Bool.false_eq_true, if_false]
  exact wpAny_bind (wpAny_mono h (fun _ _ z => z) fun _ _ z => z)
/-- lambda: body -/
theorem pe_lamV {T : List (Addr × Str)} {c P : Addr} {e : Expr} (L : LW) (he : e = .Lambda L.params L.body L.scope L.pos) (TB : TabB X.base X.mg c P) (hcode : X.env.code = .ref c) (hm : (P, X.env.qual ++ "<lambda>") ∈ T) (hu : ∀ p ∈ T, p.1 = P → p.2 = X.env.qual ++ "<lambda>")
    (S : LamS1 X.N X.env.scope L.scope) (hdef : defaultsOf L.params X.env = ([], [])) : PE X e (tLamV T (X.env.qual ++ "<lambda>") L (cloFrom X.env.cells L.scope.names []) none) := by
  subst he
  refine ⟨fun pins s σ H Q I h => ?_⟩
  obtain ⟨hT, h⟩ := h
  refine PySem.W.kla_eval hdef (mf_none ?_)
  exact lamV_tail I TB hcode hm hu hT (S.has I.ok) fun f c' H1 s' I1 eN T1 nf hf hc => ⟨.ref f, H1, I1, rfl, h f H1 eN T1 nf ⟨c', .none, hf, hc, rfl⟩⟩
/-- lambda a=i: body -/
theorem pe_lamV1 {T : List (Addr × Str)} {c P : Addr} {e : Expr} {i : Int} {j : Nat} {dpos : Pos} (L : LW) (he : e = .Lambda L.params L.body L.scope L.pos) (TB : TabB X.base X.mg c P) (hcode : X.env.code = .ref c) (hm : (P, X.env.qual ++ "<lambda>") ∈ T) (hu : ∀ p ∈ T, p.1 = P → p.2 = X.env.qual ++ "<lambda>")
    (S : LamS1 X.N X.env.scope L.scope) (hdef : defaultsOf L.params X.env = ([eval (.Constant (.int i) j dpos) X.env], [])) : PE X e (tLamV T (X.env.qual ++ "<lambda>") L (cloFrom X.env.cells L.scope.names []) (some i)) := by
  subst he
  refine ⟨fun pins s σ H Q I h => ?_⟩
  obtain ⟨hT, h⟩ := h
  rw [arm_eval_Lambda, hdef]
  show wpAny _ _ (do let dv ← evalAll [eval (.Constant (.int i) j dpos) X.env]; let kdv ← holding dv (evalAllOpt []); makeFunction "<lambda>" (X.env.qual ++ "<lambda>") L.params (.expr L.body) L.scope X.env dv kdv [] L.pos L.pos.line) _ _ s
  have hd : wpAny (model X.prog X.w) X.A (evalAll [eval (.Constant (.int i) j dpos) X.env]) (fun dv s' => ∃ u, dv = [u] ∧ L2.RelV (.int i) u ∧ Inv X pins σ H s') X.xe s := by
    show wpAny _ _ (do let v ← eval (.Constant (.int i) j dpos) X.env; let r ← holding [v] (evalAll []); pure (v :: r)) _ _ s
    refine wpAny_bind (wpAny_mono ((pe_int (X := X) (i := i) (j := j) (pos := dpos)).run pins s σ H (fun v H1 => v = .int i ∧ H1 = H) I ⟨rfl, rfl⟩) (fun u s' z => ?_) fun _ _ z => z)
    obtain ⟨v, H1, I1, r, e1, e2⟩ := z
    subst e1 e2
    exact wpAny_bind (wpAny_holding (wpAny_pure (wpAny_pure ⟨u, rfl, r, I1⟩)))
  refine wpAny_bind (wpAny_mono hd (fun dv s' z => ?_) fun _ _ z => z)
  obtain ⟨u, e1, r, I1⟩ := z
  subst e1
  refine wpAny_bind (wpAny_holding (wpAny_pure (mf_one ?_)))
  refine PySem.wpAny_newTextTuple ?_
  have nD := I1.hok.fresh (Nat.le_refl _)
  have I2 : Inv X pins σ (L2.upd H s'.heap.objs.size (.tup [.int i])) { s' with heap := s'.heap.push { cls := .type "tuple", data := .seq [u].toArray } } := by
    refine I1.laid (t' := s'.toks) (fun b o e => Heap.get?_push_of_some _ e) (Nat.le_refl _) ?_
    exact ⟨by show 1 ≤ sizeLine; rw [sizeLine_eq]; omega, [u], .cons r .nil, ⟨_, Heap.get?_push_size _ rfl, rfl, _, rfl⟩⟩
  have T2 : Tabs T (L2.upd H s'.heap.objs.size (.tup [.int i])) := hT.ext fun b o e => (upd_ne (ne_of_none e nD)).trans e
  exact lamV_tail (dV := .ref s'.heap.objs.size) I2 TB hcode hm hu T2 (S.has I2.ok) fun f c' H1 s2 I3 eN T1 nf hf hc => ⟨.ref f, H1, I3, rfl, h f H1 (fun b o e n => eN b o ((upd_ne (ne_of_none e nD)).trans e) n) T1 (by
      have z := nf
      by_cases hb : f = s'.heap.objs.size
      · rw [hb]; exact nD
      · rw [upd_ne hb] at z; exact z) ⟨c', _, hf, hc, _, rfl, eN _ _ upd_same (fun ps z => nomatch z)⟩⟩
end
/-- what a lambda does when it is called (without arguments) -/
structure LDoes (X : Cx) (k : Nat) (L : LW) (n : Option Int) (t : XK → TE) : Prop where
  S : LamS1 X.N X.env.scope L.scope
  b : LBinds L n
  body : ∀ (A : Around) (outer : List Env) (s : Shared) (H : Hp) (E : XK) (f c' : Addr), Room k (A.deeper (lamEnv X L.scope s.heap.objs.size f c')) → PE (lamCx X A outer s H E L.scope f c') L.body (t E)
section
variable {X : Cx} {pins : List (Addr × Obj)} {σ : L2.St} {H HZ : Hp} {s s1 : Shared}
/-- x(), in the def that got the lambda -/
theorem pe_actV {CXg : CXT} {Eg : XK} {Ng : List Str} {qg : Str} {sg : Scope} {g f : Addr} {cdg : Value} {L : LW} {nd : Option Int} {k i : Nat} {a : Str} {pn : List (Addr × Obj)} {xe : Value → Shared → Prop} {W : WX} {t : XK → TE} {p1 p2 : Pos}
    (I : Inv X pins σ H s) (D : LDoes X k L nd t)
    (tk : Takes ((cxOf CXg X.prog X.w X.K X.mg X.base Ng qg sg g cdg X.A X.stack s H Eg).tr pn xe) W) (hr : Room (k + 1) (X.A.deeper (envOfC qg sg s.heap.objs.size g cdg)))
    (hN : Ng[i]? = some a) (hv : Vis sg a) (hd : (a == ("__debug__" : Str)) = false := by decide) (hcd : (a == ("__classdict__" : Str)) = false := by decide) :
    PE ((cxOf CXg X.prog X.w X.K X.mg X.base Ng qg sg g cdg X.A X.stack s H Eg).tr pn xe) (.Call (.Name a p1) [] [] p2)
      (fun σZ HZ Q => σZ[i]? = some (some (.ref f)) ∧ LamAt HZ f (X.env.qual ++ "<lambda>") L (cloFrom X.env.cells L.scope.names []) nd ∧ t (WE W σZ) σ HZ Q) := by
  refine ⟨fun pinsZ sZ σZ HZ Q IZ h => ?_⟩
  obtain ⟨hs, hc, ht⟩ := h
  refine wpAny_Call_Name_kw (thn ((pe_var (pos := p1) (i := i) hN hv hd hcd).run pinsZ sZ σZ HZ (fun v H1 => v = .ref f ∧ H1 = HZ) IZ ⟨.ref f, hs, rfl, rfl⟩) fun u s1 ⟨v, H1, I1, r1, q1⟩ => ?_)
  obtain ⟨ev, eH⟩ := q1
  subst ev
  rw [eH] at I1
  obtain rfl : u = Value.ref f := r1
  obtain ⟨c', dV, hf, hco, hdf⟩ := hc
  obtain ⟨⟨doc, pm, ctv, of1⟩, _, _⟩ := I1.hok f _ hf
  refine PySem.W.callWith_F0 ⟨_, _, _, _, of1⟩ ?_
  have un : Un (frs X.stack) [] H HZ s.heap s1.heap := I1.base
  obtain ⟨⟨oc, vs, tq, hoc, hdc, hvc⟩, _, _⟩ := I1.hok c' _ hco
  have rc : codeAny (model X.prog X.w) (X.A.deeper (envOfC qg sg s.heap.objs.size g cdg)) (.call (.ref f) ⟨[], []⟩) (CR (L2.CX X.prog X.w) (envOfC qg sg s.heap.objs.size g cdg :: X.stack) X.prog X.w HZ s1 Q (WE W σZ)) s1 := by
    refine PySem.W.kla_callFunE hr.depth of1 rfl D.S.co D.S.gen rfl ⟨c', oc, vs, tq, rfl, hoc, hdc, hvc⟩ ?_
    refine lam_binds (X := X) I1.hok D.b hdf fun binds hloc => ?_
    refine wpAny_newFunctionEnv (fun y hy => (D.S.own y hy).1) hloc (fun h₁ hns hsb => ⟨I1.nolimit.fresh _ hsb, ?_⟩) D.S.kind
    show codeAny _ _ (.expr L.body (lamEnv X L.scope s1.heap.objs.size f c')) _ _
    have kp : ∀ b o, s1.heap.get? b = some o → h₁.get? b = some o := fun b o e => hsb.extBut b o (Nat.ne_of_lt (Heap.lt_size e)) (Heap.get?_push_of_some _ e)
    have J : Inv (lamCx X (X.A.deeper (envOfC qg sg s.heap.objs.size g cdg)) (envOfC qg sg s.heap.objs.size g cdg :: X.stack) s1 HZ (WE W σZ) L.scope f c') [] σ HZ { s1 with heap := h₁, toks := s1.toks + binds.length } :=
      lam_start3 I D.S I1.env0 hr.hd un hns kp
    refine PySem.W.kla_codeExpr (wpAny_mono ((D.body _ _ s1 HZ (WE W σZ) f c' (hr.deeper _)).run [] _ _ HZ Q J ht) (fun v s' hq => ?_) fun e s' hq => hq)
    obtain ⟨w', H', J', rv, q⟩ := hq
    exact ⟨w', H', J'.os, J'.bare, J'.base, J'.hok, rv, q⟩
  have hx : PassesAt (L2.CX X.prog X.w) ((cxOf CXg X.prog X.w X.K X.mg X.base Ng qg sg g cdg X.A X.stack s H Eg).tr pn xe) σZ (WE W σZ) := passAt tk σZ
  refine wpAny_call (codeAny_mono rc fun r s' hq => ?_)
  cases r with
  | error e => exact hx pinsZ HZ s1 e s' I1 hq
  | ok fl =>
    cases fl with
    | ret u => exact I1.after hq
    | next => exact False.elim hq
    | brk => exact False.elim hq
    | cont => exact False.elim hq
end
/-- the def that calls what it got (LA: the lambda stands where it stood; tl: what it does) -/
def GivesV (X : Cx) (Ng : List Str) (x : Str) (sg : Scope) (g : Addr) (cdg : Value) (bg : List Stmt) (a : Str) (TT : (Hp → Prop) → (XK → Hp → VK → Prop) → Hp → VK → Prop) (kg : Nat) : Prop :=
  ∀ (f : Addr) (LA : Hp → Prop) (s : Shared) (H : Hp) (Q : VK) (tl : XK → Hp → VK → Prop), Room kg (X.A.deeper (envOfC x sg s.heap.objs.size g cdg)) →
    (∀ (W : WX) (pn : List (Addr × Obj)) (xe : Value → Shared → Prop) (p1 p2 : Pos), Takes ((cxOf C8.CX0 X.prog X.w X.K X.mg X.base Ng x sg g cdg X.A X.stack s H C8.E0).tr pn xe) W →
      PE ((cxOf C8.CX0 X.prog X.w X.K X.mg X.base Ng x sg g cdg X.A X.stack s H C8.E0).tr pn xe) (.Call (.Name a p1) [] [] p2) (fun σZ HZ Q => σZ[0]? = some (some (.ref f)) ∧ LA HZ ∧ tl (WE W σZ) HZ Q)) →
    TT LA tl H Q → ∃ t, PSs (cxOf C8.CX0 X.prog X.w X.K X.mg X.base Ng x sg g cdg X.A X.stack s H C8.E0).nox bg t ∧ t { nx := fun _ H' => Q .non H', rt := Q } (L2.start Ng [.ref f]) H
/-- the lambdas that a call may hand on: each with what it does -/
def LAll (X : Cx) (k : Nat) (LL : List (LW × Option Int × (XK → TE))) : Prop := ∀ p ∈ LL, LDoes X k p.1 p.2.1 p.2.2
theorem lall_nil {X : Cx} {k : Nat} : LAll X k [] := fun p h => absurd h (by simp)
theorem lall_cons {X : Cx} {k : Nat} {L : LW} {n : Option Int} {t : XK → TE} {r : List (LW × Option Int × (XK → TE))} (h : LDoes X k L n t) (hr : LAll X k r) : LAll X k ((L, n, t) :: r) := fun p hp => by
  rcases List.mem_cons.mp hp with e | e
  · rw [e]; exact h
  · exact hr p e
def tCallLam (q : Str) (cells : List (Str × Addr)) (LL : List (LW × Option Int × (XK → TE))) (TT : (Hp → Prop) → (XK → Hp → VK → Prop) → Hp → VK → Prop) (te : TE) : TE := fun σ H Q => te σ H fun v H1 =>
  ∃ (j : Nat) (f : Addr) (L : LW) (n : Option Int) (t : XK → TE), LL[j]? = some (L, n, t) ∧ v = .ref f ∧ LamAt H1 f q L (cloFrom cells L.scope.names []) n ∧
    TT (fun H' => LamAt H' f q L (cloFrom cells L.scope.names []) n) (fun E H' Q' => t E σ H' Q') H1 Q
section
variable {X : Cx}
/-- x(e), e a lambda of the maker's -/
theorem pe_callLam {LL : List (LW × Option Int × (XK → TE))} {TT : (Hp → Prop) → (XK → Hp → VK → Prop) → Hp → VK → Prop} {x a qual : Str} {g : Addr} {k : Nat} {params : Arguments} {bg : List Stmt} {sg : Scope} {fd : FuncData} {Ng : List Str} {e : Expr} {te : TE} {p pos : Pos}
    (hg : Gl X x) (hm : X.mg x = some (.ref g)) (F : FunD X.K x qual params bg sg [] [] g fd) (hb : L2.Binds X.K fd [a] []) (Sg : FnScope Ng [a] sg) (hNg : Ng[0]? = some a) (hva : Vis sg a) (hq : qual = x)
    (hG : ∀ cdv, GivesV X Ng x sg g cdv bg a TT (k + 1)) (hr : Room (k + 2) X.A) (hL : LAll X k LL) (he : PE X e te)
    (hst : starEach [e] X.env = [(false, eval e X.env)] := by rfl) (hpl : (backTo pos (starEach [] X.env)).any (·.1) = false := by rfl)
    (hdb : (x == ("__debug__" : Str)) = false := by decide) (hd : (a == ("__debug__" : Str)) = false := by decide) (hcd : (a == ("__classdict__" : Str)) = false := by decide) :
    PE X (.Call (.Name x p) [e] [] pos) (tCallLam (X.env.qual ++ "<lambda>") X.env.cells LL TT te) := by
  subst hq
  refine ⟨fun pins s σ H Q I h => ?_⟩
  refine wpAny_Call_Name_kw (ld_glob I hg hm ?_ hdb)
  have ha : PA X [e] (tCons te tNil) := pa_cons he pa_nil hst
  refine PySem.W.callWith_K (h₀ := X.base) I.ok.mod.kin F.kp (thn (ha.run pos pins s σ H (fun vs H1 => match vs with
    | [v] => ∃ (j : Nat) (f : Addr) (L : LW) (n : Option Int) (t : XK → TE), LL[j]? = some (L, n, t) ∧ v = .ref f ∧ LamAt H1 f (X.env.qual ++ "<lambda>") L (cloFrom X.env.cells L.scope.names []) n ∧
        TT (fun H' => LamAt H' f (X.env.qual ++ "<lambda>") L (cloFrom X.env.cells L.scope.names []) n) (fun E H' Q' => t E σ H' Q') H1 Q
    | _ => False) I h) fun us s1 hh => ?_) hst hpl
  obtain ⟨vs, H1, I1, r1, hh⟩ := hh
  obtain ⟨v, ev⟩ : ∃ v, vs = [v] := by
    match vs, hh with
    | [v], _ => exact ⟨v, rfl⟩
  subst ev
  obtain ⟨j, f, L, n, t, hj, e1, hf, hq⟩ := hh
  subst e1
  refine ⟨I1.kIn, ?_⟩
  cases r1 with
  | cons rv rn =>
    rename_i u us'
    cases rn
    obtain rfl : u = Value.ref f := rv
    obtain ⟨oc, od, dV, kV, doc, pm, an, cdv, ct, osl, rfl, lk, hcg, _, _⟩ := F.ex
    have rc : codeAny (model X.prog X.w) X.A (.call (.ref g) ⟨[.ref f], []⟩) (CR C8.CX0 X.stack X.prog X.w H1 s1 Q C8.E0) s1 := by
      have b := hb s1 [.ref f] I1.kIn rfl
      refine run_ofS (N := Ng) (ps := [a]) (us := [.ref f]) (vs := [.ref f]) lk hcg Sg hr I1.env0 b (.cons rfl .nil) rfl fun hr' => ?_
      have D := hL _ (List.mem_of_getElem? hj)
      obtain ⟨t', ht', hq'⟩ := hG cdv f (fun H' => LamAt H' f (X.env.qual ++ "<lambda>") L (cloFrom X.env.cells L.scope.names []) n) s1 H1 Q (fun E H' Q' => t E σ H' Q') hr'
        (fun W pn xe p1 p2 tk => pe_actV (i := 0) I1 D tk hr' hNg hva hd hcd) hq
      exact ⟨t', ht'.nox, hq'⟩
    refine wpAny_call (codeAny_mono rc fun r s2 hq => ?_)
    cases r with
    | error e => exact (show False from hq).elim
    | ok fl =>
      cases fl with
      | ret u => exact I1.after hq
      | next => exact False.elim hq
      | brk => exact False.elim hq
      | cont => exact False.elim hq
end
end
section
open LamX
/-! ### an error class over TimeError over ValueError -/
structure ErrC (K : PySem.W.Frag) (C : Addr) : Prop where
  x : PySem.W.excIn K C [.type "ValueError", .type "Exception", .type "BaseException", .type "object"] "ValueError.__new__" = true
  kp : PySem.W.keepIn K (.ref C) = true
  b : PySem.W.subIn K (.ref C) (.type "BaseException") = some true
  t : PySem.W.typeIn K (.ref C) = some (.type "type")
  e : ExcC K C
theorem errB_ok {C : PySem.W.Frag → Addr} {K : PySem.W.Frag} (h : errB C K = true) : ErrC K (C K) := by
  unfold errB at h
  simp only [Bool.and_eq_true, decide_eq_true_eq] at h
  obtain ⟨h1, h2, h3, h4, h5, h6, h7, h8, h9, h10, h11⟩ := h
  exact ⟨h1, h2, h3, h4, h5, h6, h3, h7, h8, h9, h10, h11⟩
structure Kits (K : PySem.W.Frag) (cs : List Addr) : Prop where
  k : ∀ c ∈ cs, ∀ d ∈ cs, PySem.W.kitOne K (.ref c) (.ref d) = some (decide (c = d))
  nd : cs.Nodup
theorem kits_ok {Cs : List (PySem.W.Frag → Addr)} {K : PySem.W.Frag} (h : kitsB Cs K = true) (h2 : apartB Cs K = true) : Kits K (Cs.map fun C => C K) := by
  refine ⟨fun c hc d hd => ?_, of_decide_eq_true h2⟩
  obtain ⟨C, hC, e⟩ := List.mem_map.mp hc
  obtain ⟨D, hD, e2⟩ := List.mem_map.mp hd
  subst e e2
  exact of_decide_eq_true (List.all_eq_true.mp (List.all_eq_true.mp h C hC) D hD)
theorem nodup_ix {α : Type} {c : α} : ∀ {cs : List α} {i j : Nat}, cs.Nodup → cs[i]? = some c → cs[j]? = some c → i = j
  | [], _, _, _, h, _ => by simp at h
  | a :: r, 0, 0, _, _, _ => rfl
  | a :: r, 0, j + 1, nd, h1, h2 => by
    have e : a = c := Option.some.inj h1
    exact absurd (List.mem_of_getElem? (show r[j]? = some a by rw [e]; exact h2)) (List.nodup_cons.mp nd).1
  | a :: r, i + 1, 0, nd, h1, h2 => by
    have e : a = c := Option.some.inj h2
    exact absurd (List.mem_of_getElem? (show r[i]? = some a by rw [e]; exact h1)) (List.nodup_cons.mp nd).1
  | a :: r, i + 1, j + 1, nd, h1, h2 => congrArg Nat.succ (nodup_ix (List.nodup_cons.mp nd).2 h1 h2)
theorem Kits.at {K : PySem.W.Frag} {cs : List Addr} (k : Kits K cs) {i j : Nat} {c d : Addr} (hi : cs[i]? = some c) (hj : cs[j]? = some d) : PySem.W.kitOne K (.ref c) (.ref d) = some (decide (i = j)) := by
  rw [k.k c (List.mem_of_getElem? hi) d (List.mem_of_getElem? hj)]
  refine congrArg some (decide_eq_decide.mpr ⟨fun e => ?_, fun e => ?_⟩)
  · subst e
    exact nodup_ix k.nd hi hj
  · subst e
    rw [hi] at hj
    exact Option.some.inj hj
/-- raise X('..') of such a class -/
theorem ps_err {X : Cx} {x m : Str} {j : Nat} {p p2 pos pos2 : Pos} {C : Addr} {W : WX} (hc : X.calm = true) (tk : Takes X W) (gC : X.mg x = some (.ref C)) (e : ErrC X.K C) (hg : Gl X x) (hdb : (x == ("__debug__" : Str)) = false := by decide) :
    PS X (.Raise (some (.Call (.Name x p) [.Constant (.str m) j p2] [] pos)) none pos2) (fun _ σ H => W (.ref C) none σ H) :=
  ps_raise hc tk (pmk_own PySem.F.excBase_ValueError e.x gC e.kp (raises_own e.b e.t) hg hdb)
/-- what leaves a callee leaves the caller -/
theorem passU {X : Cx} {E : XK} (tk : Takes X (fun cls d _ H => E cls d H)) : Passes (L2.CX X.prog X.w) X E := passes_call tk fun _ _ _ _ h => h
/-! ### isinstance of a caught error, its class told by the reading -/
def rIsX (K : PySem.W.Frag) (a : Addr) (cls : Value) (d : Option Addr) : List V → Hp → VK → Prop := fun xs H Q => ∃ (D : Addr) (c : Addr) (b : Bool), cls = .ref D ∧ d = none ∧ ExcC K D ∧ xs = [.ref a, .ref c] ∧ PySem.W.kitOne K (.ref D) (.ref c) = some b ∧ Q (.bl b) H
theorem call_isX {X : Cx} {a : Addr} {cls : Value} {d : Option Addr} {oe : Obj} {pn : List (Addr × Obj)} (hz : Zc cls d oe) (hf : ∃ vs, oe.data = .fields vs) : CallR (X.suite a ((a, oe) :: pn)) (.builtin "isinstance") (rIsX X.K a cls d) := by
  intro pins s σ H xs us Q I r h
  obtain ⟨D, c, b, e1, e2, C, e3, e4, q⟩ := h
  subst e1 e2
  exact call_isE C hz hf pins s σ H xs us Q I r ⟨.ref c, .ref c, b, e3, fun u (hu : u = .ref c) => hu, e4, q⟩
/-! ### xs.count(y) of flat values -/
def rCntF (K : PySem.W.Frag) : V → List V → Hp → VK → Prop := fun x xs H Q => ∃ (p : Addr) (ys : List V) (y : V), x = .ref p ∧ xs = [y] ∧ SqL K H p ys ∧ flatV y = true ∧ ys.all flatV = true ∧ Q (.int ((ys.countP fun z => eqV z y : Nat) : Int)) H
theorem cnt_eqU {y : V} : ∀ {xs : List V} {us : List Value}, Vals xs us → xs.all flatV = true → us.countP (eqU y) = xs.countP fun z => eqV z y
  | _, _, .nil, _ => rfl
  | x :: xs, v :: us, .cons r t, f => by
    rw [List.all_cons, Bool.and_eq_true] at f
    rw [List.countP_cons, List.countP_cons, cnt_eqU t f.2, eqU_of r f.1]
theorem mt_countF {X : Cx} : MtR X "list.count" (rCntF X.K) := by
  intro pins s σ H x xs v us Q I rx rxs h
  obtain ⟨p, ys, y, rfl, rfl, hs, fy, fys, q⟩ := h
  cases rx
  obtain ⟨u, rfl, ru⟩ := rxs.one
  obtain ⟨its, rv, ⟨⟨cls, dd, data, sl⟩, n, ho, hc, hdn, hd⟩, hlen⟩ := I.list hs
  simp only at hc hd
  subst hc hd
  refine call_meets PySem.F.slot_list_count ⟨_, ho, rfl⟩ PySem.F.entry_list_count (PySem.F.args_list_count_2 _ _)
    (SeqAt.list_countAt p its.toArray n dd sl u (eqU y)) ⟨ho, fun y' hy => mem_eqAt ru fy rv fys y' (by simpa using hy), ?_⟩
  refine ⟨.int _, H, I.tok _, ⟨s.toks, ?_⟩, q⟩
  show Value.int ((its.toArray.toList.countP (eqU y) : Nat) : Int) s.toks = _
  rw [show its.toArray.toList = its from rfl, cnt_eqU rv fys]
/-! ### first, *others = xs -/
def gStar (K : PySem.W.Frag) (t : TGs) : TG := fun v σ H Q => ∃ a x r, v = .ref a ∧ SqL K H a (x :: r) ∧ ∀ l, H l = none → t [x, .ref l] σ (L2.upd H l (.lst r)) Q
section
variable {prog : Program} {w : World} {A : Around} {s : Shared}
theorem walks_rest {it l : Addr} {items : Array Value} (hh : A.handled = none) (hne : l ≠ it) : WalksS prog w A it [it, l] [it] (fun a b => a = b) (items.size - 1) (fun i v => items[i + 1]? = some v)
    (fun i s => s.heap.IsListIter it l (i + 1) ∧ s.heap.IsList l items ∧ i + 1 ≤ max 1 items.size) where
  sub := by
    intro b hb
    rw [List.mem_singleton] at hb
    rw [hb]
    exact List.mem_cons_self
  grefl := fun _ => rfl
  gtrans := fun _ _ _ h1 h2 => h1.trans h2
  frame := fun i s h' tk ⟨h1, h2, h3⟩ _ k => by
    obtain ⟨o1, e1, r1⟩ := h1
    obtain ⟨o2, e2, r2⟩ := h2
    exact ⟨⟨o1, k it (by simp) _ e1, r1⟩, ⟨o2, k l (by simp) _ e2, r2⟩, h3⟩
  item := fun i s Q E hi ⟨h1, h2, h3⟩ hQ => by
    have lt : i + 1 < items.size := by omega
    refine wpAny_pyNext_list_item h1 h2 (x := items[i + 1]) (by simp [lt]) fun h' hit hs => ?_
    exact hQ _ _ (by simp [lt]) ⟨hit, h2.extBut hs.extBut hne, by omega⟩ ⟨fun b o hb e => hs.extBut b o (by simpa using hb) e, rfl, rfl, rfl, Nat.le_refl _⟩
  done := fun s Q E ⟨h1, h2, h3⟩ hQ => by
    refine wpAny_pyNext_list_end hh h1 h2 (by simp; omega) fun h' he => ?_
    exact hQ _ ⟨fun b o hb e => he b o (by simpa using hb) e, rfl, rfl, rfl, Nat.le_refl _⟩
  self := fun i s Q E ⟨h1, _, _⟩ hQ => wpAny_pyIter_listiter h1 hQ
theorem unpack_star {l : Addr} {x : Value} {r : List Value} {E : Value → Shared → Prop} {Q : List Value → Shared → Prop} (hh : A.handled = none) (hl : s.heap.IsList l (x :: r).toArray) (hz : r.length ≤ sizeLine)
    (hQ : ∀ (h' : Heap) (tk : Tok), (∀ b o, s.heap.get? b = some o → h'.get? b = some o) → Q [x, .ref h'.objs.size] { s with heap := h'.push { cls := .type "list", data := .seq r.toArray }, toks := tk }) :
    wpAny (model prog w) A (unpackItems (.ref l) 2 (some 1)) Q E s := by
  have hlt : l ≠ s.heap.objs.size := by obtain ⟨o, ho, _⟩ := hl; exact Nat.ne_of_lt (Heap.lt_size ho)
  unfold unpackItems
  refine wpAny_bind ?_
  unfold notIterableAtAll
  refine wpAny_bind (wpAny_specialOf hl.typeIs PySem.slot_list_iter.lookup ?_)
  refine wpAny_pure ?_
  simp only [Bool.false_eq_true, if_false]
  refine wpAny_bind (wpAny_holding (wpAny_pyIter_list hl ?_))
  refine wpAny_bind (wpAny_holding (PySem.W.kun_draw hlt 1 0 _ _ ⟨_, Heap.get?_push_size _ rfl, rfl, rfl⟩ (hl.push _) (by simp) fun h₁ hit₁ hs₁ => ?_))
  rw [if_neg (by simp)]
  have hl₁ : h₁.IsList l (x :: r).toArray := (hl.push _).extBut hs₁.extBut hlt
  have hz1 : h₁.objs.size = s.heap.objs.size + 1 := by rw [hs₁.1, Heap.size_push]
  refine wpAny_bind (wpAny_holding ?_)
  refine wpAny_collect_iter (hn := by simpa using hz) (.inr (.inr (.inl rfl))) (walks_rest (A := A.in1) (items := (x :: r).toArray) hh hlt) (fun i s' h => h.1.typeIs) ⟨hit₁, hl₁, by simp⟩ (fun b hb => ?_) List.mem_cons_self fun s' acc hm ha => ?_
  · show b < h₁.objs.size
    have z : l < s.heap.objs.size := by obtain ⟨o, ho, _⟩ := hl; exact Heap.lt_size ho
    rcases List.mem_cons.mp hb with e | e
    · rw [e, hz1]; exact Nat.lt_succ_self _
    · rw [List.mem_singleton] at e
      rw [e, hz1]; exact Nat.lt_succ_of_lt z
  · have ea : acc.toList = r := by
      obtain ⟨e1, e2⟩ := ha
      refine List.ext_getElem? fun j => ?_
      cases hj : acc.toList[j]? with
      | none =>
        have z : acc.size ≤ j := by simpa using hj
        rw [e1] at z
        simp at z
        simp [z]
      | some v =>
        have z := e2 j v (by simpa using hj)
        simpa using z.symm
    rw [ea]
    show wpAny _ _ (if r.length < 2 - 1 - 1 then _ else _) _ _ s'
    rw [if_neg (by omega)]
    show wpAny _ _ (do let z ← newList (r.take (r.length - 0)); pure (List.take 1 (List.drop 0 (x :: r)) ++ [z] ++ r.drop (r.length - 0))) _ _ s'
    rw [Nat.sub_zero, List.take_length, List.drop_length]
    obtain ⟨hp, g, d, t, os⟩ := s'
    obtain ⟨k1, k2, k3, k4, k5⟩ := hm
    dsimp only at k1 k2 k3 k4
    subst k2 k3 k4
    refine wpAny_bind (wpAny_newList ?_)
    refine wpAny_pure ?_
    exact hQ hp t fun b o e => k1 b o (fun z => by
      rw [List.mem_singleton] at z
      rw [z] at e
      exact absurd (Heap.lt_size e) (Nat.lt_irrefl _)) (hs₁.extBut b o (Nat.ne_of_lt (Heap.lt_size e)) (Heap.get?_push_of_some _ e))
end
theorem pg_star {X : Cx} {e1 e2 : Expr} {k : Nat} {p pos : Pos} {t : TGs} (hc : X.calm = true) (h : PGs X [e1, e2] t)
    (hn : (assignEach [e1, .Starred e2 p] X.env).map (·.2) = (assignEach [e1, e2] X.env).map (·.2) := by rfl) (hl : (assignEach [e1, .Starred e2 p] X.env).length = 2 := by rfl) (hst : (assignEach [e1, .Starred e2 p] X.env).findIdx? (·.1) = some 1 := by rfl) :
    PG X (.Tuple [e1, .Starred e2 p] k pos) (gStar X.K t) := by
  refine ⟨fun pins s σ H v u Q I r hw => ?_⟩
  obtain ⟨a, x, xs, e0, hq, hw⟩ := hw
  subst e0
  cases r
  obtain ⟨its, rv, pl, hz⟩ := I.list hq
  have hl' : s.heap.IsList a its.toArray := by
    obtain ⟨o, m, e, c, d, q⟩ := pl
    exact ⟨o, e, c, m, q⟩
  cases rv with
  | cons r1 r2 =>
    rename_i u us
    rw [PyProof.Rows.assign_Tuple]
    refine wpAny_bind (wpAny_standAt ?_)
    unfold unpack
    rw [hl, hst, hn]
    have hz' : us.length ≤ sizeLine := by
      have z2 := r2.length
      simp at hz
      omega
    refine wpAny_bind (wpAny_holding (unpack_star (I.ok.hd hc) hl' hz' fun h' tk hx => ?_))
    have I1 : Inv X pins σ H { s with heap := h', toks := tk } := I.kept hx
    have nF := I1.hok.fresh (Nat.le_refl _)
    have I2 : Inv X pins σ (L2.upd H h'.objs.size (.lst xs)) { s with heap := h'.push { cls := .type "list", data := .seq us.toArray }, toks := tk } := by
      refine I1.laid (t' := tk) (fun b u e => Heap.get?_push_of_some _ e) (Nat.le_refl _) ?_
      exact ⟨by rw [r2.length]; exact hz', us, 0, r2, Heap.get?_push_size _ rfl⟩
    exact h.run pins _ σ _ [x, .ref h'.objs.size] [u, .ref h'.objs.size] Q I2 (.cons r1 (.cons rfl .nil)) (hw _ nF)
/-! ### a def whose code object is told -/
theorem fnC {P : Program} {w : World} {K : PySem.W.Frag} {mg : Str → Option Value} {base : Heap} {x qual : Str} {params : Arguments} {body : List Stmt} {scope : Scope} {f : Addr} {fd : FuncData} {CX : CXT} {N ps : List Str} {k : Nat} {sp : Sp} {p : He.Defn}
    (F : FunD K x qual params body scope [] [] f fd) (hf : He.fAd K p = f) (S : FnScope N ps scope) (len : ∀ vs H Q E, sp vs H Q E → vs.length = ps.length)
    (hbody : ∀ (A : Around) (outer : List Env) (s : Shared) (H : Hp) (vs : List V) (Q : VK) (E : XK), Room k (A.deeper (envOfC qual scope s.heap.objs.size f (.ref (He.cT K p).1))) → sp vs H Q E →
      ∃ t, PSs (cxOf CX P w K mg base N qual scope f (.ref (He.cT K p).1) A outer s H E) body t ∧ t { nx := fun _ H' => Q .non H', rt := Q } (start N vs) H) : FnOk P w K mg base CX (k + 1) f fd ps sp := by
  obtain ⟨oc, od, dV, kV, doc, pm, an, cdv, ct, osl, rfl, lk, hcd, _, _⟩ := F.ex
  obtain ⟨c, rfl⟩ := He.codeIn_ref hcd
  have e : He.codeOf K p = c := He.codeOf_eq (by rw [hf]; exact lk) rfl
  have e2 : (He.cT K p).1 = c := e
  rw [e2] at hbody
  exact fn_of lk hcd S len fun A outer s H vs Q E hr hsp => hbody A outer s H vs Q E hr hsp

/-! ### methods of texts, with names -/
def rStrSplit : V → List V → Hp → VK → Prop := fun x xs H Q => ∃ a b, x = .str a ∧ xs = [.str b] ∧ (b.length == 0) = false ∧ a.length + 2 ≤ sizeLine ∧ rNewStrs (Txt.split a b) H Q
def rStrPart : V → List V → Hp → VK → Prop := fun x xs H Q => ∃ a b, x = .str a ∧ xs = [.str b] ∧ (b.length == 0) = false ∧ a.length ≤ sizeLine ∧
    ∀ p, H p = none → Q (.ref p) (L2.upd H p (.tup [.str (Txt.partition a b).1, .str (Txt.partition a b).2.1, .str (Txt.partition a b).2.2]))
def rStrJoin (K : PySem.W.Frag) : V → List V → Hp → VK → Prop := fun x xs H Q => ∃ a p, ∃ ys : List Str, x = .str a ∧ xs = [.ref p] ∧ (SqL K H p (ys.map V.str) ∨ SqT K H p (ys.map V.str)) ∧
    (ys.map (·.length)).sum + ys.length * a.length ≤ 16777216 ∧ Q (.str (Txt.join a ys)) H
def rStrRemP : V → List V → Hp → VK → Prop := fun x xs H Q => ∃ a b, x = .str a ∧ xs = [.str b] ∧ a.length ≤ sizeLine ∧ Q (.str (Txt.removeprefix a b)) H
def rIntStr : List V → Hp → VK → Prop := fun xs H Q => ∃ a n, xs = [.str a] ∧ PySem.intText? a = some n ∧ a.length ≤ 640 ∧ Q (.int n) H
section
variable {X : Cx}
theorem mtSplit : MtR X "str.split" rStrSplit := mt_split
theorem mtPart : MtR X "str.partition" rStrPart := mt_partition
theorem mtJoin : MtR X "str.join" (rStrJoin X.K) := mt_join
theorem mtRemP : MtR X "str.removeprefix" rStrRemP := mt_removeprefix
theorem crIntStr : CallR X (.type "int") rIntStr := call_int_str
end
/-! ### the parts of a def's words -/
def xE : Expr := .Constant .none 0 ⟨0, 0, 0, 0⟩
def xS : Stmt := .Pass ⟨0, 0, 0, 0⟩
def sBody (s : Stmt) (i : Nat) : Stmt := match s with
  | .FunctionDef (body := b) .. => b.getD i xS
  | .If (body := b) .. => b.getD i xS
  | .For (body := b) .. => b.getD i xS
  | _ => xS
def sVal (s : Stmt) : Expr := match s with
  | .Assign (value := v) .. => v
  | .Expr v _ => v
  | .Return (some v) _ => v
  | .If (test := t) .. => t
  | _ => xE
def eArg (e : Expr) (i : Nat) : Expr := match e with
  | .Call (args := a) .. => a.getD i xE
  | .List es _ => es.getD i xE
  | .Tuple es _ _ => es.getD i xE
  | .BoolOp (values := v) .. => v.getD i xE
  | .Compare (left := l) (comparators := c) .. => if i = 0 then l else c.getD (i - 1) xE
  | .BinOp l _ r _ => if i = 0 then l else r
  | .Subscript v s _ => if i = 0 then v else s
  | .UnaryOp _ v _ => v
  | _ => xE
def lwOf (e : Expr) : LW := match e with
  | .Lambda p b s pos => ⟨p, b, s, pos⟩
  | _ => ⟨⟨[], [], none, [], [], none, []⟩, xE, ⟨.function, [], false, false, []⟩, ⟨0, 0, 0, 0⟩⟩
theorem tab_m {T : Addr × Str} : T ∈ [T] := List.mem_singleton.mpr rfl
theorem tab_u {P : Addr} {q : Str} : ∀ p ∈ [((P, q) : Addr × Str)], p.1 = P → p.2 = q := fun p hp _ => by rw [List.mem_singleton.mp hp]
/-! ### what stays when a lambda is made -/
theorem Row.extN {K : PySem.W.Frag} {H H1 : Hp} {ρ : Rw} (h : Row K H ρ) (e : ExtN H H1) : Row K H1 ρ := by
  obtain ⟨i, s, t, q, k, b⟩ := h
  refine ⟨i, s, t, e _ _ q (fun ps z => nomatch z), fun H' f => ?_, b⟩
  have key := k (fun x => match H x with
    | some (.tbl ps) => some (.tbl ps)
    | _ => H' x) fun a o n ha => by
    show (match H a with | some (.tbl ps) => some (.tbl ps) | _ => H' a) = some o
    rw [ha]
    cases o with
    | tbl ps => rfl
    | _ => exact f a _ n (e a _ ha (fun ps z => nomatch z))
  rcases key with (key | ⟨o, key⟩) | key
  · refine .inl (.inl ?_)
    have key : (match H ρ.2.1 with | some (.tbl ps) => some (.tbl ps) | _ => H' ρ.2.1) = some (.lst (ρ.2.2.map V.int)) := key
    split at key
    · cases key
    · exact key
  · refine .inl (.inr ⟨o, ?_⟩)
    have key : (match H ρ.2.1 with | some (.tbl ps) => some (.tbl ps) | _ => H' ρ.2.1) = some (.frz o (.lst (ρ.2.2.map V.int))) := key
    split at key
    · cases key
    · exact key
  · exact .inr key
theorem TrT.extN {K : PySem.W.Frag} {H H' : Hp} (e : ExtN H H') : TrT K H H' := fun a xs h => by
  rcases h with (h | ⟨o, h⟩) | h
  · exact .inl (.inl (e a _ h fun _ z => nomatch z))
  · exact .inl (.inr ⟨o, e a _ h fun _ z => nomatch z⟩)
  · exact .inr h
theorem tabs_one {P : Addr} {q : Str} {H : Hp} (h : H P = some (.tbl #[])) : Tabs [(P, q)] H := fun p hp => by
  rw [List.mem_singleton.mp hp]
  exact TabS.nil h
theorem tabs_keep {T : List (Addr × Str)} {H H' : Hp} {r : Addr} {xs : List V} (t : Tabs T H) (hr : H r = some (.lst xs)) (e : Fr r H H') : Tabs T H' := fun p hp => by
  obtain ⟨ps, h1, h2, h3⟩ := t p hp
  have ne : ∀ {b : Addr} {o : HO}, H b = some o → (∀ xs, o ≠ .lst xs) → b ≠ r := fun {b o} hb n z => by
    rw [z, hr] at hb
    exact n _ (Option.some.inj hb).symm
  refine ⟨ps, e _ _ (ne h1 fun _ z => nomatch z) h1, h2, fun pos cv hc => ?_⟩
  obtain ⟨c, e1, e2⟩ := h3 pos cv hc
  exact ⟨c, e1, e _ _ (ne e2 fun xs z => by unfold CodeO at z; cases z) e2⟩
theorem g_callLam {q : Str} {cells : List (Str × Addr)} {LL : List (LW × Option Int × (XK → TE))} {TT : (Hp → Prop) → (XK → Hp → VK → Prop) → Hp → VK → Prop} {te : TE} {σ : L2.St} {H : Hp} {Q : VK} (h : te σ H fun v H1 =>
  ∃ (j : Nat) (f : Addr) (L : LW) (n : Option Int) (t : XK → TE), LL[j]? = some (L, n, t) ∧ v = .ref f ∧ LamAt H1 f q L (cloFrom cells L.scope.names []) n ∧
    TT (fun H' => LamAt H' f q L (cloFrom cells L.scope.names []) n) (fun E H' Q' => t E σ H' Q') H1 Q) : tCallLam q cells LL TT te σ H Q := h
end
section
open He
theorem psB_at {ps : List (PySem.W.Frag → Bool)} {K : PySem.W.Frag} (h : psB ps K = true) {i : Nat} {p : PySem.W.Frag → Bool} (hp : ps[i]? = some p) : p K = true := List.all_eq_true.mp h p (List.mem_of_getElem? hp)
def tJoin (ts : List TE) : TE := fun σ H Q => tJs ts Str.empty σ H fun out H1 => Q (.str out) H1
end
section
open TL
def rLenStr : List V → Hp → VK → Prop := fun xs H Q => ∃ z : Str, xs = [.str z] ∧ z.length ≤ sizeLine ∧ Q (.int z.length) H
def rStrInt : List V → Hp → VK → Prop := fun xs H Q => ∃ i : Int, xs = [.int i] ∧ i.natAbs.log2 < 1920 ∧ Q (.str (toString i)) H
def rAddStr : R2 := fun x y H Q => ∃ i j : Str, x = .str i ∧ y = .str j ∧ i.length + j.length ≤ sizeLine ∧ Q (.str (i ++ j)) H
def rInSign : R2 := fun x y H Q => ∃ (c : Nat) (z : Str), x = .str ⟨#[c]⟩ ∧ y = .str z ∧ Q (.bl (decide (c ∈ z.cps.toList))) H
section
variable {X : Cx}
theorem crLenStr : CallR X (.builtin "len") rLenStr := call_len_str
theorem crStrInt : CallR X (.type "str") rStrInt := call_str_int
theorem opAddStr : OpR X (binaryOp .Add) rAddStr := op_add_str
theorem opInSign : OpR X (compareOp .In) rInSign := op_in_sign
end
section
variable {K : PySem.W.Frag} {H : Hp} {Q : VK} {g : TG} {tt : TT} {te : TE} {vs : List Nat} {σ : St}
def tLcS (x : V) (g : TG) (tt : TT) (te : TE) (vs : List Nat) : TE := tLc (iStr fun _ H1 R => R x H1) g tt te vs
theorem g_lcStr {tl : TE} (h : tl σ H fun x H1 => tLcS x g tt te vs σ H1 Q) : tLc (iStr tl) g tt te vs σ H Q := h
theorem gave_at {α : Type} {ds : List α} {i : Nat} {d : α} (h : ds[i]? = some d) : ∃ r, ds.drop i = d :: r := by
  obtain ⟨l, e⟩ := List.getElem?_eq_some_iff.mp h
  exact ⟨_, by rw [List.drop_eq_getElem_cons l, e]⟩
/-- a comprehension over a text's signs -/
theorem g_lcS {z : Str} (hz : z.cps.toList.length ≤ 100000) (f : Nat → Bool) (v : Nat → V)
    (step : ∀ d x H', Ex H H' → x = V.str ⟨#[d]⟩ → LcT g tt te vs σ f v x d H')
    (last : ∀ D H', H D = none → Ex H H' → H' D = some (.lst ((z.cps.toList.filter f).map v)) → Q (.ref D) H') : tLcS (.str z) g tt te vs σ H Q := by
  refine ⟨z, rfl, fun D hD => lc_it (walk_str (z := z)) (LcW H D f v z.cps.toList) ⟨hD, Evl.Ex.new hD, upd_same⟩ (fun _ _ _ _ => trivial) ?_ ?_⟩
  · intro i x H1 H' hi p y
    obtain ⟨e, c, hc, ex⟩ := y
    subst e
    have hc' : z.cps.toList[i]? = some c := by
      rw [Array.getElem?_toList]
      exact hc
    obtain ⟨r, hr⟩ := gave_at hc'
    exact lc_turn hz p hr (step c x H' p.2.1 ex)
  · intro H' p
    obtain ⟨p1, p2, p3⟩ := p
    rw [show z.cps.size = z.cps.toList.length from Array.length_toList.symm, gave_all] at p3
    exact last D H' p1 p2 p3
end
/-! ### integers as texts -/
def dig (c : Nat) : Bool := decide (48 ≤ c ∧ c ≤ 57)
def unM (l : List Nat) : List Nat := match l with
  | 45 :: r => r
  | l => l
def digOk (l : List Nat) : Bool := decide (1 ≤ l.length ∧ l.length ≤ 9) && l.all dig
def intL (l : List Nat) : Int := match l with
  | 45 :: r => -((NumText.digitsVal r : Nat) : Int)
  | l => ((NumText.digitsVal l : Nat) : Int)
def intOf (w : Str) : Option Int := if digOk (unM (tl w)) = true then (if (toString (intL (tl w)) : Str) = w then some (intL (tl w)) else none) else none
theorem tl_remP (w : Str) : tl (Txt.removeprefix w "-") = unM (tl w) := by
  have e : (("-" : Str).cps.toList) = [45] := by decide +kernel
  have el : ("-" : Str).length = 1 := by decide +kernel
  rw [StrLaws.removeprefix_eq, StrLaws.subAt_eq, e, el]
  have wl : w.length = (tl w).length := len_tl w
  have ew : w.cps.toList = tl w := rfl
  rw [ew, wl, List.drop_zero]
  cases h : tl w with
  | nil => rw [if_neg (by decide)]; rw [h]; rfl
  | cons c r =>
    by_cases hc : c = 45
    · subst hc
      rw [if_pos (by simp)]
      show List.take (List.length (45 :: r) - 1) r = r
      exact List.take_of_length_le (by simp)
    · rw [if_neg (by simp; exact hc), h]
      unfold unM
      split
      next r' h => injection h with h1 _; exact absurd h1 hc
      · rfl
theorem digOk_all {l : List Nat} (h : digOk l = true) : 1 ≤ l.length ∧ l.length ≤ 9 ∧ NumText.AllDigits l ∧ l ≠ [] := by
  unfold digOk at h
  rw [Bool.and_eq_true] at h
  have h1 := of_decide_eq_true h.1
  refine ⟨h1.1, h1.2, fun c hc => ?_, fun e => by rw [e] at h1; simp at h1⟩
  exact of_decide_eq_true (List.all_eq_true.mp h.2 c hc)
theorem intText_of {w : Str} (h : digOk (unM (tl w)) = true) : PySem.intText? w = some (intL (tl w)) := by
  obtain ⟨l1, l2, ha, hn⟩ := digOk_all h
  have ew : w.cps.toList = tl w := rfl
  have wl : w.length = (tl w).length := len_tl w
  cases e : tl w with
  | nil =>
    rw [e] at hn
    exact absurd rfl hn
  | cons c r =>
    by_cases hc : c = 45
    · subst hc
      rw [e] at ha hn l2
      rw [e] at wl
      exact intText_neg (by rw [ew, e]) ha hn (by rw [wl]; have : r.length ≤ 9 := l2; simp only [List.length_cons]; omega)
    · have eu : unM (tl w) = tl w := by
        rw [e]
        unfold unM
        split
        next r' h => injection h with h1 _; exact absurd h1 hc
        · rfl
      rw [eu] at ha hn l2
      have ei : intL (c :: r) = ((NumText.digitsVal (c :: r) : Nat) : Int) := by
        unfold intL
        split
        next r' h => injection h with h1 _; exact absurd h1 hc
        · rfl
      rw [ei, ← e]
      exact intText_digits (by rw [ew]; exact ha) (by rw [ew]; exact hn) (by rw [wl]; omega)
theorem joinL_len {c : Nat} : ∀ {ps : List (List Nat)}, ps.length ≤ (joinL [c] ps).length + 1 ∧ ∀ p ∈ ps, p.length ≤ (joinL [c] ps).length
  | [] => ⟨by simp, fun p h => by simp at h⟩
  | [p] => ⟨by simp, fun q h => by rw [List.mem_singleton.mp h]; exact Nat.le_refl _⟩
  | p :: q :: r => by
    have ih := joinL_len (c := c) (ps := q :: r)
    have e : joinL [c] (p :: q :: r) = p ++ ([c] ++ joinL [c] (q :: r)) := rfl
    rw [e]
    simp only [List.length_append, List.length_cons, List.length_nil] at ih ⊢
    refine ⟨by omega, fun z hz => ?_⟩
    rcases List.mem_cons.mp hz with h | h
    · rw [h]; omega
    · have := ih.2 z h
      omega
/-- the parts of a text: few, none longer -/
theorem split_small (x y : Str) {c : Nat} (ey : tl y = [c]) : (Txt.split x y).length ≤ x.length + 1 ∧ ∀ p ∈ Txt.split x y, p.length ≤ x.length := by
  have e : tl (Str.join y (Txt.split x y)) = tl x := congrArg tl (StrLaws.join_split x y)
  rw [tl_join, ey] at e
  have q := joinL_len (c := c) (ps := (Txt.split x y).map tl)
  rw [e, List.length_map] at q
  have lx := len_tl x
  refine ⟨by omega, fun p hp => ?_⟩
  have := q.2 (tl p) (List.mem_map.mpr ⟨p, hp, rfl⟩)
  rw [← len_tl p] at this
  omega
theorem fold_lt : ∀ (l : List Nat) (a : Nat), NumText.AllDigits l → l.foldl (fun acc c => acc * 10 + (c - 48)) a < (a + 1) * 10 ^ l.length
  | [], a, _ => by simp
  | c :: r, a, h => by
    have hc := h.head
    have q := fold_lt r (a * 10 + (c - 48)) h.tail
    rw [List.foldl_cons, List.length_cons, Nat.pow_succ]
    refine Nat.lt_of_lt_of_le q ?_
    rw [Nat.mul_comm (10 ^ r.length) 10, ← Nat.mul_assoc]
    exact Nat.mul_le_mul_right _ (by omega)
theorem intL_small {l : List Nat} (h : digOk (unM l) = true) : (intL l).natAbs < 10 ^ 9 := by
  obtain ⟨l1, l2, ha, hn⟩ := digOk_all h
  have key : ∀ m : List Nat, NumText.AllDigits m → m.length ≤ 9 → NumText.digitsVal m < 10 ^ 9 := fun m hm lm => by
    have q := fold_lt m 0 hm
    rw [Nat.zero_add, Nat.one_mul] at q
    exact Nat.lt_of_lt_of_le q (Nat.pow_le_pow_right (by decide) lm)
  by_cases c : ∃ r, l = 45 :: r
  · obtain ⟨r, rfl⟩ := c
    have := key r ha l2
    show (-((NumText.digitsVal r : Nat) : Int)).natAbs < _
    omega
  · have eu : unM l = l := by
      unfold unM
      split
      next r => exact absurd ⟨r, rfl⟩ c
      · rfl
    have el : intL l = ((NumText.digitsVal l : Nat) : Int) := by
      unfold intL
      split
      next r => exact absurd ⟨r, rfl⟩ c
      · rfl
    rw [eu] at ha l2
    have := key l ha l2
    rw [el]
    omega
theorem log_small {i : Int} (h : i.natAbs < 10 ^ 9) : i.natAbs.log2 < 1920 := by
  by_cases c : i.natAbs = 0
  · rw [c]
    decide
  · exact Nat.lt_of_lt_of_le ((Nat.log2_lt c).mpr (Nat.lt_of_lt_of_le h (by decide : 10 ^ 9 ≤ 2 ^ 30))) (by decide)
theorem tl_int_nat (n : Nat) : tl (toString (n : Int) : Str) = numL n := tl_num n
theorem tl_int_neg (n : Nat) (h : 0 < n) : tl (toString (-(n : Int)) : Str) = 45 :: numL n := by
  obtain ⟨m, rfl⟩ : ∃ m, n = m + 1 := ⟨n - 1, by omega⟩
  have e : toString (-((m + 1 : Nat) : Int)) = "-" ++ toString ((m + 1 : Nat) : Int) := rfl
  show (Str.ofString (toString (-((m + 1 : Nat) : Int)))).cps.toList = _
  rw [e, PyProof.Rows.signs_ofString, String.toList_append, List.map_append]
  have z : List.map Char.toNat (toString ((m + 1 : Nat) : Int)).toList = numL (m + 1) := by
    rw [← PyProof.Rows.signs_ofString]
    exact PySem.W.KIN.signs_num (m + 1)
  rw [z]
  rfl
/-- int(str(i)), i of at most nine digits -/
theorem intOf_str {i : Int} (h : i.natAbs < 10 ^ 9) : intOf (toString i : Str) = some i := by
  have key : digOk (unM (tl (toString i : Str))) = true ∧ intL (tl (toString i : Str)) = i := by
    by_cases c : 0 ≤ i
    · obtain ⟨n, rfl⟩ := Int.eq_ofNat_of_zero_le c
      rw [tl_int_nat]
      have hn : n < 10 ^ 9 := by omega
      have h45 : ∀ r, numL n ≠ 45 :: r := fun r e => by
        have z : 45 ∈ numL n := by rw [e]; exact List.mem_cons_self
        have := numL_digits n 45 z
        omega
      have eu : unM (numL n) = numL n := by
        unfold unM
        split
        next r e => exact absurd e (h45 r)
        · rfl
      have el : intL (numL n) = ((NumText.digitsVal (numL n) : Nat) : Int) := by
        unfold intL
        split
        next r e => exact absurd e (h45 r)
        · rfl
      rw [eu, el, numL_val]
      refine ⟨?_, rfl⟩
      unfold digOk
      rw [Bool.and_eq_true]
      refine ⟨decide_eq_true ⟨?_, numL_len (by decide) hn⟩, List.all_eq_true.mpr fun c hc => decide_eq_true (numL_digits n c hc)⟩
      exact List.length_pos_iff.mpr (numL_ne n)
    · obtain ⟨n, hn⟩ : ∃ n : Nat, i = -(n : Int) := ⟨i.natAbs, by omega⟩
      subst hn
      have hp : 0 < n := by omega
      have hn : n < 10 ^ 9 := by omega
      rw [tl_int_neg n hp]
      show digOk (numL n) = true ∧ -((NumText.digitsVal (numL n) : Nat) : Int) = _
      rw [numL_val]
      refine ⟨?_, rfl⟩
      unfold digOk
      rw [Bool.and_eq_true]
      refine ⟨decide_eq_true ⟨?_, numL_len (by decide) hn⟩, List.all_eq_true.mpr fun c hc => decide_eq_true (numL_digits n c hc)⟩
      exact List.length_pos_iff.mpr (numL_ne n)
  unfold intOf
  rw [if_pos key.1, key.2, if_pos rfl]

theorem filt_true {α : Type} (l : List α) : l.filter (fun _ => true) = l := List.filter_eq_self.mpr fun _ _ => rfl
/-! ### comprehensions whose items are told by a relation -/
section
variable {α : Type} {K : PySem.W.Frag} {H : Hp} {Q : VK} {g : TG} {tt : TT} {te : TE} {vs : List Nat} {σ : St} {a : Addr} {xs : List V} {ds : List α} {F G : Hp → V → α → Prop}
def LcVR (H : Hp) (D : Addr) (G : Hp → V → α → Prop) (f : α → Bool) (ds : List α) (i : Nat) (H' : Hp) : Prop := H D = none ∧ Ex H H' ∧ ∃ acc, H' D = some (.lst acc) ∧ Paired (G H') acc ((ds.take i).filter f)
def LcTR (g : TG) (tt : TT) (te : TE) (vs : List Nat) (σ : St) (G : Hp → V → α → Prop) (f : α → Bool) (x : V) (d : α) (H' : Hp) : Prop :=
  ∀ (R : Hp → Prop) (S : VK), (f d = false → ∀ H3, Ex H' H3 → R H3) → (f d = true → ∀ y H3, Ex H' H3 → G H3 y d → S y H3) →
    g x (wipe σ vs) H' fun σ2 H2 => wipe σ2 vs = wipe σ vs ∧ tt σ2 H2 fun b H3 => if b = true then te σ2 H3 S else R H3
theorem take_filt {f : α → Bool} {i : Nat} {d : α} (h : ds[i]? = some d) : (ds.take (i + 1)).filter f = (ds.take i).filter f ++ (if f d = true then [d] else []) := by
  obtain ⟨l, e⟩ := List.getElem?_eq_some_iff.mp h
  rw [List.take_succ, h, List.filter_append]
  show _ ++ List.filter f [d] = _
  rw [List.filter_cons, List.filter_nil]
theorem lcR_turn {D : Addr} {f : α → Bool} {i : Nat} {x : V} {d : α} {H' : Hp} (hz : ds.length ≤ 100000) (hG : ∀ H1 H2 y d, TrT K H1 H2 → G H1 y d → G H2 y d) (w : LcVR H D G f ds i H') (e : ds[i]? = some d) (t : LcTR g tt te vs σ G f x d H') :
    g x (wipe σ vs) H' fun σ2 H2 => wipe σ2 vs = wipe σ vs ∧ tt σ2 H2 fun b H3 =>
      if b = true then te σ2 H3 fun y H4 => ∃ acc, H4 D = some (.lst acc) ∧ acc.length < sizeLine ∧ LcVR H D G f ds (i + 1) (L2.upd H4 D (.lst (acc ++ [y]))) else LcVR H D G f ds (i + 1) H3 := by
  obtain ⟨w1, w2, acc, w3, w4⟩ := w
  have ll : acc.length ≤ 100000 := by
    rw [Paired.length w4]
    exact Nat.le_trans (List.length_filter_le _ _) (Nat.le_trans (List.length_take_le _ _) (by
      have := (List.getElem?_eq_some_iff.mp e).1
      omega))
  refine t _ _ (fun hf H3 e3 => ⟨w1, w2.trans e3, acc, e3 _ _ w3, ?_⟩) (fun hf y H3 e3 gy => ⟨acc, e3 _ _ w3, Nat.lt_of_le_of_lt ll (by decide), w1, Evl.Ex.mut (w2.trans e3) w1, _, upd_same, ?_⟩)
  · rw [take_filt e, hf, if_neg (by decide), List.append_nil]
    exact L2.Paired.mapP w4 fun _ _ q => hG _ _ _ _ (TrT.of e3) q
  · rw [take_filt e, hf, if_pos rfl]
    have u : TrT K H3 (L2.upd H3 D (.lst (acc ++ [y]))) := TrT.upd (e3 _ _ w3)
    exact pd_app (L2.Paired.mapP w4 fun _ _ q => hG _ _ _ _ u (hG _ _ _ _ (TrT.of e3) q)) (.cons (hG _ _ _ _ u gy) .nil)
theorem g_lcTR (hx : SqT K H a xs) (hp : Paired (F H) xs ds) (hz : ds.length ≤ 100000) (f : α → Bool) (mono : ∀ H' x d, Ex H H' → F H x d → F H' x d) (hG : ∀ H1 H2 y d, TrT K H1 H2 → G H1 y d → G H2 y d)
    (step : ∀ d x H', Ex H H' → F H' x d → LcTR g tt te vs σ G f x d H')
    (last : ∀ D H' ys, H D = none → Ex H H' → H' D = some (.lst ys) → Paired (G H') ys (ds.filter f) → Q (.ref D) H') : tLcT K (.ref a) g tt te vs σ H Q := by
  refine ⟨a, rfl, ⟨xs, hx⟩, fun D hD => lc_tup (K := K) (xs := xs) (LcVR H D G f ds) ⟨hD, Evl.Ex.new hD, [], upd_same, .nil⟩ (fun i H' _ p => Evl.ex_t p.2.1 hx) ?_ ?_⟩
  · intro i x H' hi p
    obtain ⟨d, hd, fd⟩ := pd_get hp hi
    exact lcR_turn hz hG p hd (step d x H' p.2.1 (mono _ _ _ p.2.1 fd))
  · rintro H' ⟨p1, p2, acc, p3, p4⟩
    rw [Paired.length hp, List.take_length] at p4
    exact last D H' acc p1 p2 p3 p4
theorem g_lcLR (hx : SqL K H a xs) (hp : Paired (F H) xs ds) (hz : ds.length ≤ 100000) (f : α → Bool) (mono : ∀ H' x d, Ex H H' → F H x d → F H' x d) (hG : ∀ H1 H2 y d, TrT K H1 H2 → G H1 y d → G H2 y d)
    (step : ∀ d x H', Ex H H' → F H' x d → LcTR g tt te vs σ G f x d H')
    (last : ∀ D H' ys, H D = none → Ex H H' → H' D = some (.lst ys) → Paired (G H') ys (ds.filter f) → Q (.ref D) H') : tLcL K (.ref a) g tt te vs σ H Q := by
  refine ⟨a, rfl, ⟨xs, hx⟩, fun D hD => lc_list (K := K) (xs := xs) (LcVR H D G f ds) ⟨hD, Evl.Ex.new hD, [], upd_same, .nil⟩ (fun i H' _ p => Evl.ex_l p.2.1 hx) ?_ ?_⟩
  · intro i x H' hi p
    obtain ⟨d, hd, fd⟩ := pd_get hp hi
    exact lcR_turn hz hG p hd (step d x H' p.2.1 (mono _ _ _ p.2.1 fd))
  · rintro H' ⟨p1, p2, acc, p3, p4⟩
    rw [Paired.length hp, List.take_length] at p4
    exact last D H' acc p1 p2 p3 p4
theorem g_m1 {to : TE} {r : V → List V → Hp → VK → Prop} (h : to σ H fun x H1 => (∃ z, x = .str z) ∧ te σ H1 fun y H2 => r x [y] H2 Q) : tM1 r to te σ H Q := h
theorem g_isS {z : Str} {A : Prop} (h : A) : (∃ y, V.str z = V.str y) ∧ A := ⟨⟨z, rfl⟩, h⟩
theorem g_fmtS {z : Str} {A B : Prop} (l : z.length ≤ sizeLine) (h : Q (.str z) H) : (∃ y : Str, V.str z = .str y ∧ y.length ≤ sizeLine ∧ Q (.str y) H) ∨ B := .inl ⟨z, rfl, l, h⟩
theorem g_fmtI {i : Int} {A : Prop} (l : i.natAbs.log2 < 1920) (h : Q (.str (toString i)) H) : A ∨ ∃ j : Int, V.int i = .int j ∧ j.natAbs.log2 < 1920 ∧ Q (.str (toString j)) H := .inr ⟨i, rfl, l, h⟩
end

section
variable {σ : St} {H : Hp} {Q : VK} {te t : TE} {ts : List TE} {acc z : Str} {R : Str → Hp → Prop}
theorem g_fmt (h : te σ H fun x H1 => (∃ y : Str, x = .str y ∧ y.length ≤ sizeLine ∧ Q (.str y) H1) ∨ ∃ i : Int, x = .int i ∧ i.natAbs.log2 < 1920 ∧ Q (.str (toString i)) H1) : tFmt te σ H Q := h
theorem g_js (h : t σ H fun x H1 => ∃ y : Str, x = .str y ∧ (acc ++ y).length ≤ sizeLine ∧ tJs ts (acc ++ y) σ H1 R) : tJs (t :: ts) acc σ H R := h
theorem g_jsN (h : R acc H) : tJs [] acc σ H R := h
theorem g_join (h : tJs ts Str.empty σ H fun out H1 => Q (.str out) H1) : tJoin ts σ H Q := h
theorem g_jsS (l : (acc ++ z).length ≤ sizeLine) (h : tJs ts (acc ++ z) σ H R) : ∃ y : Str, V.str z = .str y ∧ (acc ++ y).length ≤ sizeLine ∧ tJs ts (acc ++ y) σ H R := ⟨z, rfl, l, h⟩
end
theorem len_app (a b : Str) : (a ++ b).length = a.length + b.length := by
  rw [len_tl, tl_append, List.length_append, ← len_tl a, ← len_tl b]
theorem empty_app (a : Str) : Str.empty ++ a = a := ext_tl (by rw [tl_append]; rfl)
theorem str_len {i : Int} (h : i.natAbs < 10 ^ 9) : (toString i : Str).length ≤ 10 := by
  have q := intOf_str h
  unfold intOf at q
  by_cases c : digOk (unM (tl (toString i : Str))) = true
  · have l9 := (digOk_all c).2.1
    rw [len_tl]
    have : (tl (toString i : Str)).length ≤ (unM (tl (toString i : Str))).length + 1 := by
      unfold unM
      split
      next r e => rw [e]; simp
      · omega
    omega
  · rw [if_neg c] at q
    cases q
/-- the signs of an integer's text -/
theorem str_free {i : Int} {c : Nat} (h : i.natAbs < 10 ^ 9) (n1 : c ≠ 45) (n2 : c < 48 ∨ 57 < c) : c ∉ tl (toString i : Str) := by
  by_cases p : 0 ≤ i
  · obtain ⟨n, rfl⟩ := Int.eq_ofNat_of_zero_le p
    rw [tl_int_nat]
    exact numL_free n2
  · obtain ⟨n, hn⟩ : ∃ n : Nat, i = -(n : Int) := ⟨i.natAbs, by omega⟩
    subst hn
    rw [tl_int_neg n (by omega)]
    intro m
    rcases List.mem_cons.mp m with e | e
    · exact n1 e
    · exact numL_free n2 e
end
section
variable {prog : Program} {w : World} {A : Around} {E : Value → Shared → Prop} {s : Shared}
theorem slicePartN {v : Value} {Q : Option Int → Shared → Prop} (p : IsPart v none) (h : Q none s) : wpAny (model prog w) A (Builtin.Slice.slicePartIndex v) Q E s := HT.slicePart_ p h
theorem adjust_rev (n : Nat) : Builtin.Slice.sliceAdjust none none (-1) (n : Int) = ((n : Int) - 1, -1) := by
  unfold Builtin.Slice.sliceAdjust
  rfl
theorem places_rev (n : Nat) : Builtin.Slice.slicePlaces ((n : Int) - 1) (-1) (-1) = n := by
  unfold Builtin.Slice.slicePlaces
  have h1 : ¬ ((-1 : Int) > 0) := by omega
  simp only [h1, if_false]
  split
  · show (((n : Int) - 1 - -1 - 1) / (- -1) + 1).toNat = n
    rw [show (- -1 : Int) = 1 from rfl, Int.ediv_one]
    omega
  · omega
theorem sliceApplied_rev {sl : Addr} {vl vu vs : Value} {n : Nat} {Q : Int × Int × Nat → Shared → Prop} (hs : s.heap.IsSliceOf sl vl vu vs) (pl : IsPart vl none) (pu : IsPart vu none) (ps : IsPart vs (some (-1)))
    (h : Q ((n : Int) - 1, -1, n) s) : wpAny (model prog w) A (Builtin.Slice.sliceApplied (.ref sl) (pure (n : Int))) Q E s := by
  obtain ⟨os, hos, hcs, hds⟩ := id hs
  unfold Builtin.Slice.sliceApplied Builtin.Slice.sliceFields
  refine wpAny_bind (wpAny_bind (wpAny_field hos hds (x := vl) rfl (wpAny_bind (wpAny_field hos hds (x := vu) rfl (wpAny_bind (wpAny_field hos hds (x := vs) rfl (wpAny_pure ?_)))))))
  refine wpAny_bind (HT.slicePart_ ps ?_)
  show wpAny _ _ (if ((-1 : Int) == 0) = true then _ else _) _ _ s
  rw [if_neg (by decide)]
  refine wpAny_bind (slicePartN pl (wpAny_bind (slicePartN pu (wpAny_bind (wpAny_pure ?_)))))
  show wpAny _ _ (match Builtin.Slice.sliceAdjust none none (-1) (n : Int) with | (lo, hi) => pure (lo, (-1 : Int), Builtin.Slice.slicePlaces lo hi (-1))) _ _ s
  rw [adjust_rev n]
  show wpAny _ _ (pure ((n : Int) - 1, (-1 : Int), Builtin.Slice.slicePlaces ((n : Int) - 1) (-1) (-1))) _ _ s
  rw [places_rev]
  exact wpAny_pure h
theorem pick_rev (xs : Array Value) : ((List.range xs.size).filterMap fun (m : Nat) => xs[((xs.size : Int) - 1 + (m : Int) * -1).toNat]?).toArray = xs.toList.reverse.toArray := by
  have e : ((List.range xs.size).filterMap fun (m : Nat) => xs[((xs.size : Int) - 1 + (m : Int) * -1).toNat]?) = ((List.range xs.size).map fun k => xs.size - 1 - k).filterMap (xs[·]?) := by
    rw [List.filterMap_map]
    have key : ∀ (l : List Nat), (∀ m ∈ l, m < xs.size) → (l.filterMap fun (m : Nat) => xs[((xs.size : Int) - 1 + (m : Int) * -1).toNat]?) = l.filterMap ((fun x => xs[x]?) ∘ fun k => xs.size - 1 - k) := by
      intro l
      induction l with
      | nil => intro _; rfl
      | cons a r ih =>
        intro h
        have h1 := h a List.mem_cons_self
        have e1 : ((xs.size : Int) - 1 + (a : Int) * -1).toNat = xs.size - 1 - a := by omega
        rw [List.filterMap_cons, List.filterMap_cons, e1, ih fun m hm => h m (List.mem_cons_of_mem _ hm)]
        rfl
    exact key _ fun m hm => List.mem_range.mp hm
  rw [e, PySem.W.krv_range, List.filterMap_reverse, PySem.W.krv_all]
theorem getItem_tuple_rev {t sl : Addr} {items : Array Value} {vl vu vs : Value} {Q : Value → Shared → Prop} (ht : IsTup s.heap t items) (hs : s.heap.IsSliceOf sl vl vu vs) (pl : IsPart vl none) (pu : IsPart vu none) (ps : IsPart vs (some (-1)))
    (h : Q (.ref s.heap.objs.size) { s with heap := s.heap.push { cls := .type "tuple", data := .seq items.toList.reverse.toArray } })
    (hsz : items.size ≤ sizeLine) : wpAny (model prog w) A (getItem (.ref t) (.ref sl)) Q E s := by
  have htake : sizeOk (.seq items.toList.reverse.toArray) := by
    show items.toList.reverse.toArray.size ≤ sizeLine
    rw [List.size_toArray, List.length_reverse, Array.length_toList]
    exact hsz
  obtain ⟨os, hos, hcs, hds⟩ := id hs
  have hTs : s.TypeIs (.ref sl) "slice" := ⟨os, hos, hcs⟩
  unfold getItem
  try with_reducible refine wpAny_holding ?_
  first | refine wpAny_bind (wpAny_pure ?_) | skip
  refine wpAny_bind (wpAny_sequenceKey ht.typeIs (by decide) ?_)
  refine wpAny_bind (wpAny_callSpecial?_slot (name := Str.ofString "__getitem__") ht.typeIs PyProof.Rows.slot_tuple_getitem
    (wpAny_call_entry PyProof.Rows.slot_tuple_getitem ht.typeIs PyProof.Rows.entry_tuple_getitem ?_ (PyProof.Rows.args_tuple_getitem _ _)))
  show wpAny _ _ (Builtin.Tuple.tupleItemsOf (.ref t) >>= _) _ _ s
  refine wpAny_bind (tupleItemsOf_ ht ?_)
  refine wpAny_bind (wpAny_typeOf hTs ?_)
  rw [if_pos (by decide)]
  refine wpAny_bind (sliceApplied_rev hs pl pu ps ?_)
  show wpAny _ _ (if (((items.size : Int) - 1) == 0 && (-1 : Int) == 1 && items.size == items.size) = true then _ else _) _ _ s
  rw [if_neg (by rw [show ((-1 : Int) == 1) = false from rfl, Bool.and_false, Bool.false_and]; exact Bool.false_ne_true), pick_rev]
  first
    | exact wpAny_bind (m := Builtin.Tuple.tupleExact _) (wpAny_newObj_type (wpAny_pure ⟨_, rfl, wpAny_pure h⟩) htake)
    | exact wpAny_bind (m := Builtin.Tuple.tupleExact _) (wpAny_newObj_type (wpAny_bind (wpAny_pure (wpAny_pure ⟨_, rfl, wpAny_pure h⟩))) htake)
    | exact wpAny_bind (wpAny_bind (m := Builtin.Tuple.tupleExact _) (wpAny_newObj_type (wpAny_pure (wpAny_pure ⟨_, rfl, wpAny_pure h⟩)) htake))
    | exact wpAny_bind (wpAny_bind (m := Builtin.Tuple.tupleExact _) (wpAny_newObj_type (wpAny_pure ⟨_, rfl, wpAny_pure h⟩) htake))
end
/-- t[::-1] -/
def tRevT (K : PySem.W.Frag) (te : TE) : TE := fun σ H Q => te σ H fun x H1 => ∃ a xs, x = .ref a ∧ SqT K H1 a xs ∧ ∀ p, H1 p = none → Q (.ref p) (L2.upd H1 p (.tup xs.reverse))
theorem pe_revT {X : Cx} {e : Expr} {te : TE} {k : Nat} {p1 p2 p3 pos : Pos} (he : PE X e te) : PE X (.Subscript e (.Slice none none (some (.UnaryOp .USub (.Constant (.int 1) k p1) p2)) p3) pos) (tRevT X.K te) := by
  refine ⟨fun pins s σ H Q I h => ?_⟩
  refine Subscript_ (thn (he.run pins s σ H _ I h) fun v s1 ⟨x, H1, I1, r1, q1⟩ => ?_)
  obtain ⟨a, xs, ex, hx, q⟩ := q1
  subst ex
  cases r1
  have hst : PO X (some (.UnaryOp .USub (.Constant (.int 1) k p1) p2)) (tPart (tUn (rU fun i => .int (-i)) (tC (.int 1)))) := po_some (pe_un un_neg pe_int)
  refine wpAny_Slice (thn (po_none.run pins s1 σ H1 (fun o H2 => o = none ∧ H2 = H1) I1 ⟨rfl, rfl⟩) fun vl s2 ⟨l, H2, I2, pl, el, e2⟩ => ?_)
  subst el e2
  refine thn (po_none.run pins s2 σ H2 (fun o H3 => o = none ∧ H3 = H2) I2 ⟨rfl, rfl⟩) fun vu s3 ⟨u, H3, I3, pu, eu, e3⟩ => ?_
  subst eu e3
  refine thn (hst.run pins s3 σ H3 (fun o H4 => o = some (-1) ∧ H4 = H3) I3 ⟨1, rfl, -1, rfl, rfl, rfl⟩) fun vs s4 ⟨o, H4, I4, ps, eo, e4⟩ => ?_
  subst eo e4
  have I5 : Inv X pins σ H4 { s4 with heap := s4.heap.push { cls := .type "slice", data := .fields #[vl, vu, vs] } } := I4.kept (t' := s4.toks) fun b ob q => Heap.get?_push_of_some _ q
  obtain ⟨its, r, ht, hz⟩ := I5.tuple hx
  have hlen := r.length
  show wpAny (model X.prog X.w) X.A (subscriptTail e (.Slice none none (some (.UnaryOp .USub (.Constant (.int 1) k p1) p2)) p3) (.ref a) (.ref s4.heap.objs.size)) (EP X pins σ Q) X.xe { s4 with heap := s4.heap.push { cls := .type "slice", data := .fields #[vl, vu, vs] } }
  refine tail_any (ops := [.ref a, .ref s4.heap.objs.size]) ht.typeIs (PyProof.Rows.slot_tuple_getitem.lookup) ?_ (by with_unfolding_all rfl)
  refine getItem_tuple_rev ht (Heap.IsSliceOf.new _ vl vu vs) pl pu ps ?_ (by rw [List.size_toArray]; omega)
  refine ⟨.ref _, _, I5.laid (t' := s4.toks) (o := .tup xs.reverse) (fun b ob q => Heap.get?_push_of_some _ q) (Nat.le_refl _) ?_, rfl, q _ (I5.hok.fresh (Nat.le_refl _))⟩
  exact ⟨by rw [List.length_reverse]; exact hz, _, r.reverse, IsTup.new _ _⟩
theorem g_revT {K : PySem.W.Frag} {te : TE} {σ : St} {H : Hp} {Q : VK} (h : te σ H fun x H1 => ∃ a xs, x = .ref a ∧ SqT K H1 a xs ∧ ∀ p, H1 p = none → Q (.ref p) (L2.upd H1 p (.tup xs.reverse))) : tRevT K te σ H Q := h
/-! ### lists of lambdas -/
section
open LamX
/-- the lambdas, one behind the other -/
def LamsAt (q : Str) (cells : List (Str × Addr)) (H : Hp) (v : V) (L : LW × Option Int) : Prop := ∃ f, v = .ref f ∧ LamAt H f q L.1 (cloFrom cells L.1.scope.names []) L.2
theorem LamsAt.extN {q : Str} {cells : List (Str × Addr)} {H H' : Hp} {v : V} {L : LW × Option Int} (e : ExtN H H') (h : LamsAt q cells H v L) : LamsAt q cells H' v L := by
  obtain ⟨f, rfl, h⟩ := h
  exact ⟨f, rfl, h.extN e⟩
theorem LamsAt.ex {q : Str} {cells : List (Str × Addr)} {H H' : Hp} {v : V} {L : LW × Option Int} (e : Ex H H') (h : LamsAt q cells H v L) : LamsAt q cells H' v L := by
  obtain ⟨f, rfl, h⟩ := h
  exact ⟨f, rfl, h.ex e⟩
theorem LamsAt.fr {q : Str} {cells : List (Str × Addr)} {H H' : Hp} {r : Addr} {xs : List V} {v : V} {L : LW × Option Int} (hr : H r = some (.lst xs)) (e : Fr r H H') (h : LamsAt q cells H v L) : LamsAt q cells H' v L := by
  obtain ⟨f, rfl, h⟩ := h
  exact ⟨f, rfl, h.fr hr e⟩
/-- a list that is changed in its place -/
theorem LamsAt.upd {q : Str} {cells : List (Str × Addr)} {H : Hp} {l : Addr} {xs ys : List V} {v : V} {L : LW × Option Int} (hl : H l = some (.lst xs)) (h : LamsAt q cells H v L) : LamsAt q cells (L2.upd H l (.lst ys)) v L :=
  LamsAt.fr hl Fr.upd h
def EvLs (T : List (Addr × Str)) (q : Str) (cells : List (Str × Addr)) (ta : TA) (Ls : List (LW × Option Int)) : Prop :=
  ∀ σ H (R : List V → Hp → Prop), Tabs T H → (∀ fs H', ExtN H H' → Tabs T H' → Paired (LamsAt q cells H') fs Ls → R fs H') → ta σ H R
theorem evLs_nil {T : List (Addr × Str)} {q : Str} {cells : List (Str × Addr)} : EvLs T q cells tNil [] := fun σ H R t k => k [] H (ExtN.refl H) t .nil
theorem evLs_cons {T : List (Addr × Str)} {q : Str} {cells : List (Str × Addr)} {L : LW} {n : Option Int} {ta : TA} {Ls : List (LW × Option Int)} (h : EvLs T q cells ta Ls) :
    EvLs T q cells (tCons (tLamV T q L (cloFrom cells L.scope.names []) n) ta) ((L, n) :: Ls) := fun σ H R t k =>
  ⟨t, fun f H1 e1 t1 nf la => h σ H1 _ t1 fun fs H2 e2 t2 p => k _ _ (e1.trans e2) t2 (.cons ⟨f, rfl, la.extN e2⟩ p)⟩
theorem g_lams {T : List (Addr × Str)} {q : Str} {cells : List (Str × Addr)} {ta : TA} {Ls : List (LW × Option Int)} {σ : L2.St} {H : Hp} {Q : VK} (h : EvLs T q cells ta Ls) (t : Tabs T H) (few : Ls.length ≤ 1000)
    (k : ∀ l fs H', ExtN H H' → (∀ x o, H x = some o → (∀ ps, o ≠ .tbl ps) → l ≠ x) → Tabs T H' → H' l = some (.lst fs) → Paired (LamsAt q cells H') fs Ls → Q (.ref l) H') : tLst ta σ H Q :=
  h σ H _ t fun fs H1 e1 t1 p => g_newL (by rw [Paired.length p]; omega) fun l H2 n2 e2 h2 => k l fs H2 (e1.trans (ExtN.of e2)) (fun x o hx no z => by
    have := e1 _ _ hx no
    rw [← z, n2] at this
    cases this) (t1.ext e2) h2 (L2.Paired.mapP p fun _ _ q => q.ex e2)
end
/-! ### a comprehension over a range, its items told by a relation -/
section
variable {H : Hp} {Q : VK} {g : TG} {tt : TT} {te : TE} {vs : List Nat} {σ : L2.St} {K : PySem.W.Frag} {G : Hp → V → Int → Prop}
theorem g_lcRgR {n : Nat} (hz : n ≤ 100000) (hG : ∀ H1 H2 y d, TrT K H1 H2 → G H1 y d → G H2 y d)
    (step : ∀ (d : Int) H', 0 ≤ d → d < n → Ex H H' → LcTR g tt te vs σ G (fun _ => true) (.int d) d H')
    (last : ∀ D H' ys, H D = none → Ex H H' → H' D = some (.lst ys) → Paired (G H') ys (irange 0 n) → Q (.ref D) H') : tLc (iRng1 fun _ H2 R => R [.int (n : Int)] H2) g tt te vs σ H Q := by
  have big : ((100000 : Nat) : Int) < 2 ^ 62 := by decide
  refine ⟨(n : Int), rfl, by omega, by omega, fun D hD => ?_⟩
  rw [Int.toNat_natCast]
  refine lc_range (lo := 0) (n := n) (LcVR H D G (fun _ => true) (irange 0 n)) ⟨hD, Evl.Ex.new hD, [], upd_same, .nil⟩ ?_ ?_
  · intro i H' hi p
    have hd : (irange 0 n)[i]? = some (0 + (i : Int)) := by
      unfold irange
      rw [List.getElem?_map, List.getElem?_range hi]
      rfl
    exact lcR_turn (by rw [irange_len]; exact hz) hG p hd (by
      have q := step (0 + (i : Int)) H' (by omega) (by omega) p.2.1
      exact q)
  · rintro H' ⟨p1, p2, acc, p3, p4⟩
    rw [show (irange 0 n).take n = irange 0 n from List.take_of_length_le (by rw [irange_len]; exact Nat.le_refl _), filt_true] at p4
    exact last D H' acc p1 p2 p3 p4
end
theorem sc_arguments_in_gap : FnScope ["library", "rule", "sums", "gap"] ["library", "rule"] (defScope s_arguments_in_gap) := ⟨rfl, rfl, rfl, by decide +kernel, rfl, by decide +kernel, by decide +kernel⟩
theorem sc_arguments_in_fold : FnScope ["library", "rule", "sums", "fold"] ["library", "rule"] (defScope s_arguments_in_fold) := ⟨rfl, rfl, rfl, by decide +kernel, rfl, by decide +kernel, by decide +kernel⟩
theorem sc_arguments_in_fold_for_wall_sums : FnScope ["fold", "rule"] ["fold", "rule"] (defScope s_arguments_in_fold_for_wall_sums) := ⟨rfl, rfl, rfl, by decide +kernel, rfl, by decide +kernel, by decide +kernel⟩
theorem sc_arguments_in_fold_for_elapsed_sums : FnScope ["fold", "rule"] ["fold", "rule"] (defScope s_arguments_in_fold_for_elapsed_sums) := ⟨rfl, rfl, rfl, by decide +kernel, rfl, by decide +kernel, by decide +kernel⟩
theorem sc_holds_over_gaps : FnScope ["library", "rule", "sums", "order", "gap", "_"] ["library", "rule"] (defScope s_holds_over_gaps) := ⟨rfl, rfl, rfl, by decide +kernel, rfl, by decide +kernel, by decide +kernel⟩
theorem sc_holds_over_folds : FnScope ["library", "rule", "sums", "order", "_", "fold"] ["library", "rule"] (defScope s_holds_over_folds) := ⟨rfl, rfl, rfl, by decide +kernel, rfl, by decide +kernel, by decide +kernel⟩
theorem sc_offset_in_force : FnScope ["zone", "instant", "offset", "changes", "start", "after"] ["zone", "instant"] (defScope s_offset_in_force) := ⟨rfl, rfl, rfl, by decide +kernel, rfl, by decide +kernel, by decide +kernel⟩
theorem sc_instants_with : FnScope ["zone", "reading", "offset", "changes", "offsets", "_", "after", "hours"] ["zone", "reading"] (defScope s_instants_with) := ⟨rfl, rfl, rfl, by decide +kernel, rfl, by decide +kernel, by decide +kernel⟩
theorem sc_offset_before_gap : FnScope ["zone", "reading", "before", "changes", "start", "after"] ["zone", "reading"] (defScope s_offset_before_gap) := ⟨rfl, rfl, rfl, by decide +kernel, rfl, by decide +kernel, by decide +kernel⟩
theorem sc_passes_at : FnScope ["library", "zone", "reading", "gap", "fold", "many"] ["library", "zone", "reading"] (defScope s_passes_at) := ⟨rfl, rfl, rfl, by decide +kernel, rfl, by decide +kernel, by decide +kernel⟩
theorem sc_instant_of_time : FnScope ["library", "zone", "time", "reading", "turn", "instants"] ["library", "zone", "time"] (defScope s_instant_of_time) := ⟨rfl, rfl, rfl, by decide +kernel, rfl, by decide +kernel, by decide +kernel⟩
theorem sc_time_at : FnScope ["library", "zone", "instant", "reading", "instants"] ["library", "zone", "instant"] (defScope s_time_at) := ⟨rfl, rfl, rfl, by decide +kernel, rfl, by decide +kernel, by decide +kernel⟩
theorem sc_time_read : FnScope ["library", "zone", "reading", "gap", "fold", "many"] ["library", "zone", "reading"] (defScope s_time_read) := ⟨rfl, rfl, rfl, by decide +kernel, rfl, by decide +kernel, by decide +kernel⟩
theorem sc_is_between : FnScope ["value", "low", "high"] ["value", "low", "high"] (defScope s_is_between) := ⟨rfl, rfl, rfl, by decide +kernel, rfl, by decide +kernel, by decide +kernel⟩
theorem sc_is_tuple_of : FnScope ["many", "value"] ["many", "value"] (defScope s_is_tuple_of) := ⟨rfl, rfl, rfl, by decide +kernel, rfl, by decide +kernel, by decide +kernel⟩
theorem sc_is_instant : FnScope ["value"] ["value"] (defScope s_is_instant) := ⟨rfl, rfl, rfl, by decide +kernel, rfl, by decide +kernel, by decide +kernel⟩
theorem sc_is_reading : FnScope ["value"] ["value"] (defScope s_is_reading) := ⟨rfl, rfl, rfl, by decide +kernel, rfl, by decide +kernel, by decide +kernel⟩
theorem sc_is_duration : FnScope ["value"] ["value"] (defScope s_is_duration) := ⟨rfl, rfl, rfl, by decide +kernel, rfl, by decide +kernel, by decide +kernel⟩
theorem sc_is_zone : FnScope ["value", "offset", "changes"] ["value"] (defScope s_is_zone) := ⟨rfl, rfl, rfl, by decide +kernel, rfl, by decide +kernel, by decide +kernel⟩
theorem sc_are_changes_after : FnScope ["offset", "changes", "earliest", "change", "instant"] ["offset", "changes"] (defScope s_are_changes_after) := ⟨rfl, rfl, rfl, by decide +kernel, rfl, by decide +kernel, by decide +kernel⟩
theorem sc_is_change_after : FnScope ["before", "earliest", "value", "instant", "offset"] ["before", "earliest", "value"] (defScope s_is_change_after) := ⟨rfl, rfl, rfl, by decide +kernel, rfl, by decide +kernel, by decide +kernel⟩
theorem sc_check_zone : FnScope ["value"] ["value"] (defScope s_check_zone) := ⟨rfl, rfl, rfl, by decide +kernel, rfl, by decide +kernel, by decide +kernel⟩
theorem sc_check_instant : FnScope ["value"] ["value"] (defScope s_check_instant) := ⟨rfl, rfl, rfl, by decide +kernel, rfl, by decide +kernel, by decide +kernel⟩
theorem sc_check_reading : FnScope ["value"] ["value"] (defScope s_check_reading) := ⟨rfl, rfl, rfl, by decide +kernel, rfl, by decide +kernel, by decide +kernel⟩
theorem sc_offset_at : FnScope ["zone", "instant"] ["zone", "instant"] (defScope s_offset_at) := ⟨rfl, rfl, rfl, by decide +kernel, rfl, by decide +kernel, by decide +kernel⟩
theorem sc_kind_of : FnScope ["zone", "before", "changes", "skips", "repeats", "_", "after"] ["zone"] (defScope s_kind_of) := ⟨rfl, rfl, rfl, by decide +kernel, rfl, by decide +kernel, by decide +kernel⟩
theorem sc_instants_of : FnScope ["zone", "reading"] ["zone", "reading"] (defScope s_instants_of) := ⟨rfl, rfl, rfl, by decide +kernel, rfl, by decide +kernel, by decide +kernel⟩
theorem sc_is_library : FnScope ["value", "sums", "order", "gap", "fold"] ["value"] (defScope s_is_library) := ⟨rfl, rfl, rfl, by decide +kernel, rfl, by decide +kernel, by decide +kernel⟩
theorem sc_all_libraries : FnScope ["sums", "order", "gap", "fold"] [] (defScope s_all_libraries) := ⟨rfl, rfl, rfl, by decide +kernel, rfl, by decide +kernel, by decide +kernel⟩
theorem sc_check_library : FnScope ["value"] ["value"] (defScope s_check_library) := ⟨rfl, rfl, rfl, by decide +kernel, rfl, by decide +kernel, by decide +kernel⟩
theorem sc_is_time : FnScope ["library", "zone", "value", "reading", "turn"] ["library", "zone", "value"] (defScope s_is_time) := ⟨rfl, rfl, rfl, by decide +kernel, rfl, by decide +kernel, by decide +kernel⟩
theorem sc_check_time : FnScope ["library", "zone", "value"] ["library", "zone", "value"] (defScope s_check_time) := ⟨rfl, rfl, rfl, by decide +kernel, rfl, by decide +kernel, by decide +kernel⟩
theorem sc_to_instant : FnScope ["library", "zone", "time"] ["library", "zone", "time"] (defScope s_to_instant) := ⟨rfl, rfl, rfl, by decide +kernel, rfl, by decide +kernel, by decide +kernel⟩
theorem sc_from_instant : FnScope ["library", "zone", "instant"] ["library", "zone", "instant"] (defScope s_from_instant) := ⟨rfl, rfl, rfl, by decide +kernel, rfl, by decide +kernel, by decide +kernel⟩
theorem sc_read : FnScope ["library", "zone", "reading"] ["library", "zone", "reading"] (defScope s_read) := ⟨rfl, rfl, rfl, by decide +kernel, rfl, by decide +kernel, by decide +kernel⟩
theorem sc_place_of : FnScope ["way", "library", "zone", "time"] ["way", "library", "zone", "time"] (defScope s_place_of) := ⟨rfl, rfl, rfl, by decide +kernel, rfl, by decide +kernel, by decide +kernel⟩
theorem sc_time_after : FnScope ["library", "zone", "time", "duration", "sums", "place"] ["library", "zone", "time", "duration"] (defScope s_time_after) := ⟨rfl, rfl, rfl, by decide +kernel, rfl, by decide +kernel, by decide +kernel⟩
theorem sc_hours_between : FnScope ["library", "zone", "one", "other", "sums"] ["library", "zone", "one", "other"] (defScope s_hours_between) := ⟨rfl, rfl, rfl, by decide +kernel, rfl, by decide +kernel, by decide +kernel⟩
theorem sc_order_of : FnScope ["library", "zone", "one", "other", "order", "left", "right"] ["library", "zone", "one", "other"] (defScope s_order_of) := ⟨rfl, rfl, rfl, by decide +kernel, rfl, by decide +kernel, by decide +kernel⟩
theorem sc_from_universal_and_back : FnScope ["library", "zone", "instant", "time"] ["library", "zone", "instant"] (defScope s_from_universal_and_back) := ⟨rfl, rfl, rfl, by decide +kernel, rfl, by decide +kernel, by decide +kernel⟩
theorem sc_to_universal_and_back : FnScope ["library", "zone", "time"] ["library", "zone", "time"] (defScope s_to_universal_and_back) := ⟨rfl, rfl, rfl, by decide +kernel, rfl, by decide +kernel, by decide +kernel⟩
theorem sc_every_reading : FnScope ["library", "zone", "reading", "time"] ["library", "zone", "reading"] (defScope s_every_reading) := ⟨rfl, rfl, rfl, by decide +kernel, rfl, by decide +kernel, by decide +kernel⟩
theorem sc_some_reading : FnScope ["library", "zone", "reading"] ["library", "zone", "reading"] (defScope s_some_reading) := ⟨rfl, rfl, rfl, by decide +kernel, rfl, by decide +kernel, by decide +kernel⟩
theorem sc_there_and_back : FnScope ["library", "zone", "time", "duration", "there"] ["library", "zone", "time", "duration"] (defScope s_there_and_back) := ⟨rfl, rfl, rfl, by decide +kernel, rfl, by decide +kernel, by decide +kernel⟩
theorem sc_sum_of_durations : FnScope ["library", "zone", "time", "duration", "more", "between", "by_steps"] ["library", "zone", "time", "duration", "more"] (defScope s_sum_of_durations) := ⟨rfl, rfl, rfl, by decide +kernel, rfl, by decide +kernel, by decide +kernel⟩
theorem sc_elapsed_time : FnScope ["library", "zone", "time", "duration", "later"] ["library", "zone", "time", "duration"] (defScope s_elapsed_time) := ⟨rfl, rfl, rfl, by decide +kernel, rfl, by decide +kernel, by decide +kernel⟩
theorem sc_same_clock : FnScope ["library", "zone", "time", "later"] ["library", "zone", "time"] (defScope s_same_clock) := ⟨rfl, rfl, rfl, by decide +kernel, rfl, by decide +kernel, by decide +kernel⟩
theorem sc_later : FnScope ["library", "zone", "time", "duration", "later"] ["library", "zone", "time", "duration"] (defScope s_later) := ⟨rfl, rfl, rfl, by decide +kernel, rfl, by decide +kernel, by decide +kernel⟩
theorem sc_sums_told : FnScope ["library", "zone", "time", "duration"] ["library", "zone", "time", "duration"] (defScope s_sums_told) := ⟨rfl, rfl, rfl, by decide +kernel, rfl, by decide +kernel, by decide +kernel⟩
theorem sc_difference_recovers : FnScope ["library", "zone", "one", "other"] ["library", "zone", "one", "other"] (defScope s_difference_recovers) := ⟨rfl, rfl, rfl, by decide +kernel, rfl, by decide +kernel, by decide +kernel⟩
theorem sc_order_by_difference : FnScope ["library", "zone", "one", "other", "is_less"] ["library", "zone", "one", "other"] (defScope s_order_by_difference) := ⟨rfl, rfl, rfl, by decide +kernel, rfl, by decide +kernel, by decide +kernel⟩
theorem sc_have_one_instant : FnScope ["library", "zone", "one", "other"] ["library", "zone", "one", "other"] (defScope s_have_one_instant) := ⟨rfl, rfl, rfl, by decide +kernel, rfl, by decide +kernel, by decide +kernel⟩
theorem sc_equal_means_one_instant : FnScope ["library", "zone", "one", "other"] ["library", "zone", "one", "other"] (defScope s_equal_means_one_instant) := ⟨rfl, rfl, rfl, by decide +kernel, rfl, by decide +kernel, by decide +kernel⟩
theorem sc_one_instant_means_equal : FnScope ["library", "zone", "one", "other"] ["library", "zone", "one", "other"] (defScope s_one_instant_means_equal) := ⟨rfl, rfl, rfl, by decide +kernel, rfl, by decide +kernel, by decide +kernel⟩
theorem sc_one_instant_one_time : FnScope ["library", "zone", "one", "other"] ["library", "zone", "one", "other"] (defScope s_one_instant_one_time) := ⟨rfl, rfl, rfl, by decide +kernel, rfl, by decide +kernel, by decide +kernel⟩
theorem sc_order_of_instants : FnScope ["library", "zone", "one", "other", "is_less"] ["library", "zone", "one", "other"] (defScope s_order_of_instants) := ⟨rfl, rfl, rfl, by decide +kernel, rfl, by decide +kernel, by decide +kernel⟩
theorem sc_order_kept : FnScope ["library", "zone", "one", "other", "duration"] ["library", "zone", "one", "other", "duration"] (defScope s_order_kept) := ⟨rfl, rfl, rfl, by decide +kernel, rfl, by decide +kernel, by decide +kernel⟩
theorem sc_equal_sums : FnScope ["library", "zone", "one", "other", "duration"] ["library", "zone", "one", "other", "duration"] (defScope s_equal_sums) := ⟨rfl, rfl, rfl, by decide +kernel, rfl, by decide +kernel, by decide +kernel⟩
theorem sc_are_sums_in_order : FnScope ["wanted", "library", "zone", "one", "other", "duration", "left", "right"] ["wanted", "library", "zone", "one", "other", "duration"] (defScope s_are_sums_in_order) := ⟨rfl, rfl, rfl, by decide +kernel, rfl, by decide +kernel, by decide +kernel⟩
theorem sc_is_true_of : FnScope ["library", "zone", "rule", "arguments", "statement"] ["library", "zone", "rule", "arguments"] (defScope s_is_true_of) := ⟨rfl, rfl, rfl, by decide +kernel, rfl, by decide +kernel, by decide +kernel⟩
theorem sc_rules : FnScope [] [] (defScope s_rules) := ⟨rfl, rfl, rfl, by decide +kernel, rfl, by decide +kernel, by decide +kernel⟩
theorem sc_is_rule : FnScope ["value"] ["value"] (defScope s_is_rule) := ⟨rfl, rfl, rfl, by decide +kernel, rfl, by decide +kernel, by decide +kernel⟩
theorem sc_check_rule : FnScope ["value"] ["value"] (defScope s_check_rule) := ⟨rfl, rfl, rfl, by decide +kernel, rfl, by decide +kernel, by decide +kernel⟩
theorem sc_holds_for : FnScope ["library", "zone", "rule", "arguments"] ["library", "zone", "rule", "arguments"] (defScope s_holds_for) := ⟨rfl, rfl, rfl, by decide +kernel, rfl, by decide +kernel, by decide +kernel⟩
theorem sc_are_arguments : FnScope ["library", "zone", "words", "value", "word", "item"] ["library", "zone", "words", "value"] (defScope s_are_arguments) := ⟨rfl, rfl, rfl, by decide +kernel, rfl, by decide +kernel, by decide +kernel⟩
theorem sc_is_argument : FnScope ["library", "zone", "word", "value"] ["library", "zone", "word", "value"] (defScope s_is_argument) := ⟨rfl, rfl, rfl, by decide +kernel, rfl, by decide +kernel, by decide +kernel⟩
theorem sc_check_kind : FnScope ["value"] ["value"] (defScope s_check_kind) := ⟨rfl, rfl, rfl, by decide +kernel, rfl, by decide +kernel, by decide +kernel⟩
theorem sc_holds : FnScope ["library", "kind", "rule"] ["library", "kind", "rule"] (defScope s_holds) := ⟨rfl, rfl, rfl, by decide +kernel, rfl, by decide +kernel, by decide +kernel⟩
theorem sc_counterexample : FnScope ["library", "kind", "rule"] ["library", "kind", "rule"] (defScope s_counterexample) := ⟨rfl, rfl, rfl, by decide +kernel, rfl, by decide +kernel, by decide +kernel⟩
theorem sc_check_rules : FnScope ["value", "item"] ["value"] (defScope s_check_rules) := ⟨rfl, rfl, rfl, by decide +kernel, rfl, by decide +kernel, by decide +kernel⟩
theorem sc_profile : FnScope ["library", "kind", "rule"] ["library", "kind"] (defScope s_profile) := ⟨rfl, rfl, rfl, by decide +kernel, rfl, by decide +kernel, by decide +kernel⟩
theorem sc_implies : FnScope ["kind", "one", "other"] ["kind", "one", "other"] (defScope s_implies) := ⟨rfl, rfl, rfl, by decide +kernel, rfl, by decide +kernel, by decide +kernel⟩
theorem sc_parting : FnScope ["kind", "one", "other", "library"] ["kind", "one", "other"] (defScope s_parting) := ⟨rfl, rfl, rfl, by decide +kernel, rfl, by decide +kernel, by decide +kernel⟩
theorem sc_libraries_with : FnScope ["kind", "wanted", "library"] ["kind", "wanted"] (defScope s_libraries_with) := ⟨rfl, rfl, rfl, by decide +kernel, rfl, by decide +kernel, by decide +kernel⟩
theorem sc_keeps_all : FnScope ["library", "kind", "wanted", "rule"] ["library", "kind", "wanted"] (defScope s_keeps_all) := ⟨rfl, rfl, rfl, by decide +kernel, rfl, by decide +kernel, by decide +kernel⟩
theorem sc_most_rules : FnScope ["kind", "counts", "most", "library"] ["kind"] (defScope s_most_rules) := ⟨rfl, rfl, rfl, by decide +kernel, rfl, by decide +kernel, by decide +kernel⟩
theorem sc_check_duration : FnScope ["value"] ["value"] (defScope s_check_duration) := ⟨rfl, rfl, rfl, by decide +kernel, rfl, by decide +kernel, by decide +kernel⟩
theorem sc_add : FnScope ["library", "zone", "time", "duration"] ["library", "zone", "time", "duration"] (defScope s_add) := ⟨rfl, rfl, rfl, by decide +kernel, rfl, by decide +kernel, by decide +kernel⟩
theorem sc_subtract : FnScope ["library", "zone", "one", "other"] ["library", "zone", "one", "other"] (defScope s_subtract) := ⟨rfl, rfl, rfl, by decide +kernel, rfl, by decide +kernel, by decide +kernel⟩
theorem sc_compare : FnScope ["library", "zone", "one", "other"] ["library", "zone", "one", "other"] (defScope s_compare) := ⟨rfl, rfl, rfl, by decide +kernel, rfl, by decide +kernel, by decide +kernel⟩
theorem sc_integer_of : FnScope ["word", "digits", "number", "sign"] ["word"] (defScope s_integer_of) := ⟨rfl, rfl, rfl, by decide +kernel, rfl, by decide +kernel, by decide +kernel⟩
theorem sc_check_text : FnScope ["value"] ["value"] (defScope s_check_text) := ⟨rfl, rfl, rfl, by decide +kernel, rfl, by decide +kernel, by decide +kernel⟩
theorem sc_read_zone : FnScope ["text", "first", "others", "zone", "word"] ["text"] (defScope s_read_zone) := ⟨rfl, rfl, rfl, by decide +kernel, rfl, by decide +kernel, by decide +kernel⟩
theorem sc_change_of : FnScope ["word", "part"] ["word"] (defScope s_change_of) := ⟨rfl, rfl, rfl, by decide +kernel, rfl, by decide +kernel, by decide +kernel⟩
theorem sc_law_taken : FnScope ["row", "many", "found", "cell"] ["row", "many"] (defScope s_law_taken) := ⟨rfl, rfl, rfl, by decide +kernel, rfl, by decide +kernel, by decide +kernel⟩
theorem sc_law : FnScope ["script", "row", "n", "zone", "aware", "naive", "exact"] ["script"] (defScope s_law) := ⟨rfl, rfl, rfl, by decide +kernel, rfl, by decide +kernel, by decide +kernel⟩
structure Txt (w : World) (K : PySem.W.Frag) (mg : Str → Option Value) where
  f_arguments_in_gap : FA K mg "arguments_in_gap" s_arguments_in_gap ["library", "rule"]
  f_arguments_in_fold : FA K mg "arguments_in_fold" s_arguments_in_fold ["library", "rule"]
  f_arguments_in_fold_for_wall_sums : FA K mg "_arguments_in_fold_for_wall_sums" s_arguments_in_fold_for_wall_sums ["fold", "rule"]
  f_arguments_in_fold_for_elapsed_sums : FA K mg "_arguments_in_fold_for_elapsed_sums" s_arguments_in_fold_for_elapsed_sums ["fold", "rule"]
  f_holds_over_gaps : FA K mg "holds_over_gaps" s_holds_over_gaps ["library", "rule"]
  f_holds_over_folds : FA K mg "holds_over_folds" s_holds_over_folds ["library", "rule"]
  f_offset_in_force : FA K mg "offset_in_force" s_offset_in_force ["zone", "instant"]
  f_instants_with : FA K mg "instants_with" s_instants_with ["zone", "reading"]
  f_offset_before_gap : FA K mg "offset_before_gap" s_offset_before_gap ["zone", "reading"]
  f_passes_at : FA K mg "passes_at" s_passes_at ["library", "zone", "reading"]
  f_instant_of_time : FA K mg "instant_of_time" s_instant_of_time ["library", "zone", "time"]
  f_time_at : FA K mg "time_at" s_time_at ["library", "zone", "instant"]
  f_time_read : FA K mg "time_read" s_time_read ["library", "zone", "reading"]
  f_is_between : FA K mg "is_between" s_is_between ["value", "low", "high"]
  f_is_tuple_of : FA K mg "is_tuple_of" s_is_tuple_of ["many", "value"]
  f_is_instant : FA K mg "is_instant" s_is_instant ["value"]
  f_is_reading : FA K mg "is_reading" s_is_reading ["value"]
  f_is_duration : FA K mg "is_duration" s_is_duration ["value"]
  f_is_zone : FA K mg "is_zone" s_is_zone ["value"]
  f_are_changes_after : FA K mg "_are_changes_after" s_are_changes_after ["offset", "changes"]
  f_is_change_after : FA K mg "_is_change_after" s_is_change_after ["before", "earliest", "value"]
  f_check_zone : FA K mg "check_zone" s_check_zone ["value"]
  f_check_instant : FA K mg "check_instant" s_check_instant ["value"]
  f_check_reading : FA K mg "check_reading" s_check_reading ["value"]
  f_offset_at : FA K mg "offset_at" s_offset_at ["zone", "instant"]
  f_kind_of : FA K mg "kind_of" s_kind_of ["zone"]
  f_instants_of : FA K mg "instants_of" s_instants_of ["zone", "reading"]
  f_is_library : FA K mg "is_library" s_is_library ["value"]
  f_all_libraries : FA K mg "all_libraries" s_all_libraries []
  f_check_library : FA K mg "check_library" s_check_library ["value"]
  f_is_time : FA K mg "is_time" s_is_time ["library", "zone", "value"]
  f_check_time : FA K mg "check_time" s_check_time ["library", "zone", "value"]
  f_to_instant : FA K mg "to_instant" s_to_instant ["library", "zone", "time"]
  f_from_instant : FA K mg "from_instant" s_from_instant ["library", "zone", "instant"]
  f_read : FA K mg "read" s_read ["library", "zone", "reading"]
  f_place_of : FA K mg "place_of" s_place_of ["way", "library", "zone", "time"]
  f_time_after : FA K mg "time_after" s_time_after ["library", "zone", "time", "duration"]
  f_hours_between : FA K mg "hours_between" s_hours_between ["library", "zone", "one", "other"]
  f_order_of : FA K mg "order_of" s_order_of ["library", "zone", "one", "other"]
  f_from_universal_and_back : FA K mg "_from_universal_and_back" s_from_universal_and_back ["library", "zone", "instant"]
  f_to_universal_and_back : FA K mg "_to_universal_and_back" s_to_universal_and_back ["library", "zone", "time"]
  f_every_reading : FA K mg "_every_reading" s_every_reading ["library", "zone", "reading"]
  f_some_reading : FA K mg "_some_reading" s_some_reading ["library", "zone", "reading"]
  f_there_and_back : FA K mg "_there_and_back" s_there_and_back ["library", "zone", "time", "duration"]
  f_sum_of_durations : FA K mg "_sum_of_durations" s_sum_of_durations ["library", "zone", "time", "duration", "more"]
  f_elapsed_time : FA K mg "_elapsed_time" s_elapsed_time ["library", "zone", "time", "duration"]
  f_same_clock : FA K mg "_same_clock" s_same_clock ["library", "zone", "time"]
  f_later : FA K mg "_later" s_later ["library", "zone", "time", "duration"]
  f_sums_told : FA K mg "_sums_told" s_sums_told ["library", "zone", "time", "duration"]
  f_difference_recovers : FA K mg "_difference_recovers" s_difference_recovers ["library", "zone", "one", "other"]
  f_order_by_difference : FA K mg "_order_by_difference" s_order_by_difference ["library", "zone", "one", "other"]
  f_have_one_instant : FA K mg "_have_one_instant" s_have_one_instant ["library", "zone", "one", "other"]
  f_equal_means_one_instant : FA K mg "_equal_means_one_instant" s_equal_means_one_instant ["library", "zone", "one", "other"]
  f_one_instant_means_equal : FA K mg "_one_instant_means_equal" s_one_instant_means_equal ["library", "zone", "one", "other"]
  f_one_instant_one_time : FA K mg "_one_instant_one_time" s_one_instant_one_time ["library", "zone", "one", "other"]
  f_order_of_instants : FA K mg "_order_of_instants" s_order_of_instants ["library", "zone", "one", "other"]
  f_order_kept : FA K mg "_order_kept" s_order_kept ["library", "zone", "one", "other", "duration"]
  f_equal_sums : FA K mg "_equal_sums" s_equal_sums ["library", "zone", "one", "other", "duration"]
  f_are_sums_in_order : FA K mg "_are_sums_in_order" s_are_sums_in_order ["wanted", "library", "zone", "one", "other", "duration"]
  f_is_true_of : FA K mg "is_true_of" s_is_true_of ["library", "zone", "rule", "arguments"]
  f_rules : FA K mg "rules" s_rules []
  f_is_rule : FA K mg "is_rule" s_is_rule ["value"]
  f_check_rule : FA K mg "check_rule" s_check_rule ["value"]
  f_holds_for : FA K mg "holds_for" s_holds_for ["library", "zone", "rule", "arguments"]
  f_are_arguments : FA K mg "_are_arguments" s_are_arguments ["library", "zone", "words", "value"]
  f_is_argument : FA K mg "_is_argument" s_is_argument ["library", "zone", "word", "value"]
  f_check_kind : FA K mg "check_kind" s_check_kind ["value"]
  f_holds : FA K mg "holds" s_holds ["library", "kind", "rule"]
  f_counterexample : FA K mg "counterexample" s_counterexample ["library", "kind", "rule"]
  f_check_rules : FA K mg "check_rules" s_check_rules ["value"]
  f_profile : FA K mg "profile" s_profile ["library", "kind"]
  f_implies : FA K mg "implies" s_implies ["kind", "one", "other"]
  f_parting : FA K mg "parting" s_parting ["kind", "one", "other"]
  f_libraries_with : FA K mg "libraries_with" s_libraries_with ["kind", "wanted"]
  f_keeps_all : FA K mg "_keeps_all" s_keeps_all ["library", "kind", "wanted"]
  f_most_rules : FA K mg "most_rules" s_most_rules ["kind"]
  f_check_duration : FA K mg "check_duration" s_check_duration ["value"]
  f_add : FA K mg "add" s_add ["library", "zone", "time", "duration"]
  f_subtract : FA K mg "subtract" s_subtract ["library", "zone", "one", "other"]
  f_compare : FA K mg "compare" s_compare ["library", "zone", "one", "other"]
  f_integer_of : FA K mg "integer_of" s_integer_of ["word"]
  f_check_text : FA K mg "check_text" s_check_text ["value"]
  f_read_zone : FA K mg "read_zone" s_read_zone ["text"]
  f_change_of : FA K mg "_change_of" s_change_of ["word"]
  f_law_taken : FA K mg "_law_taken" s_law_taken ["row", "many"]
  f_law : FA K mg "law" s_law ["script"]
  e_TimeError : Addr
  g_TimeError : mg "TimeError" = some (.ref e_TimeError)
  e_NotText : Addr
  g_NotText : mg "NotText" = some (.ref e_NotText)
  x_NotText : ErrC K e_NotText
  m_NotText : PySem.W.exmOne K (.ref e_NotText) (.ref e_TimeError) = some true
  e_InvalidText : Addr
  g_InvalidText : mg "InvalidText" = some (.ref e_InvalidText)
  x_InvalidText : ErrC K e_InvalidText
  m_InvalidText : PySem.W.exmOne K (.ref e_InvalidText) (.ref e_TimeError) = some true
  kits : Kits K [e_NotText, e_InvalidText]
  z_tuple : mg "tuple" = none
  z_sorted : mg "sorted" = none
  z_len : mg "len" = none
  z_isinstance : mg "isinstance" = none
  z_bool : mg "bool" = none
  z_int : mg "int" = none
  z_abs : mg "abs" = none
  z_str : mg "str" = none
  z_all : mg "all" = none
  z_zip : mg "zip" = none
  z_set : mg "set" = none
  z_max : mg "max" = none
  a_IN_GAP : Addr
  c_IN_GAP : mg "IN_GAP" = some (.ref a_IN_GAP)
  t_IN_GAP : ∃ es n, KDict K w a_IN_GAP es n
  b_IN_GAP_0_0 : Addr
  q_IN_GAP_0_0 : ∀ H : Hp, SqT K H b_IN_GAP_0_0 [.int 0, .int 0]
  b_IN_GAP_0 : Addr
  q_IN_GAP_0 : ∀ H : Hp, SqT K H b_IN_GAP_0 [.ref b_IN_GAP_0_0]
  k_IN_GAP_0 : KDct K w a_IN_GAP "to universal and back" (.ref b_IN_GAP_0)
  b_IN_GAP_1 : Addr
  q_IN_GAP_1 : ∀ H : Hp, SqT K H b_IN_GAP_1 [.int 0]
  k_IN_GAP_1 : KDct K w a_IN_GAP "every reading" (.ref b_IN_GAP_1)
  b_IN_GAP_2 : Addr
  q_IN_GAP_2 : ∀ H : Hp, SqT K H b_IN_GAP_2 [.int 0]
  k_IN_GAP_2 : KDct K w a_IN_GAP "some reading" (.ref b_IN_GAP_2)
  b_IN_GAP_3_0 : Addr
  q_IN_GAP_3_0 : ∀ H : Hp, SqT K H b_IN_GAP_3_0 [.int (-1), .int 0]
  b_IN_GAP_3 : Addr
  q_IN_GAP_3 : ∀ H : Hp, SqT K H b_IN_GAP_3 [.ref b_IN_GAP_3_0, .int 1, .int 2]
  k_IN_GAP_3 : KDct K w a_IN_GAP "sum of durations" (.ref b_IN_GAP_3)
  b_IN_GAP_4_0 : Addr
  q_IN_GAP_4_0 : ∀ H : Hp, SqT K H b_IN_GAP_4_0 [.int (-1), .int 0]
  b_IN_GAP_4 : Addr
  q_IN_GAP_4 : ∀ H : Hp, SqT K H b_IN_GAP_4 [.ref b_IN_GAP_4_0, .int 3]
  k_IN_GAP_4 : KDct K w a_IN_GAP "elapsed time" (.ref b_IN_GAP_4)
  b_IN_GAP_5_0 : Addr
  q_IN_GAP_5_0 : ∀ H : Hp, SqT K H b_IN_GAP_5_0 [.int (-1), .int 0]
  b_IN_GAP_5 : Addr
  q_IN_GAP_5 : ∀ H : Hp, SqT K H b_IN_GAP_5 [.ref b_IN_GAP_5_0, .int 1]
  k_IN_GAP_5 : KDct K w a_IN_GAP "sums told" (.ref b_IN_GAP_5)
  b_IN_GAP_6_0 : Addr
  q_IN_GAP_6_0 : ∀ H : Hp, SqT K H b_IN_GAP_6_0 [.int (-1), .int 0]
  b_IN_GAP_6_1 : Addr
  q_IN_GAP_6_1 : ∀ H : Hp, SqT K H b_IN_GAP_6_1 [.int 0, .int 0]
  b_IN_GAP_6 : Addr
  q_IN_GAP_6 : ∀ H : Hp, SqT K H b_IN_GAP_6 [.ref b_IN_GAP_6_0, .ref b_IN_GAP_6_1]
  k_IN_GAP_6 : KDct K w a_IN_GAP "difference recovers" (.ref b_IN_GAP_6)
  b_IN_GAP_7_0 : Addr
  q_IN_GAP_7_0 : ∀ H : Hp, SqT K H b_IN_GAP_7_0 [.int 0, .int 0]
  b_IN_GAP_7_1 : Addr
  q_IN_GAP_7_1 : ∀ H : Hp, SqT K H b_IN_GAP_7_1 [.int 2, .int 0]
  b_IN_GAP_7 : Addr
  q_IN_GAP_7 : ∀ H : Hp, SqT K H b_IN_GAP_7 [.ref b_IN_GAP_7_0, .ref b_IN_GAP_7_1]
  k_IN_GAP_7 : KDct K w a_IN_GAP "order by difference" (.ref b_IN_GAP_7)
  b_IN_GAP_8_0 : Addr
  q_IN_GAP_8_0 : ∀ H : Hp, SqT K H b_IN_GAP_8_0 [.int 0, .int 0]
  b_IN_GAP_8_1 : Addr
  q_IN_GAP_8_1 : ∀ H : Hp, SqT K H b_IN_GAP_8_1 [.int 2, .int 0]
  b_IN_GAP_8 : Addr
  q_IN_GAP_8 : ∀ H : Hp, SqT K H b_IN_GAP_8 [.ref b_IN_GAP_8_0, .ref b_IN_GAP_8_1]
  k_IN_GAP_8 : KDct K w a_IN_GAP "one instant means equal" (.ref b_IN_GAP_8)
  b_IN_GAP_9_0 : Addr
  q_IN_GAP_9_0 : ∀ H : Hp, SqT K H b_IN_GAP_9_0 [.int 0, .int 0]
  b_IN_GAP_9_1 : Addr
  q_IN_GAP_9_1 : ∀ H : Hp, SqT K H b_IN_GAP_9_1 [.int 2, .int 0]
  b_IN_GAP_9 : Addr
  q_IN_GAP_9 : ∀ H : Hp, SqT K H b_IN_GAP_9 [.ref b_IN_GAP_9_0, .ref b_IN_GAP_9_1]
  k_IN_GAP_9 : KDct K w a_IN_GAP "one instant, one time" (.ref b_IN_GAP_9)
  b_IN_GAP_10_0 : Addr
  q_IN_GAP_10_0 : ∀ H : Hp, SqT K H b_IN_GAP_10_0 [.int 0, .int 0]
  b_IN_GAP_10_1 : Addr
  q_IN_GAP_10_1 : ∀ H : Hp, SqT K H b_IN_GAP_10_1 [.int 2, .int 0]
  b_IN_GAP_10 : Addr
  q_IN_GAP_10 : ∀ H : Hp, SqT K H b_IN_GAP_10 [.ref b_IN_GAP_10_0, .ref b_IN_GAP_10_1]
  k_IN_GAP_10 : KDct K w a_IN_GAP "order of instants" (.ref b_IN_GAP_10)
  n_IN_GAP_0 : PySem.W.nsIn K a_IN_GAP "from universal and back" = some none
  n_IN_GAP_1 : PySem.W.nsIn K a_IN_GAP "there and back" = some none
  n_IN_GAP_2 : PySem.W.nsIn K a_IN_GAP "same clock" = some none
  n_IN_GAP_3 : PySem.W.nsIn K a_IN_GAP "later" = some none
  n_IN_GAP_4 : PySem.W.nsIn K a_IN_GAP "equal means one instant" = some none
  n_IN_GAP_5 : PySem.W.nsIn K a_IN_GAP "order kept" = some none
  n_IN_GAP_6 : PySem.W.nsIn K a_IN_GAP "equal sums" = some none
  a_IN_FOLD : Addr
  c_IN_FOLD : mg "IN_FOLD" = some (.ref a_IN_FOLD)
  t_IN_FOLD : ∃ es n, KDict K w a_IN_FOLD es n
  b_IN_FOLD_0 : Addr
  q_IN_FOLD_0 : ∀ H : Hp, SqT K H b_IN_FOLD_0 [.int (-1)]
  k_IN_FOLD_0 : KDct K w a_IN_FOLD "every reading" (.ref b_IN_FOLD_0)
  b_IN_FOLD_1 : Addr
  q_IN_FOLD_1 : ∀ H : Hp, SqT K H b_IN_FOLD_1 [.int (-1)]
  k_IN_FOLD_1 : KDct K w a_IN_FOLD "some reading" (.ref b_IN_FOLD_1)
  b_IN_FOLD_2_0 : Addr
  q_IN_FOLD_2_0 : ∀ H : Hp, SqT K H b_IN_FOLD_2_0 [.int (-3), .int 0]
  b_IN_FOLD_2 : Addr
  q_IN_FOLD_2 : ∀ H : Hp, SqT K H b_IN_FOLD_2 [.ref b_IN_FOLD_2_0, .int 2]
  k_IN_FOLD_2 : KDct K w a_IN_FOLD "sums told" (.ref b_IN_FOLD_2)
  b_IN_FOLD_3_0 : Addr
  q_IN_FOLD_3_0 : ∀ H : Hp, SqT K H b_IN_FOLD_3_0 [.int (-3), .int 0]
  b_IN_FOLD_3_1 : Addr
  q_IN_FOLD_3_1 : ∀ H : Hp, SqT K H b_IN_FOLD_3_1 [.int (-1), .int 1]
  b_IN_FOLD_3 : Addr
  q_IN_FOLD_3 : ∀ H : Hp, SqT K H b_IN_FOLD_3 [.ref b_IN_FOLD_3_0, .ref b_IN_FOLD_3_1]
  k_IN_FOLD_3 : KDct K w a_IN_FOLD "difference recovers" (.ref b_IN_FOLD_3)
  b_IN_FOLD_4_0 : Addr
  q_IN_FOLD_4_0 : ∀ H : Hp, SqT K H b_IN_FOLD_4_0 [.int (-1), .int 0]
  b_IN_FOLD_4_1 : Addr
  q_IN_FOLD_4_1 : ∀ H : Hp, SqT K H b_IN_FOLD_4_1 [.int (-1), .int 1]
  b_IN_FOLD_4 : Addr
  q_IN_FOLD_4 : ∀ H : Hp, SqT K H b_IN_FOLD_4 [.ref b_IN_FOLD_4_0, .ref b_IN_FOLD_4_1]
  k_IN_FOLD_4 : KDct K w a_IN_FOLD "order by difference" (.ref b_IN_FOLD_4)
  b_IN_FOLD_5_0 : Addr
  q_IN_FOLD_5_0 : ∀ H : Hp, SqT K H b_IN_FOLD_5_0 [.int (-1), .int 0]
  b_IN_FOLD_5_1 : Addr
  q_IN_FOLD_5_1 : ∀ H : Hp, SqT K H b_IN_FOLD_5_1 [.int (-1), .int 1]
  b_IN_FOLD_5 : Addr
  q_IN_FOLD_5 : ∀ H : Hp, SqT K H b_IN_FOLD_5 [.ref b_IN_FOLD_5_0, .ref b_IN_FOLD_5_1]
  k_IN_FOLD_5 : KDct K w a_IN_FOLD "equal means one instant" (.ref b_IN_FOLD_5)
  b_IN_FOLD_6_0 : Addr
  q_IN_FOLD_6_0 : ∀ H : Hp, SqT K H b_IN_FOLD_6_0 [.int (-1), .int 0]
  b_IN_FOLD_6_1 : Addr
  q_IN_FOLD_6_1 : ∀ H : Hp, SqT K H b_IN_FOLD_6_1 [.int (-1), .int 1]
  b_IN_FOLD_6 : Addr
  q_IN_FOLD_6 : ∀ H : Hp, SqT K H b_IN_FOLD_6 [.ref b_IN_FOLD_6_0, .ref b_IN_FOLD_6_1]
  k_IN_FOLD_6 : KDct K w a_IN_FOLD "order of instants" (.ref b_IN_FOLD_6)
  n_IN_FOLD_0 : PySem.W.nsIn K a_IN_FOLD "from universal and back" = some none
  n_IN_FOLD_1 : PySem.W.nsIn K a_IN_FOLD "to universal and back" = some none
  n_IN_FOLD_2 : PySem.W.nsIn K a_IN_FOLD "there and back" = some none
  n_IN_FOLD_3 : PySem.W.nsIn K a_IN_FOLD "sum of durations" = some none
  n_IN_FOLD_4 : PySem.W.nsIn K a_IN_FOLD "elapsed time" = some none
  n_IN_FOLD_5 : PySem.W.nsIn K a_IN_FOLD "same clock" = some none
  n_IN_FOLD_6 : PySem.W.nsIn K a_IN_FOLD "later" = some none
  n_IN_FOLD_7 : PySem.W.nsIn K a_IN_FOLD "one instant means equal" = some none
  n_IN_FOLD_8 : PySem.W.nsIn K a_IN_FOLD "one instant, one time" = some none
  n_IN_FOLD_9 : PySem.W.nsIn K a_IN_FOLD "order kept" = some none
  n_IN_FOLD_10 : PySem.W.nsIn K a_IN_FOLD "equal sums" = some none
  a_PASSES_IN_GAP : Addr
  c_PASSES_IN_GAP : mg "PASSES_IN_GAP" = some (.ref a_PASSES_IN_GAP)
  t_PASSES_IN_GAP : ∃ es n, KDict K w a_PASSES_IN_GAP es n
  b_PASSES_IN_GAP_0 : Addr
  q_PASSES_IN_GAP_0 : ∀ H : Hp, SqT K H b_PASSES_IN_GAP_0 [.int 0]
  k_PASSES_IN_GAP_0 : KDct K w a_PASSES_IN_GAP "keep" (.ref b_PASSES_IN_GAP_0)
  b_PASSES_IN_GAP_1 : Addr
  q_PASSES_IN_GAP_1 : ∀ H : Hp, SqT K H b_PASSES_IN_GAP_1 []
  k_PASSES_IN_GAP_1 : KDct K w a_PASSES_IN_GAP "refuse" (.ref b_PASSES_IN_GAP_1)
  b_PASSES_IN_GAP_2 : Addr
  q_PASSES_IN_GAP_2 : ∀ H : Hp, SqT K H b_PASSES_IN_GAP_2 []
  k_PASSES_IN_GAP_2 : KDct K w a_PASSES_IN_GAP "shift" (.ref b_PASSES_IN_GAP_2)
  a_PASSES_IN_FOLD : Addr
  c_PASSES_IN_FOLD : mg "PASSES_IN_FOLD" = some (.ref a_PASSES_IN_FOLD)
  t_PASSES_IN_FOLD : ∃ es n, KDict K w a_PASSES_IN_FOLD es n
  b_PASSES_IN_FOLD_0 : Addr
  q_PASSES_IN_FOLD_0 : ∀ H : Hp, SqT K H b_PASSES_IN_FOLD_0 [.int 0, .int 1]
  k_PASSES_IN_FOLD_0 : KDct K w a_PASSES_IN_FOLD "both" (.ref b_PASSES_IN_FOLD_0)
  b_PASSES_IN_FOLD_1 : Addr
  q_PASSES_IN_FOLD_1 : ∀ H : Hp, SqT K H b_PASSES_IN_FOLD_1 [.int 0]
  k_PASSES_IN_FOLD_1 : KDct K w a_PASSES_IN_FOLD "first" (.ref b_PASSES_IN_FOLD_1)
  b_PASSES_IN_FOLD_2 : Addr
  q_PASSES_IN_FOLD_2 : ∀ H : Hp, SqT K H b_PASSES_IN_FOLD_2 []
  k_PASSES_IN_FOLD_2 : KDct K w a_PASSES_IN_FOLD "refuse" (.ref b_PASSES_IN_FOLD_2)
  b_PASSES_IN_FOLD_3 : Addr
  q_PASSES_IN_FOLD_3 : ∀ H : Hp, SqT K H b_PASSES_IN_FOLD_3 [.int 0]
  k_PASSES_IN_FOLD_3 : KDct K w a_PASSES_IN_FOLD "second" (.ref b_PASSES_IN_FOLD_3)
  u_REFUSED : Tok
  c_REFUSED : mg "REFUSED" = some (Value.str "refused" u_REFUSED)
  u_MOST_INSTANT : Tok
  c_MOST_INSTANT : mg "MOST_INSTANT" = some (Value.int 100000 u_MOST_INSTANT)
  u_MOST_READING : Tok
  c_MOST_READING : mg "MOST_READING" = some (Value.int 90000 u_MOST_READING)
  u_MOST_DURATION : Tok
  c_MOST_DURATION : mg "MOST_DURATION" = some (Value.int 9000 u_MOST_DURATION)
  u_MOST_FIRST_OFFSET : Tok
  c_MOST_FIRST_OFFSET : mg "MOST_FIRST_OFFSET" = some (Value.int 12 u_MOST_FIRST_OFFSET)
  u_MOST_CHANGES : Tok
  c_MOST_CHANGES : mg "MOST_CHANGES" = some (Value.int 8 u_MOST_CHANGES)
  u_MOST_CHANGE_INSTANT : Tok
  c_MOST_CHANGE_INSTANT : mg "MOST_CHANGE_INSTANT" = some (Value.int 1000 u_MOST_CHANGE_INSTANT)
  u_LEAST_DISTANCE : Tok
  c_LEAST_DISTANCE : mg "LEAST_DISTANCE" = some (Value.int 12 u_LEAST_DISTANCE)
  u_MOST_STEP : Tok
  c_MOST_STEP : mg "MOST_STEP" = some (Value.int 3 u_MOST_STEP)
  u_MOST_LATER_OFFSET : Tok
  c_MOST_LATER_OFFSET : mg "MOST_LATER_OFFSET" = some (Value.int 15 u_MOST_LATER_OFFSET)
  a_SUMS : Addr
  c_SUMS : mg "SUMS" = some (.ref a_SUMS)
  q_SUMS : ∀ H : Hp, SqT K H a_SUMS [.str "elapsed", .str "wall"]
  a_ORDERS : Addr
  c_ORDERS : mg "ORDERS" = some (.ref a_ORDERS)
  q_ORDERS : ∀ H : Hp, SqT K H a_ORDERS [.str "elapsed", .str "wall"]
  a_GAPS : Addr
  c_GAPS : mg "GAPS" = some (.ref a_GAPS)
  q_GAPS : ∀ H : Hp, SqT K H a_GAPS [.str "keep", .str "refuse", .str "shift"]
  a_FOLDS : Addr
  c_FOLDS : mg "FOLDS" = some (.ref a_FOLDS)
  q_FOLDS : ∀ H : Hp, SqT K H a_FOLDS [.str "both", .str "first", .str "refuse", .str "second"]
  u_HOURS_OF_A_DAY : Tok
  c_HOURS_OF_A_DAY : mg "HOURS_OF_A_DAY" = some (Value.int 24 u_HOURS_OF_A_DAY)
  a_STATEMENTS : Addr
  c_STATEMENTS : mg "STATEMENTS" = some (.ref a_STATEMENTS)
  t_STATEMENTS : ∃ es n, KDict K w a_STATEMENTS es n
  k_STATEMENTS_0 : KDct K w a_STATEMENTS "from universal and back" (.ref f_from_universal_and_back.f)
  k_STATEMENTS_1 : KDct K w a_STATEMENTS "to universal and back" (.ref f_to_universal_and_back.f)
  k_STATEMENTS_2 : KDct K w a_STATEMENTS "every reading" (.ref f_every_reading.f)
  k_STATEMENTS_3 : KDct K w a_STATEMENTS "some reading" (.ref f_some_reading.f)
  k_STATEMENTS_4 : KDct K w a_STATEMENTS "there and back" (.ref f_there_and_back.f)
  k_STATEMENTS_5 : KDct K w a_STATEMENTS "sum of durations" (.ref f_sum_of_durations.f)
  k_STATEMENTS_6 : KDct K w a_STATEMENTS "elapsed time" (.ref f_elapsed_time.f)
  k_STATEMENTS_7 : KDct K w a_STATEMENTS "same clock" (.ref f_same_clock.f)
  k_STATEMENTS_8 : KDct K w a_STATEMENTS "later" (.ref f_later.f)
  k_STATEMENTS_9 : KDct K w a_STATEMENTS "sums told" (.ref f_sums_told.f)
  k_STATEMENTS_10 : KDct K w a_STATEMENTS "difference recovers" (.ref f_difference_recovers.f)
  k_STATEMENTS_11 : KDct K w a_STATEMENTS "order by difference" (.ref f_order_by_difference.f)
  k_STATEMENTS_12 : KDct K w a_STATEMENTS "equal means one instant" (.ref f_equal_means_one_instant.f)
  k_STATEMENTS_13 : KDct K w a_STATEMENTS "one instant means equal" (.ref f_one_instant_means_equal.f)
  k_STATEMENTS_14 : KDct K w a_STATEMENTS "one instant, one time" (.ref f_one_instant_one_time.f)
  k_STATEMENTS_15 : KDct K w a_STATEMENTS "order of instants" (.ref f_order_of_instants.f)
  k_STATEMENTS_16 : KDct K w a_STATEMENTS "order kept" (.ref f_order_kept.f)
  k_STATEMENTS_17 : KDct K w a_STATEMENTS "equal sums" (.ref f_equal_sums.f)
  a_SHAPES : Addr
  c_SHAPES : mg "SHAPES" = some (.ref a_SHAPES)
  t_SHAPES : ∃ es n, KDict K w a_SHAPES es n
  b_SHAPES_0 : Addr
  q_SHAPES_0 : ∀ H : Hp, SqT K H b_SHAPES_0 [.str "instant"]
  k_SHAPES_0 : KDct K w a_SHAPES "from universal and back" (.ref b_SHAPES_0)
  b_SHAPES_1 : Addr
  q_SHAPES_1 : ∀ H : Hp, SqT K H b_SHAPES_1 [.str "time"]
  k_SHAPES_1 : KDct K w a_SHAPES "to universal and back" (.ref b_SHAPES_1)
  b_SHAPES_2 : Addr
  q_SHAPES_2 : ∀ H : Hp, SqT K H b_SHAPES_2 [.str "reading"]
  k_SHAPES_2 : KDct K w a_SHAPES "every reading" (.ref b_SHAPES_2)
  b_SHAPES_3 : Addr
  q_SHAPES_3 : ∀ H : Hp, SqT K H b_SHAPES_3 [.str "reading"]
  k_SHAPES_3 : KDct K w a_SHAPES "some reading" (.ref b_SHAPES_3)
  b_SHAPES_4 : Addr
  q_SHAPES_4 : ∀ H : Hp, SqT K H b_SHAPES_4 [.str "time", .str "duration"]
  k_SHAPES_4 : KDct K w a_SHAPES "there and back" (.ref b_SHAPES_4)
  b_SHAPES_5 : Addr
  q_SHAPES_5 : ∀ H : Hp, SqT K H b_SHAPES_5 [.str "time", .str "duration", .str "duration"]
  k_SHAPES_5 : KDct K w a_SHAPES "sum of durations" (.ref b_SHAPES_5)
  b_SHAPES_6 : Addr
  q_SHAPES_6 : ∀ H : Hp, SqT K H b_SHAPES_6 [.str "time", .str "duration"]
  k_SHAPES_6 : KDct K w a_SHAPES "elapsed time" (.ref b_SHAPES_6)
  b_SHAPES_7 : Addr
  q_SHAPES_7 : ∀ H : Hp, SqT K H b_SHAPES_7 [.str "time"]
  k_SHAPES_7 : KDct K w a_SHAPES "same clock" (.ref b_SHAPES_7)
  b_SHAPES_8 : Addr
  q_SHAPES_8 : ∀ H : Hp, SqT K H b_SHAPES_8 [.str "time", .str "duration"]
  k_SHAPES_8 : KDct K w a_SHAPES "later" (.ref b_SHAPES_8)
  b_SHAPES_9 : Addr
  q_SHAPES_9 : ∀ H : Hp, SqT K H b_SHAPES_9 [.str "time", .str "duration"]
  k_SHAPES_9 : KDct K w a_SHAPES "sums told" (.ref b_SHAPES_9)
  b_SHAPES_10 : Addr
  q_SHAPES_10 : ∀ H : Hp, SqT K H b_SHAPES_10 [.str "time", .str "time"]
  k_SHAPES_10 : KDct K w a_SHAPES "difference recovers" (.ref b_SHAPES_10)
  b_SHAPES_11 : Addr
  q_SHAPES_11 : ∀ H : Hp, SqT K H b_SHAPES_11 [.str "time", .str "time"]
  k_SHAPES_11 : KDct K w a_SHAPES "order by difference" (.ref b_SHAPES_11)
  b_SHAPES_12 : Addr
  q_SHAPES_12 : ∀ H : Hp, SqT K H b_SHAPES_12 [.str "time", .str "time"]
  k_SHAPES_12 : KDct K w a_SHAPES "equal means one instant" (.ref b_SHAPES_12)
  b_SHAPES_13 : Addr
  q_SHAPES_13 : ∀ H : Hp, SqT K H b_SHAPES_13 [.str "time", .str "time"]
  k_SHAPES_13 : KDct K w a_SHAPES "one instant means equal" (.ref b_SHAPES_13)
  b_SHAPES_14 : Addr
  q_SHAPES_14 : ∀ H : Hp, SqT K H b_SHAPES_14 [.str "time", .str "time"]
  k_SHAPES_14 : KDct K w a_SHAPES "one instant, one time" (.ref b_SHAPES_14)
  b_SHAPES_15 : Addr
  q_SHAPES_15 : ∀ H : Hp, SqT K H b_SHAPES_15 [.str "time", .str "time"]
  k_SHAPES_15 : KDct K w a_SHAPES "order of instants" (.ref b_SHAPES_15)
  b_SHAPES_16 : Addr
  q_SHAPES_16 : ∀ H : Hp, SqT K H b_SHAPES_16 [.str "time", .str "time", .str "duration"]
  k_SHAPES_16 : KDct K w a_SHAPES "order kept" (.ref b_SHAPES_16)
  b_SHAPES_17 : Addr
  q_SHAPES_17 : ∀ H : Hp, SqT K H b_SHAPES_17 [.str "time", .str "time", .str "duration"]
  k_SHAPES_17 : KDct K w a_SHAPES "equal sums" (.ref b_SHAPES_17)
  l_SHAPES : KeysL K w a_SHAPES ["from universal and back", "to universal and back", "every reading", "some reading", "there and back", "sum of durations", "elapsed time", "same clock", "later", "sums told", "difference recovers", "order by difference", "equal means one instant", "one instant means equal", "one instant, one time", "order of instants", "order kept", "equal sums"]
  u_MOST_DURATION_OF_RULES : Tok
  c_MOST_DURATION_OF_RULES : mg "MOST_DURATION_OF_RULES" = some (Value.int 4000 u_MOST_DURATION_OF_RULES)
  a_KINDS : Addr
  c_KINDS : mg "KINDS" = some (.ref a_KINDS)
  q_KINDS : ∀ H : Hp, SqT K H a_KINDS [.str "fixed", .str "skips", .str "repeats", .str "both"]
  a_GAP_ZONE : Addr
  c_GAP_ZONE : mg "GAP_ZONE" = some (.ref a_GAP_ZONE)
  b_GAP_ZONE_1_0 : Addr
  q_GAP_ZONE_1_0 : ∀ H : Hp, SqT K H b_GAP_ZONE_1_0 [.int 0, .int 2]
  b_GAP_ZONE_1 : Addr
  q_GAP_ZONE_1 : ∀ H : Hp, SqT K H b_GAP_ZONE_1 [.ref b_GAP_ZONE_1_0]
  q_GAP_ZONE : ∀ H : Hp, SqT K H a_GAP_ZONE [.int 0, .ref b_GAP_ZONE_1]
  a_FOLD_ZONE : Addr
  c_FOLD_ZONE : mg "FOLD_ZONE" = some (.ref a_FOLD_ZONE)
  b_FOLD_ZONE_1_0 : Addr
  q_FOLD_ZONE_1_0 : ∀ H : Hp, SqT K H b_FOLD_ZONE_1_0 [.int 0, .int (-2)]
  b_FOLD_ZONE_1 : Addr
  q_FOLD_ZONE_1 : ∀ H : Hp, SqT K H b_FOLD_ZONE_1 [.ref b_FOLD_ZONE_1_0]
  q_FOLD_ZONE : ∀ H : Hp, SqT K H a_FOLD_ZONE [.int 0, .ref b_FOLD_ZONE_1]
  u_MOST_DIGITS : Tok
  c_MOST_DIGITS : mg "MOST_DIGITS" = some (Value.int 9 u_MOST_DIGITS)
  u_DIGITS : Tok
  c_DIGITS : mg "DIGITS" = some (Value.str "0123456789" u_DIGITS)
local macro_rules | `(tactic| walk_at "sq") => `(tactic| first
  | assumption
  | exact SqT.of (by assumption)
  | exact SqL.of (by assumption)
  | ((refine Evl.ex_t (H := ?h0) ?e0 ?q0); (case e0 => assumption); (case q0 => walk_at "sq")))
local macro_rules | `(tactic| walk_at "eb") => `(tactic| first
  | ((with_reducible apply evV_var); exact rfl)
  | with_reducible exact evV_c
  | ((with_reducible apply evV_not) <;> walk_at "eb")
  | ((with_reducible apply evV_or) <;> walk_at "eb")
  | ((with_reducible apply evV_and) <;> walk_at "eb")
  | ((with_reducible apply evV_if) <;> walk_at "eb")
  | ((with_reducible apply evK_B) <;> walk_at "eb")
  | ((with_reducible apply evK_test) <;> walk_at "eb")
  | ((with_reducible apply evK_not) <;> walk_at "eb")
  | ((with_reducible apply evV_eqB) <;> walk_at "eb")
  | ((with_reducible apply evV_eqS) <;> walk_at "eb")
  | ((with_reducible apply evV_neS) <;> walk_at "eb"))
local macro_rules | `(tactic| walk_at "m") => `(tactic| first
  | with_reducible refine g_seq ?_
  | with_reducible refine g_asg ?_
  | ((with_reducible refine g_var (v := ?gv) ?ge ?_); (case ge => exact rfl))
  | with_reducible refine g_c ?_
  | with_reducible refine g_op ?_
  | with_reducible refine g_name ?_
  | with_reducible refine g_I0 ?_
  | with_reducible refine g_cons ?_
  | with_reducible refine g_nil ?_
  | with_reducible refine g_call ?_
  | with_reducible refine g_CB ?_
  | with_reducible refine g_test ?_
  | with_reducible refine g_B ?_
  | with_reducible refine g_bl ?_
  | with_reducible refine g_not ?_
  | with_reducible refine g_and ?_
  | with_reducible refine g_or ?_
  | with_reducible refine g_ret ?_
  | with_reducible refine g_retN ?_
  | with_reducible refine g_drop ?_
  | with_reducible refine g_next ?_
  | with_reducible refine g_brk ?_
  | with_reducible refine g_cont ?_
  | with_reducible refine g_un ?_
  | with_reducible refine g_U ?_
  | with_reducible refine g_for ?_
  | with_reducible refine g_iTup ?_
  | with_reducible refine g_iList ?_
  | with_reducible refine g_rng1 ?_
  | with_reducible refine g_rng2 ?_
  | with_reducible refine g_gcons ?_
  | with_reducible refine g_gnil ?_
  | with_reducible refine g_eqI ?_
  | with_reducible refine g_neI ?_
  | with_reducible refine g_eqS ?_
  | with_reducible refine g_neS ?_
  | with_reducible refine g_eqB ?_
  | with_reducible refine g_neB ?_
  | with_reducible refine g_lcTup ?_
  | with_reducible refine g_lcList ?_
  | with_reducible refine g_scList ?_
  | ((with_reducible refine g_ixT (xs := ?xs) (v := ?gv) ?hq ?he ?_); (case hq => walk_at "sq"); (case he => exact rfl))
  | ((with_reducible refine g_gtup (xs := ?xs) ?hq ?he ?_); (case hq => walk_at "sq"); (case he => exact rfl))
  | with_reducible refine g_yes ?_
  | with_reducible refine if_tt ?_
  | with_reducible refine if_ff ?_
  | with_reducible refine g_chain ?_
  | with_reducible refine g_pcons ?_
  | with_reducible refine g_pnil ?_
  | with_reducible refine g_dget2 ?_
  | with_reducible refine g_sub ?_
  | with_reducible refine g_isB ?_
  | with_reducible refine g_notB ?_
  | with_reducible refine g_isN ?_
  | with_reducible refine g_notN ?_
  | ((with_reducible refine g_I ?gi ?_); (case gi => (first
      | (show (0 : Int) < _; omega)
      | exact cmul_r (by omega) (by omega)
      | exact cmul_l (by omega) (by omega)
      | exact cdiv_of (by omega) (by omega)
      | exact cpow_of (by omega) (by omega) (by omega))))
  | with_reducible refine g_match ?_
  | with_reducible refine g_mstr ?_
  | ((with_reducible refine g_caseT ?e ?_); (case e => decide +kernel))
  | ((with_reducible refine g_caseF ?e ?_); (case e => decide +kernel))
  | with_reducible refine g_caseN ?_
  | with_reducible refine g_callH ?_
  | with_reducible refine if_nt ?_
  | with_reducible refine if_nf ?_
  | with_reducible refine g_asg2 ?_
  | with_reducible refine g_par3 ?_
  | with_reducible refine g_par3_ ?_
  | with_reducible refine g_int ?_
  | with_reducible refine g_intB ?_
  | with_reducible refine g_abs ?_
  | with_reducible refine g_par ?_
  | with_reducible refine g_par_ ?_
  | ((with_reducible refine if_t ?e ?_); (case e => decide +kernel))
  | ((with_reducible refine if_f ?e ?_); (case e => decide +kernel))
  | ((with_reducible refine if_t ?e ?_); (case e => exact rfl))
  | ((with_reducible refine if_f ?e ?_); (case e => exact rfl)))
local macro_rules | `(tactic| walk_at "n") => `(tactic| first
  | walk_at "m"
  | with_reducible refine g_tup ?_
  | with_reducible refine g_lst ?_
  | with_reducible refine g_orV ?_
  | with_reducible refine g_andV ?_
  | with_reducible refine g_notV ?_)
local macro_rules | `(tactic| walk_at "mm") => `(tactic| repeat walk_at "m")
local macro_rules | `(tactic| walk_at "g") => `(tactic| first | walk_at "n" | with_reducible refine g_if ?_ | with_reducible refine g_ifS ?_)
local macro_rules | `(tactic| walk_at "nn") => `(tactic| repeat walk_at "n")
local macro_rules | `(tactic| walk_at "gg") => `(tactic| repeat walk_at "g")
local macro_rules | `(tactic| walk_at "q") => `(tactic| first | walk_at "m" | with_reducible refine g_orV ?_ | with_reducible refine g_andV ?_ | with_reducible refine g_notV ?_ | with_reducible refine g_if ?_ | with_reducible refine g_ifS ?_)
local macro_rules | `(tactic| walk_at "qq") => `(tactic| repeat walk_at "q")
local macro_rules | `(tactic| walk_at "m") => `(tactic| first
  | with_reducible refine g_m1 ?_
  | with_reducible refine g_isS ?_
  | with_reducible refine g_lcStr ?_
  | with_reducible refine g_join ?_
  | with_reducible refine g_js ?_
  | with_reducible refine g_jsN ?_
  | with_reducible refine g_fmt ?_
  | with_reducible refine g_callLam ?_
  | with_reducible refine g_revT ?_)

/-! ### the mathematics' functions -/
def offGo (t : Int) : Int → List (Int × Int) → Int
  | cur, [] => cur
  | cur, p :: r => if p.1 > t then cur else offGo t p.2 r
def off (z : Zone) (t : Int) : Int := offGo t z.1 z.2
theorem offGo_mem (t : Int) : ∀ (cs : List (Int × Int)) (cur : Int), offGo t cur cs ∈ cur :: cs.map (·.2)
  | [], cur => by simp [offGo]
  | p :: r, cur => by
    unfold offGo
    split
    · simp
    · have h := offGo_mem t r p.2
      simp only [List.map_cons, List.mem_cons] at h ⊢
      exact .inr h
def okC (before earliest : Int) (p : Int × Int) : Bool := decide (earliest ≤ p.1 ∧ p.1 ≤ 1000) && (decide (-15 ≤ p.2 ∧ p.2 ≤ 15) && decide (1 ≤ (p.2 - before).natAbs ∧ (p.2 - before).natAbs ≤ 3))
def okGo : Int → Int → List (Int × Int) → Bool
  | _, _, [] => true
  | before, earliest, p :: r => okC before earliest p && okGo p.2 (p.1 + 12) r
theorem okGo_cons (b e : Int) (p : Int × Int) (r : List (Int × Int)) : okGo b e (p :: r) = (okC b e p && okGo p.2 (p.1 + 12) r) := rfl
def okZ (z : Zone) : Bool := decide (-12 ≤ z.1 ∧ z.1 ≤ 12) && (decide (z.2.length ≤ 8) && okGo z.1 (-1000) z.2)
def kindGo : Int → Bool → Bool → List (Int × Int) → Bool × Bool
  | _, s, r, [] => (s, r)
  | before, s, r, p :: l => if p.2 > before then kindGo p.2 true r l else kindGo p.2 s true l
theorem kindGo_cons (b : Int) (s r : Bool) (p : Int × Int) (l : List (Int × Int)) : kindGo b s r (p :: l) = if p.2 > b then kindGo p.2 true r l else kindGo p.2 s true l := rfl
def kindOf (z : Zone) : Str := match kindGo z.1 false false z.2 with
  | (true, true) => "both"
  | (true, false) => "skips"
  | (false, true) => "repeats"
  | (false, false) => "fixed"
/-! ### promises -/
def sp_offset_in_force (K : PySem.W.Frag) : Sp := fun vs H Q _ => ∃ (zv : V) (z : Zone) (t : Int), vs = [zv, .int t] ∧ ZV K H zv z ∧ ∀ H', Ex H H' → Q (.int (off z t)) H'
def sp_instants_with (K : PySem.W.Frag) : Sp := fun vs H Q _ => ∃ (zv : V) (z : Zone) (t : Int), vs = [zv, .int t] ∧ ZV K H zv z ∧ z.2.length ≤ 8 ∧
  ∀ p H' (ns : List Int), H p = none → Ex H H' → TupD H' p (ns.map V.int) → ns.Pairwise (· < ·) → (∀ k, k ∈ ns ↔ k + off z k = t) → Q (.ref p) H'
def sp_is_between (K : PySem.W.Frag) : Sp := fun vs H Q _ => ∃ v lo hi : Int, vs = [.int v, .int lo, .int hi] ∧ Q (.bl (decide (lo ≤ v ∧ v ≤ hi))) H
def sp_is_tuple_of (K : PySem.W.Frag) : Sp := fun vs H Q _ => ∃ (n : Int) (a : Addr) (xs : List V), vs = [.int n, .ref a] ∧ SqT K H a xs ∧ Q (.bl (decide ((xs.length : Int) = n))) H
def sp_is_instant (K : PySem.W.Frag) : Sp := fun vs H Q _ => ∃ v : Int, vs = [.int v] ∧ Q (.bl (decide (-100000 ≤ v ∧ v ≤ 100000))) H
def sp_is_reading (K : PySem.W.Frag) : Sp := fun vs H Q _ => ∃ v : Int, vs = [.int v] ∧ Q (.bl (decide (-90000 ≤ v ∧ v ≤ 90000))) H
def sp_is_zone (K : PySem.W.Frag) : Sp := fun vs H Q _ => ∃ (zv : V) (z : Zone), vs = [zv] ∧ ZV K H zv z ∧ Q (.bl (okZ z)) H
def sp_are_changes_after (K : PySem.W.Frag) : Sp := fun vs H Q _ => ∃ (o : Int) (c : V) (cs : List (Int × Int)), vs = [.int o, c] ∧ CsV K H c cs ∧ Q (.bl (okGo o (-1000) cs)) H
def sp_is_change_after (K : PySem.W.Frag) : Sp := fun vs H Q _ => ∃ (b e : Int) (c : V) (p : Int × Int), vs = [.int b, .int e, c] ∧ PV K H c p ∧ Q (.bl (okC b e p)) H
def sp_check_zone (K : PySem.W.Frag) : Sp := fun vs H Q _ => ∃ (zv : V) (z : Zone), vs = [zv] ∧ ZV K H zv z ∧ okZ z = true ∧ Q .non H
def sp_check_instant (K : PySem.W.Frag) : Sp := fun vs H Q _ => ∃ v : Int, vs = [.int v] ∧ -100000 ≤ v ∧ v ≤ 100000 ∧ Q .non H
def sp_check_reading (K : PySem.W.Frag) : Sp := fun vs H Q _ => ∃ v : Int, vs = [.int v] ∧ -90000 ≤ v ∧ v ≤ 90000 ∧ Q .non H
def sp_offset_at (K : PySem.W.Frag) : Sp := fun vs H Q _ => ∃ (zv : V) (z : Zone) (t : Int), vs = [zv, .int t] ∧ ZV K H zv z ∧ okZ z = true ∧ -100000 ≤ t ∧ t ≤ 100000 ∧ ∀ H', Ex H H' → Q (.int (off z t)) H'
def sp_kind_of (K : PySem.W.Frag) : Sp := fun vs H Q _ => ∃ (zv : V) (z : Zone), vs = [zv] ∧ ZV K H zv z ∧ okZ z = true ∧ ∀ H', Ex H H' → Q (.str (kindOf z)) H'
def sp_instants_of (K : PySem.W.Frag) : Sp := fun vs H Q _ => ∃ (zv : V) (z : Zone) (t : Int), vs = [zv, .int t] ∧ ZV K H zv z ∧ okZ z = true ∧ -90000 ≤ t ∧ t ≤ 90000 ∧
  ∀ p H' (ns : List Int), H p = none → Ex H H' → TupD H' p (ns.map V.int) → ns.Pairwise (· < ·) → (∀ k, k ∈ ns ↔ k + off z k = t) → Q (.ref p) H'
section
variable {P : Program} {w : World} {K : PySem.W.Frag} {mg : Str → Option Value} {base : Heap}
theorem ok_offset_in_force (T : Txt w K mg) : FnOk P w K mg base CX0 1 T.f_offset_in_force.f T.f_offset_in_force.fd ["zone", "instant"] (sp_offset_in_force K) := by
  refine T.f_offset_in_force.F.ok sc_offset_in_force (fun vs H Q E h => ?_) (fun cdv A outer s H vs Q E hr h => ?_)
  · obtain ⟨zv, z, t, rfl, _⟩ := h
    rfl
  obtain ⟨zv, z, t, rfl, ⟨a, c, rfl, ha, b, xs, rfl, hb, hp⟩, k⟩ := h
  refine ⟨(tSeq (tAsg (tVar 0) (gTup K 2 (gCons (gName 2) (gCons (gName 3) gNil)))) (tSeq (tFor (iTup K (tVar 3)) (gTup K 2 (gCons (gName 4) (gCons (gName 5) gNil))) (tSeq (tIfS (tTest (tOp (rI0 fun i j => .bl (decide (j < i))) (tVar 4) (tVar 1))) tBreak tNext) (tAsg (tVar 5) (gName 2)))) (tRet (tVar 2)))),
    PSs.nox (pss_cons (ps_asg (pv 0) (pg_tup rfl (pgs_cons (pg_name (i := 2) sc_offset_in_force.nd rfl (Or.inl rfl)) (pgs_cons (pg_name (i := 3) sc_offset_in_force.nd rfl (Or.inl rfl)) pgs_nil)))) (pss_cons (ps_for PassesOwn.never rfl (pi_tup (pv 3)) (pg_tup rfl (pgs_cons (pg_name (i := 4) sc_offset_in_force.nd rfl (Or.inl rfl)) (pgs_cons (pg_name (i := 5) sc_offset_in_force.nd rfl (Or.inl rfl)) pgs_nil))) (pss_cons (ps_if (pt_cmpR op_gt (pv 4) (pv 1) (nomark _)) (pss_one ps_break) pss_nil) (pss_one (ps_set (i := 2) sc_offset_in_force.nd rfl (Or.inl rfl) (pv 5))))) (pss_one (ps_ret (pv 2))))), ?_⟩
  walk_at "gg"
  refine g_forT (F := PV K) hb hp (fun l σ' H' => Ex H H' ∧ ∃ cur s0 a0, offGo t cur l = off z t ∧ σ' = [some (.ref a), some (.int t), some (.int cur), some (.ref b), s0, a0])
    ⟨Evl.Ex.refl _, _, _, _, rfl, rfl⟩ (fun _ _ _ q => ⟨Evl.ex_t q.1 hb, fun _ _ h => h.tr (TrT.of q.1)⟩) ?_ ?_
  · rintro p l x σ' H' ⟨e, cur, s0, a0, q, rfl⟩ ⟨y, rfl, hy⟩
    unfold offGo at q
    walk_at "gg"
    refine if_d (fun c => ?_) (fun c => ?_)
    · walk_at "gg"
      rw [if_pos (by omega)] at q
      rw [q]
      exact k _ e
    · walk_at "gg"
      rw [if_neg (by omega)] at q
      exact ⟨e, _, _, _, q, rfl⟩
  · rintro σ' H' ⟨e, cur, s0, a0, q, rfl⟩
    walk_at "gg"
    rw [show cur = off z t from q]
    exact k _ e
theorem ok_instants_with (T : Txt w K mg) : FnOk P w K mg base CX0 2 T.f_instants_with.f T.f_instants_with.fd ["zone", "reading"] (sp_instants_with K) := by
  refine T.f_instants_with.F.ok sc_instants_with (fun vs H Q E h => ?_) (fun cdv A outer s H vs Q E hr h => ?_)
  · obtain ⟨zv, z, t, rfl, _⟩ := h
    rfl
  obtain ⟨zv, z, t, rfl, hz, h8, k⟩ := h
  obtain ⟨a, c, rfl, ha, b, xs, rfl, hb, hp⟩ := id hz
  refine ⟨(tSeq (tAsg (tVar 0) (gTup K 2 (gCons (gName 2) (gCons (gName 3) gNil)))) (tSeq (tAsg (tOp rCat (tLst (tCons (tVar 2) tNil)) (tLc (iTup K (tVar 3)) (gTup K 2 (gCons (gName 5) (gCons (gName 6) gNil))) tYes (tVar 6) [5, 6])) (gName 4)) (tRet (tCB (r_tupleF K) (tCons (tCB (rSortedSet w) (tCons (tScI w (iList K (tVar 4)) (gName 7) (tTest (tOp rEq (tCall (sp_offset_in_force K) [] E0 (tCons (tVar 0) (tCons (tOp (rI0 fun i j => .int (i - j)) (tVar 1) (tVar 7)) tNil))) (tVar 7))) (tOp (rI0 fun i j => .int (i - j)) (tVar 1) (tVar 7)) [7]) tNil)) tNil))))),
    PSs.nox (pss_cons (ps_asg (pv 0) (pg_tup rfl (pgs_cons (pg_name (i := 2) sc_instants_with.nd rfl (Or.inl rfl)) (pgs_cons (pg_name (i := 3) sc_instants_with.nd rfl (Or.inl rfl)) pgs_nil)))) (pss_cons (ps_set (i := 4) sc_instants_with.nd rfl (Or.inl rfl) (pe_op op_cat (pe_lst (pa_cons (pv 2) pa_nil)) (pe_lc (own := [("_", 5), ("after", 6)]) rfl sc_instants_with.nd (pi_tup (pv 3)) (blkOk_by (own := [("_", 5), ("after", 6)]) (N := ["zone", "reading", "offset", "changes", "offsets", "_", "after", "hours"]) (sc := (defScope s_instants_with)) (by decide +kernel)) (fun _ _ _ _ _ => (pg_tup rfl (pgs_cons (pg_name (i := 5) sc_instants_with.nd rfl (Or.inl rfl)) (pgs_cons (pg_name (i := 6) sc_instants_with.nd rfl (Or.inl rfl)) pgs_nil)))) (fun _ _ _ _ _ => pts_nil) (fun _ _ _ _ _ => (pv 6))))) (pss_one (ps_ret (pe_callTy call_tupleF (by rfl) T.z_tuple (by decide +kernel) (pa_cons (pe_callB (cr_sortedSet rfl) (by rfl) T.z_sorted (by decide +kernel) (pa_cons (pe_scI (own := [("hours", 7)]) rfl sc_instants_with.nd (pi_list (pv 4)) (blkOk_by (own := [("hours", 7)]) (N := ["zone", "reading", "offset", "changes", "offsets", "_", "after", "hours"]) (sc := (defScope s_instants_with)) (by decide +kernel)) (fun _ _ _ _ _ => (pg_name (i := 7) sc_instants_with.nd rfl (Or.inl rfl))) (fun _ _ _ _ _ => (pts_one (pt_cmpR op_eq (pe_call (ok_offset_in_force T) (hr.mono (by decide)) (by rfl) T.f_offset_in_force.g T.f_offset_in_force.F.kp T.f_offset_in_force.b .nil pass0 (pa_cons (pv 0) (pa_cons (pe_op op_sub (pv 1) (pv 7)) pa_nil))) (pv 7) (nomark _)))) (fun _ _ _ _ _ => (pe_op op_sub (pv 1) (pv 7)))) pa_nil)) pa_nil)))))), ?_⟩
  walk_at "gg"
  refine g_newL (by simp) fun l1 H1 n1 e1 h1 => ?_
  walk_at "gg"
  refine g_lcT (F := PV K) (Evl.ex_t e1 hb) (PVs.tr (TrT.of e1) hp) (by omega) (fun _ => true) (fun p => .int p.2) (fun _ _ _ e h => h.tr (TrT.of e)) ?_ ?_
  · rintro p x H2 e2 ⟨y, rfl, hy⟩ R S hR hS
    walk_at "gg"
    refine ⟨rfl, ?_⟩
    walk_at "gg"
    exact hS rfl _ (Evl.Ex.refl _)
  rintro l2 H2 n2 e2 h2
  rw [filt_all] at h2
  refine g_cat (e2 _ _ h1) h2 (by simp; omega) fun l3 H3 n3 e3 h3 => ?_
  have h3' : H3 l3 = some (.lst ((z.1 :: z.2.map (·.2)).map V.int)) := by
    rw [h3]
    simp
  walk_at "gg"
  have e03 : Ex H H3 := (e1.trans e2).trans e3
  refine g_scL (SqL.of h3') (by simp; omega) (fun h => decide (off z (t - h) = h)) (fun h => t - h) ?_ ?_
  · rintro h H4 e4 R S hR hS
    walk_at "gg"
    refine ⟨rfl, ?_⟩
    walk_at "gg"
    refine ⟨_, z, _, rfl, hz.tr (TrT.of (e03.trans e4)), fun H5 e5 => ?_⟩
    walk_at "gg"
    refine if_d (fun c => ?_) (fun c => ?_)
    · walk_at "gg"
      exact hS (decide_eq_true c) _ e5
    · exact hR (decide_eq_false c) _ e5
  rintro l4 H4 c n4 e4 hc h4
  walk_at "gg"
  refine g_sortedSet h4 (by simp at hc; omega) fun ns l5 H5 n5 e5 h5 hs hm => ?_
  walk_at "gg"
  refine g_tupleF (SqL.of h5) fun l6 H6 n6 e6 h6 => ?_
  refine k l6 H6 ns (Evl.fresh_back (e03.trans (e4.trans e5)) n6) (e03.trans (e4.trans (e5.trans e6))) h6 hs fun k => ?_
  rw [hm k]
  unfold mem_
  rw [List.take_length]
  simp only [List.any_eq_true, Bool.and_eq_true, decide_eq_true_eq]
  constructor
  · rintro ⟨h, _, h1, h2⟩
    rw [h2, h1]
    omega
  · intro q
    have m := offGo_mem k z.2 z.1
    rw [show offGo k z.1 z.2 = t - k by unfold off at q; omega] at m
    refine ⟨t - k, m, ?_, by omega⟩
    rw [show t - (t - k) = k by omega]
    omega
theorem ok_is_between (T : Txt w K mg) : FnOk P w K mg base CX0 1 T.f_is_between.f T.f_is_between.fd ["value", "low", "high"] (sp_is_between K) := by
  refine T.f_is_between.F.ok sc_is_between (fun vs H Q E h => ?_) (fun cdv A outer s H vs Q E hr h => ?_)
  · obtain ⟨v, lo, hi, rfl, _⟩ := h
    rfl
  obtain ⟨v, lo, hi, rfl, k⟩ := h
  refine ⟨(tSeq (tIfS (tOr (tNot (tB (tCB (rIsi K) (tCons (tVar 0) (tCons (tC (.ty "int")) tNil))))) (tB (tCB (rIsi K) (tCons (tVar 0) (tCons (tC (.ty "bool")) tNil))))) (tRet (tC (.bl false))) tNext) (tRet (tChain (rI0 fun i j => .bl (decide (i ≤ j))) (rI0 fun i j => .bl (decide (i ≤ j))) (tVar 1) (tVar 0) (tVar 2)))),
    PSs.nox (pss_cons (ps_if (PW.pt (pw_or (pt_not (pt_val (pe_callB call_isi (by rfl) T.z_isinstance (by decide +kernel) (pa_cons (pv 0) (pa_cons (pe_bltn (by rfl) T.z_int (by decide +kernel) rfl) pa_nil))))) (pw_or1 (pt_val (pe_callB call_isi (by rfl) T.z_isinstance (by decide +kernel) (pa_cons (pv 0) (pa_cons (pe_bltn (by rfl) T.z_bool (by decide +kernel) rfl) pa_nil))))))) (pss_one (ps_ret pe_bl)) pss_nil) (pss_one (ps_ret (pe_chain op_le op_le (pv 1) (pv 0) (pv 2))))), ?_⟩
  walk_at "gg"
  refine g_isi ty_int (by decide +kernel : kitB "int" "int" = some true) ?_
  walk_at "gg"
  refine g_isi ty_int (by decide +kernel : kitB "int" "bool" = some false) ?_
  walk_at "gg"
  refine if_d (fun c => ?_) (fun c => ?_)
  · walk_at "gg"
    rw [show decide (v ≤ hi) = decide (lo ≤ v ∧ v ≤ hi) from decide_eq_decide.mpr ⟨fun h => ⟨c, h⟩, fun h => h.2⟩]
    exact k
  · rw [decide_eq_false (fun h => c h.1)] at k
    exact k
theorem ok_is_tuple_of (T : Txt w K mg) : FnOk P w K mg base CX0 1 T.f_is_tuple_of.f T.f_is_tuple_of.fd ["many", "value"] (sp_is_tuple_of K) := by
  refine T.f_is_tuple_of.F.ok sc_is_tuple_of (fun vs H Q E h => ?_) (fun cdv A outer s H vs Q E hr h => ?_)
  · obtain ⟨v, a, xs, rfl, _⟩ := h
    rfl
  obtain ⟨v, a, xs, rfl, hx, k⟩ := h
  refine ⟨(tRet (tAndV (tCB (rIsi K) (tCons (tVar 1) (tCons (tC (.ty "tuple")) tNil))) (tOp rEq (tCB (Evl.rLenS K) (tCons (tVar 1) tNil)) (tVar 0)))),
    PSs.nox (pss_one (ps_ret (pe_and (pe_callB call_isi (by rfl) T.z_isinstance (by decide +kernel) (pa_cons (pv 1) (pa_cons (pe_bltn (by rfl) T.z_tuple (by decide +kernel) rfl) pa_nil))) (pe_one (pe_cmpR op_eq (pe_callB call_len_seq (by rfl) T.z_len (by decide +kernel) (pa_cons (pv 1) pa_nil)) (pv 0) (nomark _)))))), ?_⟩
  walk_at "gg"
  refine g_isi (ty_tup hx) (by decide +kernel : kitB "tuple" "tuple" = some true) ?_
  walk_at "gg"
  refine g_lenT hx ?_
  walk_at "gg"
  exact k
theorem ok_is_instant (T : Txt w K mg) : FnOk P w K mg base CX0 2 T.f_is_instant.f T.f_is_instant.fd ["value"] (sp_is_instant K) := by
  refine T.f_is_instant.F.ok sc_is_instant (fun vs H Q E h => ?_) (fun cdv A outer s H vs Q E hr h => ?_)
  · obtain ⟨v, rfl, _⟩ := h
    rfl
  obtain ⟨v, rfl, k⟩ := h
  refine ⟨(tRet (tCall (sp_is_between K) [] E0 (tCons (tVar 0) (tCons (tUn (rU fun i => .int (-i)) (tC (.int 100000))) (tCons (tC (.int 100000)) tNil))))),
    PSs.nox (pss_one (ps_ret (pe_call (ok_is_between T) (hr.mono (by decide)) (by rfl) T.f_is_between.g T.f_is_between.F.kp T.f_is_between.b .nil pass0 (pa_cons (pv 0) (pa_cons (pe_un un_neg (pe_glob (by rfl) T.c_MOST_INSTANT ⟨_, rfl⟩)) (pa_cons (pe_glob (by rfl) T.c_MOST_INSTANT ⟨_, rfl⟩) pa_nil)))))), ?_⟩
  walk_at "gg"
  exact ⟨_, _, _, rfl, k⟩
theorem ok_is_reading (T : Txt w K mg) : FnOk P w K mg base CX0 2 T.f_is_reading.f T.f_is_reading.fd ["value"] (sp_is_reading K) := by
  refine T.f_is_reading.F.ok sc_is_reading (fun vs H Q E h => ?_) (fun cdv A outer s H vs Q E hr h => ?_)
  · obtain ⟨v, rfl, _⟩ := h
    rfl
  obtain ⟨v, rfl, k⟩ := h
  refine ⟨(tRet (tCall (sp_is_between K) [] E0 (tCons (tVar 0) (tCons (tUn (rU fun i => .int (-i)) (tC (.int 90000))) (tCons (tC (.int 90000)) tNil))))),
    PSs.nox (pss_one (ps_ret (pe_call (ok_is_between T) (hr.mono (by decide)) (by rfl) T.f_is_between.g T.f_is_between.F.kp T.f_is_between.b .nil pass0 (pa_cons (pv 0) (pa_cons (pe_un un_neg (pe_glob (by rfl) T.c_MOST_READING ⟨_, rfl⟩)) (pa_cons (pe_glob (by rfl) T.c_MOST_READING ⟨_, rfl⟩) pa_nil)))))), ?_⟩
  walk_at "gg"
  exact ⟨_, _, _, rfl, k⟩
theorem ok_is_change_after (T : Txt w K mg) : FnOk P w K mg base CX0 2 T.f_is_change_after.f T.f_is_change_after.fd ["before", "earliest", "value"] (sp_is_change_after K) := by
  refine T.f_is_change_after.F.ok sc_is_change_after (fun vs H Q E h => ?_) (fun cdv A outer s H vs Q E hr h => ?_)
  · obtain ⟨b, e, c, p, rfl, _⟩ := h
    rfl
  obtain ⟨b, e, c, p, rfl, ⟨a, rfl, ha⟩, k⟩ := h
  unfold okC at k
  refine ⟨(tSeq (tIfS (tNot (tB (tCall (sp_is_tuple_of K) [] E0 (tCons (tC (.int 2)) (tCons (tVar 2) tNil))))) (tRet (tC (.bl false))) tNext) (tSeq (tAsg (tVar 2) (gTup K 2 (gCons (gName 3) (gCons (gName 4) gNil)))) (tSeq (tIfS (tNot (tB (tCall (sp_is_between K) [] E0 (tCons (tVar 3) (tCons (tVar 1) (tCons (tC (.int 1000)) tNil)))))) (tRet (tC (.bl false))) tNext) (tSeq (tIfS (tNot (tB (tCall (sp_is_between K) [] E0 (tCons (tVar 4) (tCons (tUn (rU fun i => .int (-i)) (tC (.int 15))) (tCons (tC (.int 15)) tNil)))))) (tRet (tC (.bl false))) tNext) (tRet (tChain (rI0 fun i j => .bl (decide (i ≤ j))) (rI0 fun i j => .bl (decide (i ≤ j))) (tC (.int 1)) (tCB r_abs (tCons (tOp (rI0 fun i j => .int (i - j)) (tVar 4) (tVar 0)) tNil)) (tC (.int 3)))))))),
    PSs.nox (pss_cons (ps_if (pt_not (pt_val (pe_call (ok_is_tuple_of T) (hr.mono (by decide)) (by rfl) T.f_is_tuple_of.g T.f_is_tuple_of.F.kp T.f_is_tuple_of.b .nil pass0 (pa_cons pe_int (pa_cons (pv 2) pa_nil))))) (pss_one (ps_ret pe_bl)) pss_nil) (pss_cons (ps_asg (pv 2) (pg_tup rfl (pgs_cons (pg_name (i := 3) sc_is_change_after.nd rfl (Or.inl rfl)) (pgs_cons (pg_name (i := 4) sc_is_change_after.nd rfl (Or.inl rfl)) pgs_nil)))) (pss_cons (ps_if (pt_not (pt_val (pe_call (ok_is_between T) (hr.mono (by decide)) (by rfl) T.f_is_between.g T.f_is_between.F.kp T.f_is_between.b .nil pass0 (pa_cons (pv 3) (pa_cons (pv 1) (pa_cons (pe_glob (by rfl) T.c_MOST_CHANGE_INSTANT ⟨_, rfl⟩) pa_nil)))))) (pss_one (ps_ret pe_bl)) pss_nil) (pss_cons (ps_if (pt_not (pt_val (pe_call (ok_is_between T) (hr.mono (by decide)) (by rfl) T.f_is_between.g T.f_is_between.F.kp T.f_is_between.b .nil pass0 (pa_cons (pv 4) (pa_cons (pe_un un_neg (pe_glob (by rfl) T.c_MOST_LATER_OFFSET ⟨_, rfl⟩)) (pa_cons (pe_glob (by rfl) T.c_MOST_LATER_OFFSET ⟨_, rfl⟩) pa_nil)))))) (pss_one (ps_ret pe_bl)) pss_nil) (pss_one (ps_ret (pe_chain op_le op_le pe_int (pe_callB call_abs (by rfl) T.z_abs (by decide +kernel) (pa_cons (pe_op op_sub (pv 4) (pv 0)) pa_nil)) (pe_glob (by rfl) T.c_MOST_STEP ⟨_, rfl⟩)))))))), ?_⟩
  walk_at "gg"
  refine ⟨_, _, _, rfl, ha, ?_⟩
  rw [show decide (((([V.int p.1, V.int p.2] : List V).length : Nat) : Int) = 2) = true from rfl]
  walk_at "gg"
  refine ⟨_, _, _, rfl, ?_⟩
  walk_at "gg"
  by_cases c1 : e ≤ p.1 ∧ p.1 ≤ 1000
  · rw [decide_eq_true c1] at k ⊢
    walk_at "gg"
    refine ⟨_, _, _, rfl, ?_⟩
    walk_at "gg"
    by_cases c2 : -15 ≤ p.2 ∧ p.2 ≤ 15
    · rw [decide_eq_true c2] at k ⊢
      walk_at "gg"
      refine if_d (fun c3 => ?_) (fun c3 => ?_)
      · walk_at "gg"
        rw [show decide ((if p.2 - b < 0 then -(p.2 - b) else p.2 - b) ≤ 3) = decide (1 ≤ (p.2 - b).natAbs ∧ (p.2 - b).natAbs ≤ 3) from decide_eq_decide.mpr (by split at c3 <;> split <;> omega)]
        exact k
      · rw [show (decide (1 ≤ (p.2 - b).natAbs ∧ (p.2 - b).natAbs ≤ 3)) = false from decide_eq_false (by split at c3 <;> omega)] at k
        exact k
    · rw [decide_eq_false c2] at k ⊢
      walk_at "gg"
      exact k
  · rw [decide_eq_false c1] at k ⊢
    walk_at "gg"
    exact k
theorem ok_are_changes_after (T : Txt w K mg) : FnOk P w K mg base CX0 3 T.f_are_changes_after.f T.f_are_changes_after.fd ["offset", "changes"] (sp_are_changes_after K) := by
  refine T.f_are_changes_after.F.ok sc_are_changes_after (fun vs H Q E h => ?_) (fun cdv A outer s H vs Q E hr h => ?_)
  · obtain ⟨o, c, cs, rfl, _⟩ := h
    rfl
  obtain ⟨o, c, cs, rfl, ⟨a, xs, rfl, ha, hp⟩, k⟩ := h
  refine ⟨(tSeq (tAsg (tUn (rU fun i => .int (-i)) (tC (.int 1000))) (gName 2)) (tSeq (tFor (iTup K (tVar 1)) (gName 3) (tSeq (tIfS (tNot (tB (tCall (sp_is_change_after K) [] E0 (tCons (tVar 0) (tCons (tVar 2) (tCons (tVar 3) tNil)))))) (tRet (tC (.bl false))) tNext) (tSeq (tAsg (tVar 3) (gTup K 2 (gCons (gName 4) (gCons (gName 0) gNil)))) (tAsg (tOp (rI0 fun i j => .int (i + j)) (tVar 4) (tC (.int 12))) (gName 2))))) (tRet (tC (.bl true))))),
    PSs.nox (pss_cons (ps_set (i := 2) sc_are_changes_after.nd rfl (Or.inl rfl) (pe_un un_neg (pe_glob (by rfl) T.c_MOST_CHANGE_INSTANT ⟨_, rfl⟩))) (pss_cons (ps_for PassesOwn.never rfl (pi_tup (pv 1)) (pg_name (i := 3) sc_are_changes_after.nd rfl (Or.inl rfl)) (pss_cons (ps_if (pt_not (pt_val (pe_call (ok_is_change_after T) (hr.mono (by decide)) (by rfl) T.f_is_change_after.g T.f_is_change_after.F.kp T.f_is_change_after.b .nil pass0 (pa_cons (pv 0) (pa_cons (pv 2) (pa_cons (pv 3) pa_nil)))))) (pss_one (ps_ret pe_bl)) pss_nil) (pss_cons (ps_asg (pv 3) (pg_tup rfl (pgs_cons (pg_name (i := 4) sc_are_changes_after.nd rfl (Or.inl rfl)) (pgs_cons (pg_name (i := 0) sc_are_changes_after.nd rfl (Or.inl rfl)) pgs_nil)))) (pss_one (ps_set (i := 2) sc_are_changes_after.nd rfl (Or.inl rfl) (pe_op op_add (pv 4) (pe_glob (by rfl) T.c_LEAST_DISTANCE ⟨_, rfl⟩))))))) (pss_one (ps_ret pe_bl)))), ?_⟩
  walk_at "gg"
  refine g_forT (F := PV K) ha hp (fun l σ' H' => H' = H ∧ ∃ o' e' c0 i0, okGo o' e' l = okGo o (-1000) cs ∧ σ' = [some (.int o'), some (.ref a), some (.int e'), c0, i0])
    ⟨rfl, _, _, _, _, rfl, rfl⟩ (fun _ _ _ q => by rw [q.1]; exact ⟨ha, fun _ _ h => h⟩) ?_ ?_
  · rintro p l x σ' H' ⟨rfl, o', e', c0, i0, q, rfl⟩ hv
    obtain ⟨y, rfl, hy⟩ := id hv
    rw [okGo_cons] at q
    walk_at "gg"
    refine ⟨_, _, _, _, rfl, hv, ?_⟩
    walk_at "gg"
    cases c1 : okC o' e' p with
    | true =>
      rw [c1] at q
      walk_at "gg"
      exact ⟨rfl, _, _, _, _, q, rfl⟩
    | false =>
      rw [c1] at q
      walk_at "gg"
      rw [← q] at k
      exact k
  · rintro σ' H' ⟨rfl, o', e', c0, i0, q, rfl⟩
    walk_at "gg"
    rw [← q] at k
    exact k
theorem ok_is_zone (T : Txt w K mg) : FnOk P w K mg base CX0 4 T.f_is_zone.f T.f_is_zone.fd ["value"] (sp_is_zone K) := by
  refine T.f_is_zone.F.ok sc_is_zone (fun vs H Q E h => ?_) (fun cdv A outer s H vs Q E hr h => ?_)
  · obtain ⟨zv, z, rfl, _⟩ := h
    rfl
  obtain ⟨zv, z, rfl, ⟨a, c, rfl, ha, hc⟩, k⟩ := h
  obtain ⟨b, xs, rfl, hb, hp⟩ := id hc
  unfold okZ at k
  refine ⟨(tSeq (tIfS (tNot (tB (tCall (sp_is_tuple_of K) [] E0 (tCons (tC (.int 2)) (tCons (tVar 0) tNil))))) (tRet (tC (.bl false))) tNext) (tSeq (tAsg (tVar 0) (gTup K 2 (gCons (gName 1) (gCons (gName 2) gNil)))) (tSeq (tIfS (tNot (tB (tCall (sp_is_between K) [] E0 (tCons (tVar 1) (tCons (tUn (rU fun i => .int (-i)) (tC (.int 12))) (tCons (tC (.int 12)) tNil)))))) (tRet (tC (.bl false))) tNext) (tSeq (tIfS (tOr (tNot (tB (tCB (rIsi K) (tCons (tVar 2) (tCons (tC (.ty "tuple")) tNil))))) (tTest (tOp (rI0 fun i j => .bl (decide (j < i))) (tCB (Evl.rLenS K) (tCons (tVar 2) tNil)) (tC (.int 8))))) (tRet (tC (.bl false))) tNext) (tRet (tCall (sp_are_changes_after K) [] E0 (tCons (tVar 1) (tCons (tVar 2) tNil)))))))),
    PSs.nox (pss_cons (ps_if (pt_not (pt_val (pe_call (ok_is_tuple_of T) (hr.mono (by decide)) (by rfl) T.f_is_tuple_of.g T.f_is_tuple_of.F.kp T.f_is_tuple_of.b .nil pass0 (pa_cons pe_int (pa_cons (pv 0) pa_nil))))) (pss_one (ps_ret pe_bl)) pss_nil) (pss_cons (ps_asg (pv 0) (pg_tup rfl (pgs_cons (pg_name (i := 1) sc_is_zone.nd rfl (Or.inl rfl)) (pgs_cons (pg_name (i := 2) sc_is_zone.nd rfl (Or.inl rfl)) pgs_nil)))) (pss_cons (ps_if (pt_not (pt_val (pe_call (ok_is_between T) (hr.mono (by decide)) (by rfl) T.f_is_between.g T.f_is_between.F.kp T.f_is_between.b .nil pass0 (pa_cons (pv 1) (pa_cons (pe_un un_neg (pe_glob (by rfl) T.c_MOST_FIRST_OFFSET ⟨_, rfl⟩)) (pa_cons (pe_glob (by rfl) T.c_MOST_FIRST_OFFSET ⟨_, rfl⟩) pa_nil)))))) (pss_one (ps_ret pe_bl)) pss_nil) (pss_cons (ps_if (PW.pt (pw_or (pt_not (pt_val (pe_callB call_isi (by rfl) T.z_isinstance (by decide +kernel) (pa_cons (pv 2) (pa_cons (pe_bltn (by rfl) T.z_tuple (by decide +kernel) rfl) pa_nil))))) (pw_or1 (pt_cmpR op_gt (pe_callB call_len_seq (by rfl) T.z_len (by decide +kernel) (pa_cons (pv 2) pa_nil)) (pe_glob (by rfl) T.c_MOST_CHANGES ⟨_, rfl⟩) (nomark _))))) (pss_one (ps_ret pe_bl)) pss_nil) (pss_one (ps_ret (pe_call (ok_are_changes_after T) (hr.mono (by decide)) (by rfl) T.f_are_changes_after.g T.f_are_changes_after.F.kp T.f_are_changes_after.b .nil pass0 (pa_cons (pv 1) (pa_cons (pv 2) pa_nil))))))))), ?_⟩
  walk_at "gg"
  refine ⟨_, _, _, rfl, ha, ?_⟩
  rw [show decide (((([V.int z.1, V.ref b] : List V).length : Nat) : Int) = 2) = true from rfl]
  walk_at "gg"
  refine ⟨_, _, _, rfl, ?_⟩
  walk_at "gg"
  by_cases c1 : -12 ≤ z.1 ∧ z.1 ≤ 12
  · rw [decide_eq_true c1] at k ⊢
    walk_at "gg"
    refine g_isi (ty_tup hb) (by decide +kernel : kitB "tuple" "tuple" = some true) ?_
    walk_at "gg"
    refine g_lenT hb ?_
    walk_at "gg"
    rw [hp.len]
    refine if_d (fun c2 => ?_) (fun c2 => ?_)
    · walk_at "gg"
      rw [decide_eq_false (by omega : ¬ z.2.length ≤ 8)] at k
      exact k
    · walk_at "gg"
      rw [decide_eq_true (by omega : z.2.length ≤ 8)] at k
      exact ⟨_, _, _, rfl, hc, k⟩
  · rw [decide_eq_false c1] at k ⊢
    walk_at "gg"
    exact k
theorem ok_check_zone (T : Txt w K mg) : FnOk P w K mg base CX0 5 T.f_check_zone.f T.f_check_zone.fd ["value"] (sp_check_zone K) := by
  refine T.f_check_zone.F.ok sc_check_zone (fun vs H Q E h => ?_) (fun cdv A outer s H vs Q E hr h => ?_)
  · obtain ⟨zv, z, rfl, _⟩ := h
    rfl
  obtain ⟨zv, z, rfl, hz, c, k⟩ := h
  refine ⟨(tIfS (tNot (tB (tCall (sp_is_zone K) [] E0 (tCons (tVar 0) tNil)))) tNever tNext),
    PSs.nox (pss_one (ps_if (pt_not (pt_val (pe_call (ok_is_zone T) (hr.mono (by decide)) (by rfl) T.f_is_zone.g T.f_is_zone.F.kp T.f_is_zone.b .nil pass0 (pa_cons (pv 0) pa_nil)))) (pss_one ps_never) pss_nil)), ?_⟩
  walk_at "gg"
  refine ⟨_, _, rfl, hz, ?_⟩
  rw [c]
  walk_at "gg"
  exact k
theorem ok_check_instant (T : Txt w K mg) : FnOk P w K mg base CX0 3 T.f_check_instant.f T.f_check_instant.fd ["value"] (sp_check_instant K) := by
  refine T.f_check_instant.F.ok sc_check_instant (fun vs H Q E h => ?_) (fun cdv A outer s H vs Q E hr h => ?_)
  · obtain ⟨v, rfl, _⟩ := h
    rfl
  obtain ⟨v, rfl, c1, c2, k⟩ := h
  refine ⟨(tIfS (tNot (tB (tCall (sp_is_instant K) [] E0 (tCons (tVar 0) tNil)))) tNever tNext),
    PSs.nox (pss_one (ps_if (pt_not (pt_val (pe_call (ok_is_instant T) (hr.mono (by decide)) (by rfl) T.f_is_instant.g T.f_is_instant.F.kp T.f_is_instant.b .nil pass0 (pa_cons (pv 0) pa_nil)))) (pss_one ps_never) pss_nil)), ?_⟩
  walk_at "gg"
  refine ⟨_, rfl, ?_⟩
  rw [decide_eq_true (And.intro c1 c2)]
  walk_at "gg"
  exact k
theorem ok_check_reading (T : Txt w K mg) : FnOk P w K mg base CX0 3 T.f_check_reading.f T.f_check_reading.fd ["value"] (sp_check_reading K) := by
  refine T.f_check_reading.F.ok sc_check_reading (fun vs H Q E h => ?_) (fun cdv A outer s H vs Q E hr h => ?_)
  · obtain ⟨v, rfl, _⟩ := h
    rfl
  obtain ⟨v, rfl, c1, c2, k⟩ := h
  refine ⟨(tIfS (tNot (tB (tCall (sp_is_reading K) [] E0 (tCons (tVar 0) tNil)))) tNever tNext),
    PSs.nox (pss_one (ps_if (pt_not (pt_val (pe_call (ok_is_reading T) (hr.mono (by decide)) (by rfl) T.f_is_reading.g T.f_is_reading.F.kp T.f_is_reading.b .nil pass0 (pa_cons (pv 0) pa_nil)))) (pss_one ps_never) pss_nil)), ?_⟩
  walk_at "gg"
  refine ⟨_, rfl, ?_⟩
  rw [decide_eq_true (And.intro c1 c2)]
  walk_at "gg"
  exact k
theorem ok_offset_at (T : Txt w K mg) : FnOk P w K mg base CX0 6 T.f_offset_at.f T.f_offset_at.fd ["zone", "instant"] (sp_offset_at K) := by
  refine T.f_offset_at.F.ok sc_offset_at (fun vs H Q E h => ?_) (fun cdv A outer s H vs Q E hr h => ?_)
  · obtain ⟨zv, z, t, rfl, _⟩ := h
    rfl
  obtain ⟨zv, z, t, rfl, hz, c, c1, c2, k⟩ := h
  refine ⟨(tSeq (tDrop (tCall (sp_check_zone K) [] E0 (tCons (tVar 0) tNil))) (tSeq (tDrop (tCall (sp_check_instant K) [] E0 (tCons (tVar 1) tNil))) (tRet (tCall (sp_offset_in_force K) [] E0 (tCons (tVar 0) (tCons (tVar 1) tNil)))))),
    PSs.nox (pss_cons (ps_expr (pe_call (ok_check_zone T) (hr.mono (by decide)) (by rfl) T.f_check_zone.g T.f_check_zone.F.kp T.f_check_zone.b .nil pass0 (pa_cons (pv 0) pa_nil))) (pss_cons (ps_expr (pe_call (ok_check_instant T) (hr.mono (by decide)) (by rfl) T.f_check_instant.g T.f_check_instant.F.kp T.f_check_instant.b .nil pass0 (pa_cons (pv 1) pa_nil))) (pss_one (ps_ret (pe_call (ok_offset_in_force T) (hr.mono (by decide)) (by rfl) T.f_offset_in_force.g T.f_offset_in_force.F.kp T.f_offset_in_force.b .nil pass0 (pa_cons (pv 0) (pa_cons (pv 1) pa_nil))))))), ?_⟩
  walk_at "gg"
  refine ⟨_, _, rfl, hz, c, ?_⟩
  walk_at "gg"
  refine ⟨_, rfl, c1, c2, ?_⟩
  walk_at "gg"
  exact ⟨_, _, _, rfl, hz, k⟩
theorem ok_instants_of (T : Txt w K mg) : FnOk P w K mg base CX0 6 T.f_instants_of.f T.f_instants_of.fd ["zone", "reading"] (sp_instants_of K) := by
  refine T.f_instants_of.F.ok sc_instants_of (fun vs H Q E h => ?_) (fun cdv A outer s H vs Q E hr h => ?_)
  · obtain ⟨zv, z, t, rfl, _⟩ := h
    rfl
  obtain ⟨zv, z, t, rfl, hz, c, c1, c2, k⟩ := h
  refine ⟨(tSeq (tDrop (tCall (sp_check_zone K) [] E0 (tCons (tVar 0) tNil))) (tSeq (tDrop (tCall (sp_check_reading K) [] E0 (tCons (tVar 1) tNil))) (tRet (tCall (sp_instants_with K) [] E0 (tCons (tVar 0) (tCons (tVar 1) tNil)))))),
    PSs.nox (pss_cons (ps_expr (pe_call (ok_check_zone T) (hr.mono (by decide)) (by rfl) T.f_check_zone.g T.f_check_zone.F.kp T.f_check_zone.b .nil pass0 (pa_cons (pv 0) pa_nil))) (pss_cons (ps_expr (pe_call (ok_check_reading T) (hr.mono (by decide)) (by rfl) T.f_check_reading.g T.f_check_reading.F.kp T.f_check_reading.b .nil pass0 (pa_cons (pv 1) pa_nil))) (pss_one (ps_ret (pe_call (ok_instants_with T) (hr.mono (by decide)) (by rfl) T.f_instants_with.g T.f_instants_with.F.kp T.f_instants_with.b .nil pass0 (pa_cons (pv 0) (pa_cons (pv 1) pa_nil))))))), ?_⟩
  walk_at "gg"
  refine ⟨_, _, rfl, hz, c, ?_⟩
  walk_at "gg"
  refine ⟨_, rfl, c1, c2, ?_⟩
  walk_at "gg"
  refine ⟨_, _, _, rfl, hz, ?_, k⟩
  unfold okZ at c
  simp only [Bool.and_eq_true, decide_eq_true_eq] at c
  exact c.2.1
theorem ok_kind_of (T : Txt w K mg) : FnOk P w K mg base CX0 6 T.f_kind_of.f T.f_kind_of.fd ["zone"] (sp_kind_of K) := by
  refine T.f_kind_of.F.ok sc_kind_of (fun vs H Q E h => ?_) (fun cdv A outer s H vs Q E hr h => ?_)
  · obtain ⟨zv, z, rfl, _⟩ := h
    rfl
  obtain ⟨zv, z, rfl, hz, c, k⟩ := h
  obtain ⟨a, c, rfl, ha, b, xs, rfl, hb, hp⟩ := id hz
  refine ⟨(tSeq (tDrop (tCall (sp_check_zone K) [] E0 (tCons (tVar 0) tNil))) (tSeq (tAsg (tVar 0) (gTup K 2 (gCons (gName 1) (gCons (gName 2) gNil)))) (tSeq (tAsg2 (tC (.bl false)) (gName 3) (gName 4)) (tSeq (tFor (iTup K (tVar 2)) (gTup K 2 (gCons (gName 5) (gCons (gName 6) gNil))) (tSeq (tIfS (tTest (tOp (rI0 fun i j => .bl (decide (j < i))) (tVar 6) (tVar 1))) (tAsg (tC (.bl true)) (gName 3)) (tAsg (tC (.bl true)) (gName 4))) (tAsg (tVar 6) (gName 1)))) (tSeq (tIfS (tAnd (tB (tVar 3)) (tB (tVar 4))) (tRet (tC (.str "both"))) tNext) (tSeq (tIfS (tB (tVar 3)) (tRet (tC (.str "skips"))) tNext) (tRet (tIf (tB (tVar 4)) (tC (.str "repeats")) (tC (.str "fixed")))))))))),
    PSs.nox (pss_cons (ps_expr (pe_call (ok_check_zone T) (hr.mono (by decide)) (by rfl) T.f_check_zone.g T.f_check_zone.F.kp T.f_check_zone.b .nil pass0 (pa_cons (pv 0) pa_nil))) (pss_cons (ps_asg (pv 0) (pg_tup rfl (pgs_cons (pg_name (i := 1) sc_kind_of.nd rfl (Or.inl rfl)) (pgs_cons (pg_name (i := 2) sc_kind_of.nd rfl (Or.inl rfl)) pgs_nil)))) (pss_cons (ps_asg2 pe_bl (pg_name (i := 3) sc_kind_of.nd rfl (Or.inl rfl)) (pg_name (i := 4) sc_kind_of.nd rfl (Or.inl rfl))) (pss_cons (ps_for PassesOwn.never rfl (pi_tup (pv 2)) (pg_tup rfl (pgs_cons (pg_name (i := 5) sc_kind_of.nd rfl (Or.inl rfl)) (pgs_cons (pg_name (i := 6) sc_kind_of.nd rfl (Or.inl rfl)) pgs_nil))) (pss_cons (ps_if (pt_cmpR op_gt (pv 6) (pv 1) (nomark _)) (pss_one (ps_set (i := 3) sc_kind_of.nd rfl (Or.inl rfl) pe_bl)) (pss_one (ps_set (i := 4) sc_kind_of.nd rfl (Or.inl rfl) pe_bl))) (pss_one (ps_set (i := 1) sc_kind_of.nd rfl (Or.inl rfl) (pv 6))))) (pss_cons (ps_if (PW.pt (pw_and (pt_val (pv 3)) (pw_and1 (pt_val (pv 4))))) (pss_one (ps_ret pe_str)) pss_nil) (pss_cons (ps_if (pt_val (pv 3)) (pss_one (ps_ret pe_str)) pss_nil) (pss_one (ps_ret (pe_ifExp (pt_val (pv 4)) pe_str pe_str))))))))), ?_⟩
  walk_at "gg"
  refine ⟨_, _, rfl, hz, c, ?_⟩
  walk_at "gg"
  refine g_forT (F := PV K) hb hp (fun l σ' H' => H' = H ∧ ∃ o' s' r' i0 j0, kindGo o' s' r' l = kindGo z.1 false false z.2 ∧ σ' = [some (.ref a), some (.int o'), some (.ref b), some (.bl s'), some (.bl r'), i0, j0])
    ⟨rfl, _, _, _, _, _, rfl, rfl⟩ (fun _ _ _ q => by rw [q.1]; exact ⟨hb, fun _ _ h => h⟩) ?_ ?_
  · rintro p l x σ' H' ⟨rfl, o', s', r', i0, j0, q, rfl⟩ ⟨y, rfl, hy⟩
    rw [kindGo_cons] at q
    walk_at "gg"
    refine if_d (fun c => ?_) (fun c => ?_)
    · walk_at "gg"
      rw [if_pos (by omega)] at q
      exact ⟨rfl, _, _, _, _, _, q, rfl⟩
    · walk_at "gg"
      rw [if_neg (by omega)] at q
      exact ⟨rfl, _, _, _, _, _, q, rfl⟩
  · rintro σ' H' ⟨rfl, o', s', r', i0, j0, q, rfl⟩
    have k := k _ (Evl.Ex.refl _)
    unfold kindOf at k
    rw [← q] at k
    unfold kindGo at k
    walk_at "gg"
    cases s' <;> cases r' <;> (walk_at "gg"; exact k)
end
local macro_rules | `(tactic| walk_at "m") => `(tactic| first
  | with_reducible refine g_m1 ?_
  | with_reducible refine g_isS ?_
  | with_reducible refine g_lcStr ?_
  | with_reducible refine g_join ?_
  | with_reducible refine g_js ?_
  | with_reducible refine g_jsN ?_
  | with_reducible refine g_fmt ?_
  | with_reducible refine g_callLam ?_
  | with_reducible refine g_revT ?_)

/-! ### draws -/
def sp_law_taken (K : PySem.W.Frag) : Sp := fun vs H Q _ => ∃ (ρ : Rw) (n : Int), vs = [.ref ρ.1, .int n] ∧ Row K H ρ ∧ 0 < n ∧ n ≤ 1000000 ∧
  ∀ v H', 0 ≤ v → v < n → Fr ρ.1 H H' → Row K H' ρ → Q (.int v) H'
def sp_law_pick (K : PySem.W.Frag) : Sp := fun vs H Q _ => ∃ (ρ : Rw) (k : Addr) (xs : List V), vs = [.ref ρ.1, .ref k] ∧ Row K H ρ ∧ H k = some (.lst xs) ∧ k ≠ ρ.1 ∧ 0 < xs.length ∧ xs.length ≤ 1000 ∧
  ∀ x H', x ∈ xs → Fr ρ.1 H H' → Row K H' ρ → Q x H'
section
variable {P : Program} {w : World} {K : PySem.W.Frag} {mg : Str → Option Value} {base : Heap}
theorem ok_law_taken (T : Txt w K mg) : FnOk P w K mg base CX0 1 T.f_law_taken.f T.f_law_taken.fd ["row", "many"] (sp_law_taken K) := by
  refine T.f_law_taken.F.ok sc_law_taken (fun vs H Q E h => ?_) (fun cdv A outer s H vs Q E hr h => ?_)
  · obtain ⟨ρ, n, rfl, _⟩ := h
    rfl
  obtain ⟨ρ, n, rfl, ⟨i, sd, t, hl, hs, b1, b2, b3⟩, n1, n2, k⟩ := h
  have hm := fun (v : Int) => And.intro (Int.emod_nonneg v (by omega : n ≠ 0)) (Int.emod_lt_of_pos v n1)
  have m31 := fun (v : Int) => And.intro (Int.emod_nonneg v (by omega : (2147483647 : Int) ≠ 0)) (Int.emod_lt_of_pos v (by omega : (0 : Int) < 2147483647))
  refine ⟨(tSeq (tIfS (tTest (tOp (rI0 fun i j => .bl (decide (j < i))) (tOp (rIxL K) (tVar 0) (tC (.int 3))) (tC (.int 0)))) (tSeq (tAsg (tOp (rI (fun _ j => 0 < j) fun i j => .int (i % j)) (tCB r_int (tCons (tOp (rIxL K) (tVar 0) (tC (.int 3))) tNil)) (tVar 1)) (gName 2)) (tSeq (tAsg (tOp (rI CDivW fun i j => .int (i / j)) (tOp (rIxL K) (tVar 0) (tC (.int 3))) (tVar 1)) (gSub (tVar 0) (tC (.int 3)) rSetL)) (tRet (tVar 2)))) tNext) (tSeq (tAsg (tOp (rI0 fun i j => .int (i + j)) (tOp (rIxL K) (tVar 0) (tC (.int 1))) (tC (.int 1))) (gSub (tVar 0) (tC (.int 1)) rSetL)) (tSeq (tIfS (tTest (tOp (rI0 fun i j => .bl (decide (j < i))) (tOp (rIxL K) (tVar 0) (tC (.int 1))) (tCB (Evl.rLenS K) (tCons (tOp (rIxL K) (tVar 0) (tC (.int 0))) tNil)))) (tSeq (tAsg (tOp (rI (fun _ j => 0 < j) fun i j => .int (i % j)) (tCB r_int (tCons (tOp (rI0 fun i j => .int (i + j)) (tOp (rI CMul fun i j => .int (i * j)) (tOp (rIxL K) (tVar 0) (tC (.int 2))) (tC (.int 48271))) (tC (.int 11))) tNil)) (tC (.int 2147483647))) (gSub (tVar 0) (tC (.int 2)) rSetL)) (tRet (tOp (rI (fun _ j => 0 < j) fun i j => .int (i % j)) (tCB r_int (tCons (tOp (rI CDivW fun i j => .int (i / j)) (tOp (rIxL K) (tVar 0) (tC (.int 2))) (tC (.int 7))) tNil)) (tVar 1)))) tNext) (tSeq (tAsg (tOp (rIxL K) (tOp (rIxL K) (tVar 0) (tC (.int 0))) (tOp (rI0 fun i j => .int (i - j)) (tOp (rIxL K) (tVar 0) (tC (.int 1))) (tC (.int 1)))) (gName 3)) (tSeq (tAsg (tOp (rI (fun _ j => 0 < j) fun i j => .int (i % j)) (tCB r_int (tCons (tOp (rI0 fun i j => .int (i + j)) (tOp (rI0 fun i j => .int (i + j)) (tOp (rI CMul fun i j => .int (i * j)) (tOp (rIxL K) (tVar 0) (tC (.int 2))) (tC (.int 48271))) (tVar 3)) (tC (.int 11))) tNil)) (tC (.int 2147483647))) (gSub (tVar 0) (tC (.int 2)) rSetL)) (tSeq (tIfS (tTest (tOp (rI0 fun i j => .bl (decide (j ≤ i))) (tVar 3) (tOp (rI CPow fun i j => .int (i ^ j.toNat)) (tC (.int 10)) (tC (.int 18))))) (tAsg (tOp (rI CDivW fun i j => .int (i / j)) (tVar 3) (tVar 1)) (gSub (tVar 0) (tC (.int 3)) rSetL)) tNext) (tRet (tOp (rI (fun _ j => 0 < j) fun i j => .int (i % j)) (tCB r_int (tCons (tVar 3) tNil)) (tVar 1))))))))),
    PSs.nox (pss_cons (ps_if (pt_cmpR op_gt (pe_ix ix_list (pv 0) pe_int (fun _ _ => rfl)) pe_int (nomark _)) (pss_cons (ps_set (i := 2) sc_law_taken.nd rfl (Or.inl rfl) (pe_op op_mod (pe_callTy call_int1 (by rfl) T.z_int (by decide +kernel) (pa_cons (pe_ix ix_list (pv 0) pe_int (fun _ _ => rfl)) pa_nil)) (pv 1))) (pss_cons (ps_asg (pe_op op_fdivW (pe_ix ix_list (pv 0) pe_int (fun _ _ => rfl)) (pv 1)) (pg_sub (pv 0) pe_int set_list)) (pss_one (ps_ret (pv 2))))) pss_nil) (pss_cons (ps_asg (pe_op op_add (pe_ix ix_list (pv 0) pe_int (fun _ _ => rfl)) pe_int) (pg_sub (pv 0) pe_int set_list)) (pss_cons (ps_if (pt_cmpR op_gt (pe_ix ix_list (pv 0) pe_int (fun _ _ => rfl)) (pe_callB call_len_seq (by rfl) T.z_len (by decide +kernel) (pa_cons (pe_ix ix_list (pv 0) pe_int (fun _ _ => rfl)) pa_nil)) (nomark _)) (pss_cons (ps_asg (pe_op op_mod (pe_callTy call_int1 (by rfl) T.z_int (by decide +kernel) (pa_cons (pe_op op_add (pe_op op_mul (pe_ix ix_list (pv 0) pe_int (fun _ _ => rfl)) pe_int) pe_int) pa_nil)) pe_int) (pg_sub (pv 0) pe_int set_list)) (pss_one (ps_ret (pe_op op_mod (pe_callTy call_int1 (by rfl) T.z_int (by decide +kernel) (pa_cons (pe_op op_fdivW (pe_ix ix_list (pv 0) pe_int (fun _ _ => rfl)) pe_int) pa_nil)) (pv 1))))) pss_nil) (pss_cons (ps_set (i := 3) sc_law_taken.nd rfl (Or.inl rfl) (pe_ix ix_list (pe_ix ix_list (pv 0) pe_int (fun _ _ => rfl)) (pe_op op_sub (pe_ix ix_list (pv 0) pe_int (fun _ _ => rfl)) pe_int) (fun _ _ => rfl))) (pss_cons (ps_asg (pe_op op_mod (pe_callTy call_int1 (by rfl) T.z_int (by decide +kernel) (pa_cons (pe_op op_add (pe_op op_add (pe_op op_mul (pe_ix ix_list (pv 0) pe_int (fun _ _ => rfl)) pe_int) (pv 3)) pe_int) pa_nil)) pe_int) (pg_sub (pv 0) pe_int set_list)) (pss_cons (ps_if (pt_cmpR op_ge (pv 3) (pe_op op_pow pe_int pe_int) (nomark _)) (pss_one (ps_asg (pe_op op_fdivW (pv 3) (pv 1)) (pg_sub (pv 0) pe_int set_list))) pss_nil) (pss_one (ps_ret (pe_op op_mod (pe_callTy call_int1 (by rfl) T.z_int (by decide +kernel) (pa_cons (pv 3) pa_nil)) (pv 1)))))))))), ?_⟩
  walk_at "gg"
  refine g_ixL (SqL.of hl) rfl ?_
  walk_at "gg"
  refine if_d (fun c => ?_) (fun c => ?_)
  · walk_at "gg"
    refine g_ixL (SqL.of hl) rfl ?_
    walk_at "gg"
    refine g_ixL (SqL.of hl) rfl ?_
    walk_at "gg"
    refine g_setL hl rfl fun H1 e1 h1 => ?_
    walk_at "gg"
    exact k _ H1 (hm _).1 (hm _).2 e1 ⟨i, sd, _, h1, hs.fr e1, b1, b2, b3⟩
  · walk_at "gg"
    refine g_ixL (SqL.of hl) rfl ?_
    walk_at "gg"
    refine g_setL hl rfl fun H1 e1 h1 => ?_
    walk_at "gg"
    refine g_ixL (SqL.of h1) rfl ?_
    walk_at "gg"
    refine g_ixL (SqL.of h1) rfl ?_
    walk_at "gg"
    refine g_lenL (hs H1 e1) ?_
    walk_at "gg"
    rw [List.length_map]
    refine if_d (fun c2 => ?_) (fun c2 => ?_)
    · walk_at "gg"
      refine g_ixL (SqL.of h1) rfl ?_
      walk_at "gg"
      refine g_setL h1 rfl fun H2 e2 h2 => ?_
      walk_at "gg"
      refine g_ixL (SqL.of h2) rfl ?_
      walk_at "gg"
      have z := m31 (sd * 48271 + 11)
      exact k _ H2 (hm _).1 (hm _).2 (e1.trans e2) ⟨_, _, _, h2, hs.fr (e1.trans e2), by omega, z.1, by omega⟩
    · walk_at "gg"
      refine g_ixL (SqL.of h1) rfl ?_
      walk_at "gg"
      refine g_ixL (SqL.of h1) rfl ?_
      walk_at "gg"
      have lt : i.toNat < ρ.2.2.length := by omega
      refine g_ixL (hs H1 e1) (v := .int ρ.2.2[i.toNat]) (atI_of (by omega) ?_) ?_
      · rw [List.getElem?_map, show i + 1 - 1 = i by omega, List.getElem?_eq_getElem lt]
        rfl
      generalize ρ.2.2[i.toNat] = cell
      walk_at "gg"
      refine g_ixL (SqL.of h1) rfl ?_
      walk_at "gg"
      refine g_setL h1 rfl fun H2 e2 h2 => ?_
      walk_at "gg"
      have z := m31 (sd * 48271 + cell + 11)
      refine if_d (fun c3 => ?_) (fun c3 => ?_)
      · walk_at "gg"
        refine g_setL h2 rfl fun H3 e3 h3 => ?_
        walk_at "gg"
        exact k _ H3 (hm _).1 (hm _).2 ((e1.trans e2).trans e3) ⟨_, _, _, h3, hs.fr ((e1.trans e2).trans e3), by omega, z.1, by omega⟩
      · walk_at "gg"
        exact k _ H2 (hm _).1 (hm _).2 (e1.trans e2) ⟨_, _, _, h2, hs.fr (e1.trans e2), by omega, z.1, by omega⟩
end
local macro_rules | `(tactic| walk_at "m") => `(tactic| first
  | with_reducible refine g_m1 ?_
  | with_reducible refine g_isS ?_
  | with_reducible refine g_lcStr ?_
  | with_reducible refine g_join ?_
  | with_reducible refine g_js ?_
  | with_reducible refine g_jsN ?_
  | with_reducible refine g_fmt ?_
  | with_reducible refine g_callLam ?_
  | with_reducible refine g_revT ?_)

/-! ### the mathematics of the law's own steps -/
theorem okGo_after : ∀ {b e : Int} {cs : List (Int × Int)}, okGo b e cs = true → ∀ p ∈ cs, e ≤ p.1
  | _, _, [], _, _, h => nomatch h
  | b, e, p :: r, h, q, hq => by
    rw [okGo_cons, Bool.and_eq_true] at h
    have h1 := h.1
    unfold okC at h1
    simp only [Bool.and_eq_true, decide_eq_true_eq] at h1
    rcases List.mem_cons.mp hq with rfl | hq
    · exact h1.1.1
    · have := okGo_after h.2 q hq
      omega
theorem off_filter (t : Int) : ∀ {b e : Int} {cs : List (Int × Int)} (cur : Int), okGo b e cs = true →
    offGo t cur cs = ((cs.filter fun p => decide (p.1 ≤ t)).map (·.2)).getLast?.getD cur
  | _, _, [], _, _ => rfl
  | b, e, p :: r, cur, h => by
    have h0 := h
    rw [okGo_cons, Bool.and_eq_true] at h
    unfold offGo
    split
    next c =>
      have em : (p :: r).filter (fun p => decide (p.1 ≤ t)) = [] := by
        rw [List.filter_eq_nil_iff]
        intro q hq
        rcases List.mem_cons.mp hq with rfl | hq
        · simp; omega
        · have := okGo_after h.2 q hq
          simp; omega
      rw [em]
      rfl
    next c =>
      have hp : decide (p.1 ≤ t) = true := decide_eq_true (by omega)
      rw [List.filter_cons, if_pos hp, List.map_cons, List.getLast?_cons, off_filter t p.2 h.2]
      rfl
theorem okGo_offs : ∀ {b e : Int} {cs : List (Int × Int)}, okGo b e cs = true → ∀ p ∈ cs, -15 ≤ p.2 ∧ p.2 ≤ 15 ∧ e ≤ p.1 ∧ p.1 ≤ 1000
  | _, _, [], _, _, h => nomatch h
  | b, e, p :: r, h, q, hq => by
    have h0 := okGo_after h q hq
    rw [okGo_cons, Bool.and_eq_true] at h
    have h1 := h.1
    unfold okC at h1
    simp only [Bool.and_eq_true, decide_eq_true_eq] at h1
    rcases List.mem_cons.mp hq with rfl | hq
    · omega
    · have := okGo_offs h.2 q hq
      omega
structure OkZ (z : Zone) : Prop where
  lo : -12 ≤ z.1
  hi : z.1 ≤ 12
  len : z.2.length ≤ 8
  go : okGo z.1 (-1000) z.2 = true
theorem OkZ.of {z : Zone} (h : okZ z = true) : OkZ z := by
  unfold okZ at h
  simp only [Bool.and_eq_true, decide_eq_true_eq] at h
  exact ⟨h.1.1, h.1.2, h.2.1, h.2.2⟩
theorem OkZ.offs {z : Zone} (h : OkZ z) (t : Int) : -15 ≤ off z t ∧ off z t ≤ 15 := by
  have m := offGo_mem t z.2 z.1
  have l := h.lo
  have u := h.hi
  unfold off
  rcases List.mem_cons.mp m with e | e
  · rw [e]; omega
  · obtain ⟨p, hp, q⟩ := List.mem_map.mp e
    rw [← q]
    have := okGo_offs h.go p hp
    omega
/-- the instants with a reading -/
def insts (z : Zone) (t : Int) : List Int := (irange (t - 16) 33).filter fun k => decide (k + off z k = t)
theorem insts_mem {z : Zone} (h : OkZ z) {t k : Int} : k ∈ insts z t ↔ k + off z k = t := by
  unfold insts
  rw [List.mem_filter, decide_eq_true_eq, irange_mem]
  have := h.offs k
  constructor
  · exact fun q => q.2
  · exact fun q => ⟨by omega, q⟩
theorem insts_rise (z : Zone) (t : Int) : (insts z t).Pairwise (· < ·) := (irange_rise _ _).filter _
/-! ### promises -/
def sp_law_alike (K : PySem.W.Frag) : Nat → Sp
  | 0 => fun _ _ _ _ => False
  | n + 1 => fun vs H Q _ => ∃ (x y : V) (d : PyData), vs = [x, y] ∧ Dp K H x d ∧ Dp K H y d ∧ fits n d = true ∧ ∀ H', Ex H H' → Q (.bl true) H'
def sp_law_offset (K : PySem.W.Frag) : Sp := fun vs H Q _ => ∃ (zv : V) (z : Zone) (t : Int), vs = [zv, .int t] ∧ ZV K H zv z ∧ OkZ z ∧ ∀ H', Ex H H' → Q (.int (off z t)) H'
def sp_law_instants (K : PySem.W.Frag) : Sp := fun vs H Q _ => ∃ (zv : V) (z : Zone) (t : Int), vs = [zv, .int t] ∧ ZV K H zv z ∧ OkZ z ∧ -1000000000 ≤ t ∧ t ≤ 1000000000 ∧
  ∀ p H', H p = none → Ex H H' → H' p = some (.lst ((insts z t).map V.int)) → Q (.ref p) H'
section
variable {P : Program} {w : World} {K : PySem.W.Frag} {mg : Str → Option Value} {base : Heap}
end
local macro_rules | `(tactic| walk_at "m") => `(tactic| first
  | with_reducible refine g_m1 ?_
  | with_reducible refine g_isS ?_
  | with_reducible refine g_lcStr ?_
  | with_reducible refine g_join ?_
  | with_reducible refine g_js ?_
  | with_reducible refine g_jsN ?_
  | with_reducible refine g_fmt ?_
  | with_reducible refine g_callLam ?_
  | with_reducible refine g_revT ?_)

/-! ### the drawn zone's mathematics -/
def lastO : Int → List (Int × Int) → Int
  | b, [] => b
  | _, p :: r => lastO p.2 r
def lastE : Int → List (Int × Int) → Int
  | e, [] => e
  | _, p :: r => lastE (p.1 + 12) r
theorem okGo_app (p : Int × Int) : ∀ (ps : List (Int × Int)) (b e : Int), okGo b e (ps ++ [p]) = (okGo b e ps && okC (lastO b ps) (lastE e ps) p)
  | [], b, e => by
    show okGo b e [p] = (true && okC b e p)
    rw [okGo_cons, Bool.true_and]
    show (okC b e p && true) = _
    rw [Bool.and_true]
  | q :: r, b, e => by
    show okGo b e (q :: (r ++ [p])) = _
    rw [okGo_cons, okGo_cons, okGo_app p r, Bool.and_assoc]
    rfl
def kstep (b : Int) (f : Bool × Bool) (a : Int) : Bool × Bool := if a > b then (true, f.2) else (f.1, true)
theorem kindGo_app (p : Int × Int) : ∀ (ps : List (Int × Int)) (b : Int) (s r : Bool), kindGo b s r (ps ++ [p]) = kstep (lastO b ps) (kindGo b s r ps) p.2
  | [], b, s, r => rfl
  | q :: l, b, s, r => by
    show kindGo b s r (q :: (l ++ [p])) = _
    rw [kindGo_cons, kindGo_cons]
    split
    · exact kindGo_app p l _ _ _
    · exact kindGo_app p l _ _ _
theorem lastO_app (p : Int × Int) : ∀ (ps : List (Int × Int)) (b : Int), lastO b (ps ++ [p]) = p.2
  | [], _ => rfl
  | q :: r, b => lastO_app p r q.2
theorem lastE_app (p : Int × Int) : ∀ (ps : List (Int × Int)) (e : Int), lastE e (ps ++ [p]) = p.1 + 12
  | [], _ => rfl
  | q :: r, b => lastE_app p r (q.1 + 12)
/-- the flags behind i changes -/
def flagsOf (kind : Str) (i : Nat) : Bool × Bool := match i with
  | 0 => (false, false)
  | 1 => if kind = "repeats" then (false, true) else (true, false)
  | _ => if kind = "skips" then (true, false) else if kind = "repeats" then (false, true) else (true, true)
structure ZInv (kind : Str) (first : Int) (i : Nat) (ps : List (Int × Int)) (o at' : Int) : Prop where
  len : ps.length = i
  ok : okGo first (-1000) ps = true
  ho : lastO first ps = o
  he : lastE (-1000) ps ≤ at'
  a1 : -30 ≤ at'
  a2 : at' ≤ -22 + 32 * i
  o1 : -3 - 3 * i ≤ o
  o2 : o ≤ 3 + 3 * i
  fl : kindGo first false false ps = flagsOf kind i
/-- the sign of a change -/
structure Sgn (kind : Str) (i : Nat) (s : Int) : Prop where
  one : s = 1 ∨ s = -1
  sk : kind = "skips" → s = 1
  re : kind = "repeats" → s = -1
  b0 : kind ≠ "skips" → kind ≠ "repeats" → i = 0 → s = 1
  b1 : kind ≠ "skips" → kind ≠ "repeats" → i = 1 → s = -1
theorem ne_sr : ¬ (("skips" : Str) = "repeats") := by decide +kernel
theorem ne_rs : ¬ (("repeats" : Str) = "skips") := by decide +kernel
theorem ZInv.step {kind : Str} {first : Int} {i : Nat} {ps : List (Int × Int)} {o at' : Int} (h : ZInv kind first i ps o at') {st s g : Int} (i3 : i ≤ 3) (h1 : 1 ≤ st) (h2 : st ≤ 3) (hs : Sgn kind i s) (g0 : 0 ≤ g) (g1 : g ≤ 19) :
    ZInv kind first (i + 1) (ps ++ [(at', o + s * st)]) (o + s * st) (at' + 12 + g) := by
  have a1 := h.a1
  have a2 := h.a2
  have o1 := h.o1
  have o2 := h.o2
  have e := h.he
  have hm : s * st = st ∨ s * st = -st := by
    rcases hs.one with q | q <;> rw [q] <;> omega
  refine ⟨by rw [List.length_append, h.len] <;> rfl, ?_, lastO_app _ _ _, ?_, by omega, by omega, by omega, by omega, ?_⟩
  · rw [okGo_app, h.ok, h.ho]
    unfold okC
    simp only [Bool.true_and, Bool.and_eq_true, decide_eq_true_eq]
    omega
  · rw [lastE_app]
    show at' + 12 ≤ _
    omega
  · rw [kindGo_app, h.ho, h.fl]
    show kstep o (flagsOf kind i) (o + s * st) = flagsOf kind (i + 1)
    unfold kstep
    by_cases k1 : kind = "skips"
    · have q := hs.sk k1
      rw [if_pos (by rw [q]; omega)]
      subst k1
      match i with
      | 0 => unfold flagsOf; simp [ne_sr]
      | 1 => unfold flagsOf; simp [ne_sr]
      | i + 2 => unfold flagsOf; simp
    · by_cases k2 : kind = "repeats"
      · have q := hs.re k2
        rw [if_neg (by rw [q]; omega)]
        subst k2
        match i with
        | 0 => unfold flagsOf; simp
        | 1 => unfold flagsOf; simp [ne_rs]
        | i + 2 => unfold flagsOf; simp [ne_rs]
      · match i with
        | 0 =>
          have q := hs.b0 k1 k2 rfl
          rw [if_pos (by rw [q]; omega)]
          unfold flagsOf
          simp [k2]
        | 1 =>
          have q := hs.b1 k1 k2 rfl
          rw [if_neg (by rw [q]; omega)]
          unfold flagsOf
          simp [k1, k2]
        | i + 2 =>
          unfold flagsOf
          simp [k1, k2]
structure GoodZ (kind : Str) (z : Zone) : Prop where
  ok : okZ z = true
  kind : kindOf z = kind
  few : z.2.length ≤ 4
theorem ZInv.good {kind : Str} {first : Int} {i : Nat} {ps : List (Int × Int)} {o at' : Int} (h : ZInv kind first i ps o at') (f1 : -3 ≤ first) (f2 : first ≤ 3) (i4 : i ≤ 4)
    (hk : (kind = "fixed" ∧ i = 0) ∨ ((kind = "skips" ∨ kind = "repeats") ∧ 1 ≤ i) ∨ (kind = "both" ∧ 2 ≤ i)) : GoodZ kind (first, ps) := by
  refine ⟨?_, ?_, by show ps.length ≤ 4; rw [h.len]; exact i4⟩
  · unfold okZ
    simp only [Bool.and_eq_true, decide_eq_true_eq]
    exact ⟨by omega, by rw [h.len]; omega, h.ok⟩
  · show (match kindGo first false false ps with | (true, true) => ("both" : Str) | (true, false) => "skips" | (false, true) => "repeats" | (false, false) => "fixed") = kind
    rw [h.fl]
    have nb1 : ¬ (("both" : Str) = "skips") := by decide +kernel
    have nb2 : ¬ (("both" : Str) = "repeats") := by decide +kernel
    rcases hk with ⟨rfl, rfl⟩ | ⟨rfl | rfl, hi⟩ | ⟨rfl, hi⟩
    · rfl
    · match i with
      | 1 => unfold flagsOf; simp [ne_sr]
      | i + 2 => unfold flagsOf; simp
    · match i with
      | 1 => unfold flagsOf; simp
      | i + 2 => unfold flagsOf; simp [ne_rs]
    · match i with
      | i + 2 => unfold flagsOf; simp [nb1, nb2]
/-- what the written dict of signs gives -/
def sgnV (kind : Str) (d : Int) : V := (valV (mergeK [] [((Sum.inr "skips" : Key), V.int 1), (Sum.inr "repeats", V.int (0 - 1))]) (Sum.inr kind : Key)).getD (.int d)
theorem sgnV_ok {kind : Str} {i : Nat} {d : Int} (h1 : d = 1 ∨ d = -1) (h2 : i = 0 → d = 1) (h3 : i = 1 → d = -1) : ∃ s, sgnV kind d = .int s ∧ Sgn kind i s := by
  have e : mergeK [] [((Sum.inr "skips" : Key), V.int 1), (Sum.inr "repeats", V.int (0 - 1))] = [((Sum.inr "skips" : Key), V.int 1), (Sum.inr "repeats", V.int (0 - 1))] := by decide +kernel
  unfold sgnV
  rw [e]
  by_cases k1 : kind = "skips"
  · subst k1
    rw [valV_pos rfl]
    exact ⟨1, rfl, .inl rfl, fun _ => rfl, fun h => absurd h ne_sr, fun h => absurd rfl h, fun h => absurd rfl h⟩
  · rw [valV_neg (fun h => k1 (Sum.inr.inj h).symm)]
    by_cases k2 : kind = "repeats"
    · subst k2
      rw [valV_pos rfl]
      exact ⟨-1, rfl, .inr rfl, fun h => absurd h k1, fun _ => rfl, fun _ h => absurd rfl h, fun _ h => absurd rfl h⟩
    · rw [valV_neg (fun h => k2 (Sum.inr.inj h).symm), valV_nil]
      exact ⟨d, rfl, h1, fun h => absurd h k1, fun h => absurd h k2, fun _ _ => h2, fun _ _ => h3⟩
/-! ### promises -/
def sp_law_zone (K : PySem.W.Frag) : Sp := fun vs H Q _ => ∃ (ρ : Rw) (kind : Str), vs = [.ref ρ.1, .str kind] ∧ Row K H ρ ∧ (kind = "fixed" ∨ kind = "skips" ∨ kind = "repeats" ∨ kind = "both") ∧
  ∀ zv z H', Fr ρ.1 H H' → Row K H' ρ → ZV K H' zv z → GoodZ kind z → Q zv H'
section
variable {P : Program} {w : World} {K : PySem.W.Frag} {mg : Str → Option Value} {base : Heap}
end
local macro_rules | `(tactic| walk_at "m") => `(tactic| first
  | with_reducible refine g_m1 ?_
  | with_reducible refine g_isS ?_
  | with_reducible refine g_lcStr ?_
  | with_reducible refine g_join ?_
  | with_reducible refine g_js ?_
  | with_reducible refine g_jsN ?_
  | with_reducible refine g_fmt ?_
  | with_reducible refine g_callLam ?_
  | with_reducible refine g_revT ?_)

def sp_law_spot (K : PySem.W.Frag) : Sp := fun vs H Q _ => ∃ (ρ : Rw) (zv : V) (z : Zone), vs = [.ref ρ.1, zv] ∧ Row K H ρ ∧ ZV K H zv z ∧ OkZ z ∧
  ∀ v H', -2000 ≤ v → v ≤ 2000 → Fr ρ.1 H H' → Row K H' ρ → Q (.int v) H'
def sp_law (K : PySem.W.Frag) : Sp := fun vs H Q _ => ∃ (a : Addr) (ns : List Int), vs = [.ref a] ∧ SqL K H a (ns.map V.int) ∧ ns.length ≤ 63 ∧ ∀ H', Q (.bl true) H'
theorem Row.new {K : PySem.W.Frag} {H H' : Hp} {a r : Addr} {ns : List Int} {s : Int} (h : SqL K H a (ns.map V.int)) (n : H r = none) (e : Ex H H') (q : H' r = some (.lst [.ref a, .int 0, .int s, .int 0])) (h0 : 0 ≤ s) (h1 : s < 2 ^ 40) :
    Row K H' (r, a, ns) := by
  refine ⟨0, s, 0, q, fun G f => ?_, Int.le_refl _, h0, h1⟩
  rcases h with (h | ⟨o, h⟩) | h
  · exact .inl (.inl (f a _ (ne_of_none h n) (e a _ h)))
  · exact .inl (.inr ⟨o, f a _ (ne_of_none h n) (e a _ h)⟩)
  · exact .inr h
section
variable {P : Program} {w : World} {K : PySem.W.Frag} {mg : Str → Option Value} {base : Heap}
end
/-! ### offsets near one another -/
theorem offGo_before {t : Int} : ∀ {b e : Int} {cs : List (Int × Int)}, okGo b e cs = true → t < e → offGo t b cs = b
  | _, _, [], _, _ => rfl
  | b, e, p :: r, h, q => by
    have := okGo_after h p (by simp)
    unfold offGo
    rw [if_pos (by omega)]
theorem offGo_cons (t b : Int) (p : Int × Int) (r : List (Int × Int)) : offGo t b (p :: r) = if p.1 > t then b else offGo t p.2 r := rfl
/-- at most one change in twelve hours -/
theorem off_near {t u : Int} (h1 : t ≤ u) (h2 : u ≤ t + 12) : ∀ {b e : Int} {cs : List (Int × Int)}, okGo b e cs = true →
    ∃ s, t < s ∧ (∀ x, t ≤ x → x < s → offGo x b cs = offGo t b cs) ∧ (∀ x, s ≤ x → x ≤ u → offGo x b cs = offGo u b cs) ∧
      (s ≤ u → offGo u b cs ≠ offGo t b cs ∧ offGo u b cs - offGo t b cs ≤ 3 ∧ offGo t b cs - offGo u b cs ≤ 3)
  | _, _, [], _ => ⟨u + 1, by omega, fun _ _ _ => rfl, fun x _ _ => rfl, fun h => by omega⟩
  | b, e, p :: r, h => by
    have h0 := h
    rw [okGo_cons, Bool.and_eq_true] at h
    have hc := h.1
    unfold okC at hc
    simp only [Bool.and_eq_true, decide_eq_true_eq] at hc
    by_cases c1 : u < p.1
    · refine ⟨u + 1, by omega, fun x x1 x2 => ?_, fun x x1 x2 => by omega, fun h => by omega⟩
      rw [offGo_cons, offGo_cons, if_pos (by omega), if_pos (by omega)]
    · by_cases c2 : p.1 ≤ t
      · obtain ⟨s, s1, s2, s3, s4⟩ := off_near h1 h2 h.2
        refine ⟨s, s1, fun x x1 x2 => ?_, fun x x1 x2 => ?_, fun hs => ?_⟩
        · rw [offGo_cons, offGo_cons, if_neg (by omega), if_neg (by omega)]
          exact s2 x x1 x2
        · rw [offGo_cons, offGo_cons, if_neg (by omega), if_neg (by omega)]
          exact s3 x x1 x2
        · rw [offGo_cons, offGo_cons, if_neg (by omega), if_neg (by omega)]
          exact s4 hs
      · have e1 : ∀ x, t ≤ x → x < p.1 → offGo x b (p :: r) = b := fun x x1 x2 => by rw [offGo_cons, if_pos (by omega)]
        have e2 : ∀ x, p.1 ≤ x → x ≤ u → offGo x b (p :: r) = p.2 := fun x x1 x2 => by
          rw [offGo_cons, if_neg (by omega)]
          exact offGo_before h.2 (by omega)
        refine ⟨p.1, by omega, fun x x1 x2 => ?_, fun x x1 x2 => ?_, fun hs => ?_⟩
        · rw [e1 x x1 x2, e1 t (by omega) (by omega)]
        · rw [e2 x x1 x2, e2 u (by omega) (by omega)]
        · rw [e2 u (by omega) (by omega), e1 t (by omega) (by omega)]
          omega
section
variable {z : Zone} (h : OkZ z)
include h
theorem OkZ.near {t u : Int} (h1 : t ≤ u) (h2 : u ≤ t + 12) : ∃ s, t < s ∧ (∀ x, t ≤ x → x < s → off z x = off z t) ∧ (∀ x, s ≤ x → x ≤ u → off z x = off z u) ∧
      (s ≤ u → off z u ≠ off z t ∧ off z u - off z t ≤ 3 ∧ off z t - off z u ≤ 3) := off_near h1 h2 h.go
theorem OkZ.near3 {t u : Int} (h1 : t ≤ u) (h2 : u ≤ t + 12) : off z u - off z t ≤ 3 ∧ off z t - off z u ≤ 3 := by
  obtain ⟨s, s1, s2, s3, s4⟩ := h.near h1 h2
  by_cases c : s ≤ u
  · exact (s4 c).2
  · rw [s2 u h1 (by omega)]
    omega
theorem OkZ.far {t : Int} (n : Nat) : ∀ u : Int, t ≤ u → u ≤ t + 12 * n → off z u - off z t ≤ 3 * n ∧ off z t - off z u ≤ 3 * n := by
  induction n with
  | zero =>
    intro u h1 h2
    have e : u = t := by omega
    subst e
    omega
  | succ n ih =>
    intro u h1 h2
    by_cases c : u ≤ t + 12
    · have := h.near3 h1 c
      omega
    · have := ih (u - 12) (by omega) (by omega)
      have := h.near3 (t := u - 12) (u := u) (by omega) (by omega)
      omega
/-- a reading that is not greater later comes within three hours -/
theorem OkZ.back {t u : Int} (h1 : t < u) (h2 : u + off z u ≤ t + off z t) : u ≤ t + 3 := by
  have q := h.far (t := t) ((u - t + 11) / 12).toNat u (by omega) (by omega)
  omega
theorem OkZ.two {t u v : Int} (h1 : t < u) (h2 : u < v) (e1 : u + off z u = t + off z t) (e2 : v + off z v = t + off z t) : False := by
  have b := h.back (t := t) (u := v) (by omega) (by omega)
  obtain ⟨s, s1, s2, s3, s4⟩ := h.near (t := t) (u := v) (by omega) (by omega)
  by_cases c : u < s
  · have := s2 u (by omega) c
    omega
  · have := s3 u (by omega) (by omega)
    omega
theorem OkZ.le2 (rd : Int) : (insts z rd).length ≤ 2 := by
  have m := fun k => (insts_mem h (t := rd) (k := k)).1
  have r := insts_rise z rd
  match e : insts z rd with
  | [] => simp
  | [a] => simp
  | [a, b] => simp
  | a :: b :: c :: l =>
    rw [e] at m r
    simp only [List.pairwise_cons] at r
    have h1 := r.1 b (by simp)
    have h2 := r.2.1 c (by simp)
    have e1 := m a (by simp)
    have e2 := m b (by simp)
    have e3 := m c (by simp)
    exact (h.two h1 h2 (by omega) (by omega)).elim
end
/-! ### libraries, times -/
inductive Gap where
  | keep | refuse | shift
  deriving DecidableEq
inductive Fold where
  | both | first | refuse | second
  deriving DecidableEq
structure Way where
  ws : Bool
  wo : Bool
  gap : Gap
  fold : Fold
  deriving DecidableEq
def sumS (b : Bool) : Str := if b then "wall" else "elapsed"
def gapS : Gap → Str
  | .keep => "keep"
  | .refuse => "refuse"
  | .shift => "shift"
def foldS : Fold → Str
  | .both => "both"
  | .first => "first"
  | .refuse => "refuse"
  | .second => "second"
theorem sum_wall (b : Bool) : decide (sumS b = "wall") = b := by cases b <;> decide +kernel
theorem sum_elapsed (b : Bool) : decide (sumS b = "elapsed") = !b := by cases b <;> decide +kernel
theorem gap_keep (g : Gap) : decide (gapS g = "keep") = decide (g = .keep) := by cases g <;> decide +kernel
theorem gap_refuse (g : Gap) : decide (gapS g = "refuse") = decide (g = .refuse) := by cases g <;> decide +kernel
theorem gap_shift (g : Gap) : decide (gapS g = "shift") = decide (g = .shift) := by cases g <;> decide +kernel
theorem fold_both (g : Fold) : decide (foldS g = "both") = decide (g = .both) := by cases g <;> decide +kernel
theorem fold_first (g : Fold) : decide (foldS g = "first") = decide (g = .first) := by cases g <;> decide +kernel
theorem fold_refuse (g : Fold) : decide (foldS g = "refuse") = decide (g = .refuse) := by cases g <;> decide +kernel
theorem fold_second (g : Fold) : decide (foldS g = "second") = decide (g = .second) := by cases g <;> decide +kernel
def maxB (z : Zone) (rd : Int) : Int := ((irange (rd - 16) 33).filter fun k => decide (k + off z k < rd)).getLast?.getD 0
def before (z : Zone) (rd : Int) : Int := off z (maxB z rd)
def times (w : Way) (z : Zone) (rd : Int) : List Tm :=
  if (insts z rd).length = 2 then (match w.fold with | .both => [(rd, 0), (rd, 1)] | .refuse => [] | _ => [(rd, 0)])
  else if (insts z rd).length = 1 ∨ w.gap = .keep then [(rd, 0)] else []
def inst (w : Way) (z : Zone) (t : Tm) : Int :=
  if insts z t.1 = [] then t.1 - before z t.1
  else if w.fold = .second then (insts z t.1).getLast?.getD 0 else ((insts z t.1)[t.2.toNat]?).getD 0
def at_ (w : Way) (z : Zone) (T : Int) : Option Tm :=
  if (insts z (T + off z T)).length = 2 ∧ w.fold = .refuse then none
  else some (T + off z T, if w.fold = .both ∧ T ≠ (insts z (T + off z T)).head?.getD 0 then 1 else 0)
def read_ (w : Way) (z : Zone) (rd : Int) : Option Tm :=
  if insts z rd = [] then (match w.gap with | .shift => at_ w z (rd - before z rd) | .refuse => none | .keep => some (rd, 0))
  else if w.fold = .refuse ∧ (insts z rd).length = 2 then none else some (rd, 0)
def addT (w : Way) (z : Zone) (o : Option Tm) (d : Int) : Option Tm := match o with
  | none => none
  | some t => if w.ws then read_ w z (t.1 + d) else at_ w z (inst w z t + d)
def less_ (w : Way) (z : Zone) (a b : Tm) : Int := if w.ws then a.1 - b.1 else inst w z a - inst w z b
def key (w : Way) (z : Zone) (t : Tm) : Int := if w.wo then t.1 else inst w z t
def cmp (a b : Int) : Int := if a < b then -1 else if a = b then 0 else 1
def order (w : Way) (z : Zone) (a b : Option Tm) : Option Int := match a, b with
  | some a, some b => some (cmp (key w z a) (key w z b))
  | _, _ => none
/-- a time of the library in the zone -/
def IsTm (w : Way) (z : Zone) (t : Tm) : Prop := t ∈ times w z t.1
section
variable {w : Way} {z : Zone} (h : OkZ z)
include h
theorem maxB_spec (rd : Int) : rd - 16 ≤ maxB z rd ∧ maxB z rd ≤ rd + 15 ∧ maxB z rd + off z (maxB z rd) < rd ∧ rd ≤ maxB z rd + 1 + off z (maxB z rd + 1) ∧
    (∀ k, rd - 16 ≤ k → k ≤ rd + 16 → k + off z k < rd → k ≤ maxB z rd) := by
  generalize hl : (irange (rd - 16) 33).filter (fun k => decide (k + off z k < rd)) = l
  have mem : ∀ k, k ∈ l ↔ (rd - 16 ≤ k ∧ k < rd + 17) ∧ k + off z k < rd := fun k => by
    rw [← hl, List.mem_filter, irange_mem, decide_eq_true_eq]
    constructor <;> intro q <;> exact ⟨by omega, q.2⟩
  have ris : l.Pairwise (· < ·) := by rw [← hl]; exact (irange_rise _ _).filter _
  have o1 := h.offs (rd - 16)
  have o2 := h.offs (rd + 16)
  have first : rd - 16 ∈ l := (mem _).2 ⟨by omega, by omega⟩
  cases e : l.getLast? with
  | none => rw [List.getLast?_eq_none_iff] at e; rw [e] at first; cases first
  | some m =>
    have hm : maxB z rd = m := by unfold maxB; rw [hl, e] <;> rfl
    obtain ⟨ys, ey⟩ := List.getLast?_eq_some_iff.mp e
    have up : ∀ k ∈ l, k ≤ m := fun k hk => by
      rw [ey] at hk ris
      rw [List.pairwise_append] at ris
      rcases List.mem_append.mp hk with q | q
      · have := ris.2.2 k q m (by simp)
        omega
      · have := List.mem_singleton.mp q
        omega
    have mm := (mem m).1 (by rw [ey]; simp)
    rw [hm]
    refine ⟨by omega, ?_, mm.2, ?_, fun k k1 k2 k3 => up k ((mem k).2 ⟨by omega, k3⟩)⟩
    · by_cases c : m = rd + 16
      · rw [c] at mm
        omega
      · omega
    · by_cases c : m + 1 + off z (m + 1) < rd
      · by_cases c2 : m + 1 ≤ rd + 16
        · have := up (m + 1) ((mem (m + 1)).2 ⟨by omega, c⟩)
          omega
        · have e : m = rd + 16 := by omega
          rw [e] at mm
          omega
      · omega
/-- in a gap: the change that skips the reading -/
structure InGap (z : Zone) (rd s a b : Int) : Prop where
  lt : b < a
  le : a ≤ b + 3
  bef : ∀ x, s - 12 ≤ x → x < s → off z x = b
  aft : ∀ x, s ≤ x → x ≤ s + 11 → off z x = a
  lo : s + b ≤ rd
  hi : rd < s + a
  bf : before z rd = b
theorem OkZ.gap {rd : Int} (e : insts z rd = []) : ∃ s a b, InGap z rd s a b := by
  obtain ⟨m1, m2, m3, m4, m5⟩ := maxB_spec h rd
  generalize hm : maxB z rd = m at *
  have no : ∀ k, k + off z k ≠ rd := fun k q => by
    have := (insts_mem h (t := rd) (k := k)).2 q
    rw [e] at this
    cases this
  have n1 := no (m + 1)
  have q := h.near3 (t := m) (u := m + 1) (by omega) (by omega)
  refine ⟨m + 1, off z (m + 1), off z m, by omega, by omega, ?_, ?_, by omega, by omega, by unfold before; rw [hm]⟩
  · intro x x1 x2
    obtain ⟨s, s1, s2, s3, s4⟩ := h.near (t := x) (u := m + 1) (by omega) (by omega)
    by_cases c : m < s
    · rw [s2 m (by omega) c]
    · have := s3 m (by omega) (by omega)
      omega
  · intro x x1 x2
    obtain ⟨s, s1, s2, s3, s4⟩ := h.near (t := m) (u := x) (by omega) (by omega)
    by_cases c : m + 1 < s
    · have := s2 (m + 1) (by omega) c
      omega
    · rw [s3 (m + 1) (by omega) (by omega)]
theorem insts_self (T : Int) : T ∈ insts z (T + off z T) := (insts_mem h).2 rfl
theorem insts_one {rd T : Int} (e : insts z rd = [T]) : T + off z T = rd := (insts_mem h).1 (by rw [e]; simp)
theorem at_valid {T : Int} {t : Tm} (e : at_ w z T = some t) : IsTm w z t ∧ t.1 = T + off z T := by
  unfold at_ at e
  have s := insts_self h T
  have l2 := h.le2 (T + off z T)
  split at e
  · cases e
  next c =>
    cases e
    refine ⟨?_, rfl⟩
    unfold IsTm times
    match q : insts z (T + off z T) with
    | [] => rw [q] at s; cases s
    | [a] =>
      rw [q] at s
      have : T = a := by simpa using s
      subst this
      simp
    | [a, b] =>
      simp only [List.length_cons, List.length_nil, if_true]
      rw [q] at c
      cases hf : w.fold with
      | both =>
        simp only [List.head?_cons, Option.getD_some]
        split <;> simp
      | first => simp
      | refuse => exact (c ⟨rfl, hf⟩).elim
      | second => simp
    | a :: b :: c :: l => rw [q] at l2; simp at l2
theorem read_valid {rd : Int} {t : Tm} (e : read_ w z rd = some t) : IsTm w z t := by
  unfold read_ at e
  have l2 := h.le2 rd
  split at e
  next c =>
    cases hg : w.gap with
    | shift =>
      rw [hg] at e
      exact (at_valid h e).1
    | refuse => rw [hg] at e; cases e
    | keep =>
      rw [hg] at e
      cases e
      unfold IsTm times
      show (rd, 0) ∈ _
      rw [c, hg]
      simp
  next c =>
    split at e
    · cases e
    next c2 =>
      cases e
      unfold IsTm times
      show (rd, 0) ∈ (if (insts z rd).length = 2 then _ else _)
      match q : insts z rd with
      | [] => exact (c q).elim
      | [a] => simp
      | [a, b] =>
        rw [q] at c2
        simp only [List.length_cons, List.length_nil, if_true]
        cases hf : w.fold with
        | both => simp
        | first => simp
        | refuse => exact (c2 ⟨hf, rfl⟩).elim
        | second => simp
      | a :: b :: c :: l => rw [q] at l2; simp at l2
theorem add_valid {o : Option Tm} {d : Int} {t : Tm} (e : addT w z o d = some t) : IsTm w z t := by
  cases o with
  | none => cases e
  | some u =>
    unfold addT at e
    simp only at e
    split at e
    · exact read_valid h e
    · exact (at_valid h e).1
end
/-- the passes of a time -/
theorem IsTm.pass {w : Way} {z : Zone} {t : Tm} (q : IsTm w z t) : t.2 = 0 ∨ (t.2 = 1 ∧ w.fold = .both ∧ (insts z t.1).length = 2) := by
  unfold IsTm times at q
  obtain ⟨r, p⟩ := t
  simp only at q ⊢
  split at q
  next c =>
    cases hf : w.fold <;> rw [hf] at q <;> simp at q
    · rcases q with q | q
      · exact .inl q
      · exact .inr ⟨q, rfl, c⟩
    · exact .inl q
    · exact .inl q
  · split at q
    · simp at q
      exact .inl q
    · cases q
theorem inst_near {w : Way} {z : Zone} (h : OkZ z) {t : Tm} (q : IsTm w z t) : t.1 - 20 ≤ inst w z t ∧ inst w z t ≤ t.1 + 20 := by
  unfold inst
  split
  next c =>
    unfold before
    have := h.offs (maxB z t.1)
    omega
  next c =>
    have near : ∀ k ∈ insts z t.1, t.1 - 20 ≤ k ∧ k ≤ t.1 + 20 := fun k hk => by
      have := (insts_mem h).1 hk
      have := h.offs k
      omega
    split
    next c2 =>
      cases e : (insts z t.1).getLast? with
      | none => rw [List.getLast?_eq_none_iff] at e; exact (c e).elim
      | some m => exact near m (List.mem_of_getLast? e)
    next c2 =>
      have lt : t.2.toNat < (insts z t.1).length := by
        have c3 : 0 < (insts z t.1).length := List.length_pos_iff.mpr c
        rcases q.pass with p | p
        · rw [p]; exact c3
        · rw [p.1, p.2.2]; decide
      rw [List.getElem?_eq_getElem lt]
      exact near _ (List.getElem_mem lt)
/-- round a change -/
theorem OkZ.chart {z : Zone} (h : OkZ z) {s : Int} (ne : off z s ≠ off z (s - 1)) :
    (∀ x, s - 12 ≤ x → x < s → off z x = off z (s - 1)) ∧ (∀ x, s ≤ x → x ≤ s + 11 → off z x = off z s) ∧ off z s - off z (s - 1) ≤ 3 ∧ off z (s - 1) - off z s ≤ 3 := by
  refine ⟨fun x x1 x2 => ?_, fun x x1 x2 => ?_, ?_⟩
  · obtain ⟨r, r1, r2, r3, r4⟩ := h.near (t := x) (u := s) (by omega) (by omega)
    by_cases c : s - 1 < r
    · rw [r2 (s - 1) (by omega) c]
    · have := r3 (s - 1) (by omega) (by omega)
      omega
  · obtain ⟨r, r1, r2, r3, r4⟩ := h.near (t := s - 1) (u := x) (by omega) (by omega)
    by_cases c : s < r
    · have := r2 s (by omega) c
      omega
    · rw [r3 s (by omega) (by omega)]
  · have := h.near3 (t := s - 1) (u := s) (by omega) (by omega)
    omega
/-- the one instant of a reading -/
theorem OkZ.one {z : Zone} (h : OkZ z) {rd T : Int} (e : T + off z T = rd) (no : ∀ x, T - 3 ≤ x → x ≤ T + 3 → x ≠ T → x + off z x ≠ rd) : insts z rd = [T] := by
  refine rise_ext (insts_rise z rd) (by simp) fun k => ?_
  rw [insts_mem h, List.mem_singleton]
  constructor
  · intro q
    by_cases c : k = T
    · exact c
    · rcases Int.lt_or_gt_of_ne c with c1 | c1
      · have := h.back (t := k) (u := T) c1 (by omega)
        exact (no k (by omega) (by omega) c q).elim
      · have := h.back (t := T) (u := k) c1 (by omega)
        exact (no k (by omega) (by omega) c q).elim
  · intro q
    rw [q]
    exact e
/-- below a gap or a fold of a change -/
theorem OkZ.below {z : Zone} (h : OkZ z) {s : Int} (ne : off z s ≠ off z (s - 1)) : ∃ T, insts z (s - 1 + (if off z s < off z (s - 1) then off z s else off z (s - 1))) = [T] := by
  obtain ⟨c1, c2, c3, c4⟩ := h.chart ne
  split
  next c =>
    refine ⟨s - 1 + off z s - off z (s - 1), h.one ?_ fun x x1 x2 x3 x4 => ?_⟩
    · have := c1 (s - 1 + off z s - off z (s - 1)) (by omega) (by omega)
      omega
    · by_cases d : x < s
      · have := c1 x (by omega) d
        omega
      · have := c2 x (by omega) (by omega)
        omega
  next c =>
    refine ⟨s - 1, h.one rfl fun x x1 x2 x3 x4 => ?_⟩
    by_cases d : x < s
    · have := c1 x (by omega) d
      omega
    · have := c2 x (by omega) (by omega)
      omega
theorem OkZ.pair {z : Zone} (h : OkZ z) {rd a b : Int} (e : insts z rd = [a, b]) : a < b ∧ a + off z a = rd ∧ b + off z b = rd ∧ b ≤ a + 3 := by
  have r := insts_rise z rd
  have m := fun k => insts_mem h (t := rd) (k := k)
  rw [e] at r m
  simp only [List.pairwise_cons] at r
  have h1 := r.1 b (by simp)
  have e1 := (m a).1 (by simp)
  have e2 := (m b).1 (by simp)
  exact ⟨h1, e1, e2, h.back h1 (by omega)⟩
/-- of two instants with one reading one change lies between -/
theorem OkZ.fold {z : Zone} (h : OkZ z) {rd a b : Int} (e : insts z rd = [a, b]) : ∃ s, a < s ∧ s ≤ b ∧ off z s < off z (s - 1) ∧ off z a = off z (s - 1) ∧ off z b = off z s := by
  obtain ⟨p1, p2, p3, p4⟩ := h.pair e
  obtain ⟨s, s1, s2, s3, s4⟩ := h.near (t := a) (u := b) (by omega) (by omega)
  have c : s ≤ b := by
    by_cases c : s ≤ b
    · exact c
    · have := s2 b (by omega) (by omega)
      omega
  have f1 := s2 (s - 1) (by omega) (by omega)
  have f2 := s3 s (by omega) c
  exact ⟨s, s1, c, by omega, f1.symm, f2.symm⟩
theorem times_one {w : Way} {z : Zone} {rd T : Int} (e : insts z rd = [T]) : times w z rd = [(rd, 0)] := by
  unfold times
  rw [e]
  simp
theorem times_some {w : Way} {z : Zone} (h : OkZ z) (rd : Int) : ∃ i : Nat, i ≤ 8 ∧ times w z (rd - i) ≠ [] := by
  have fin : ∀ s, off z s ≠ off z (s - 1) → 0 ≤ rd - (s - 1 + (if off z s < off z (s - 1) then off z s else off z (s - 1))) → rd - (s - 1 + (if off z s < off z (s - 1) then off z s else off z (s - 1))) ≤ 8 → ∃ i : Nat, i ≤ 8 ∧ times w z (rd - i) ≠ [] := by
    intro s ne b1 b2
    obtain ⟨T, e⟩ := h.below ne
    refine ⟨(rd - (s - 1 + (if off z s < off z (s - 1) then off z s else off z (s - 1)))).toNat, by omega, ?_⟩
    rw [show rd - ((rd - (s - 1 + (if off z s < off z (s - 1) then off z s else off z (s - 1)))).toNat : Int) = s - 1 + (if off z s < off z (s - 1) then off z s else off z (s - 1)) by omega, times_one e]
    exact List.cons_ne_nil _ _
  have l2 := h.le2 rd
  match e : insts z rd with
  | [] =>
    obtain ⟨s, a, b, G⟩ := h.gap e
    have f1 := G.bef (s - 1) (by omega) (by omega)
    have f2 := G.aft s (by omega) (by omega)
    have := G.lt
    have := G.le
    have := G.lo
    have := G.hi
    refine fin s (by omega) ?_ ?_ <;> rw [if_neg (by omega)] <;> omega
  | [a] => exact ⟨0, by omega, by rw [show rd - ((0 : Nat) : Int) = rd by omega, times_one e]; exact List.cons_ne_nil _ _⟩
  | [a, b] =>
    obtain ⟨p1, p2, p3, p4⟩ := h.pair e
    obtain ⟨s, s1, s2, s3, s4, s5⟩ := h.fold e
    obtain ⟨c1, c2, c3, c4⟩ := h.chart (s := s) (by omega)
    refine fin s (by omega) ?_ ?_ <;> rw [if_pos s3] <;> omega
  | a :: b :: c :: l => rw [e] at l2; simp at l2
theorem times_rd {w : Way} {z : Zone} {rd : Int} {t : Tm} (h : t ∈ times w z rd) : t.1 = rd := by
  unfold times at h
  split at h
  · cases hf : w.fold <;> rw [hf] at h <;> simp at h
    · rcases h with h | h <;> rw [h]
    · rw [h]
    · rw [h]
  · split at h
    · simp at h
      rw [h]
    · cases h
local macro_rules | `(tactic| walk_at "m") => `(tactic| first
  | with_reducible refine g_m1 ?_
  | with_reducible refine g_isS ?_
  | with_reducible refine g_lcStr ?_
  | with_reducible refine g_join ?_
  | with_reducible refine g_js ?_
  | with_reducible refine g_jsN ?_
  | with_reducible refine g_fmt ?_
  | with_reducible refine g_callLam ?_
  | with_reducible refine g_revT ?_)

def WayV (K : PySem.W.Frag) (H : Hp) (v : V) (w : Way) : Prop := ∃ a, v = .ref a ∧ SqT K H a [.str (sumS w.ws), .str (sumS w.wo), .str (gapS w.gap), .str (foldS w.fold)]
theorem WayV.tr {K : PySem.W.Frag} {H H' : Hp} {v : V} {w : Way} (e : TrT K H H') (h : WayV K H v w) : WayV K H' v w := by
  obtain ⟨a, q, h⟩ := h
  exact ⟨a, q, e _ _ h⟩
/-- an int far from the machine's edges -/
def Sm (x : Int) : Prop := -100000000 ≤ x ∧ x ≤ 100000000
def Sn (x : Int) : Prop := -90000000 ≤ x ∧ x ≤ 90000000
theorem insts_last {z : Zone} {t : Int} (c : insts z t ≠ []) : (insts z t).getLast? = some ((insts z t).getLast?.getD 0) := by
  cases e : (insts z t).getLast? with
  | none => rw [List.getLast?_eq_none_iff] at e; exact (c e).elim
  | some m => rfl
theorem merge2 {k1 k2 : Key} {a b : V} (h : k1 ≠ k2) : mergeK [] [(k1, a), (k2, b)] = [(k1, a), (k2, b)] := by
  unfold mergeK
  simp [putK, h, h.symm]
theorem val2 {x y k : Str} {a b : V} : valV [((Sum.inr x : Key), a), (Sum.inr y, b)] (Sum.inr k : Key) = if x = k then some a else if y = k then some b else none := by
  by_cases h1 : x = k
  · rw [if_pos h1, valV_pos (by rw [h1])]
  · rw [if_neg h1, valV_neg (fun h => h1 (Sum.inr.inj h))]
    by_cases h2 : y = k
    · rw [if_pos h2, valV_pos (by rw [h2])]
    · rw [if_neg h2, valV_neg (fun h => h2 (Sum.inr.inj h)), valV_nil]
theorem val_fold {f : Fold} {a b : V} : valV [((Sum.inr ("both" : Str) : Key), a), (Sum.inr ("refuse" : Str), b)] (Sum.inr (foldS f) : Key) = (match f with | .both => some a | .refuse => some b | _ => none) := by
  rw [val2]
  cases f
  · exact if_pos rfl
  · exact (if_neg (by decide +kernel)).trans (if_neg (by decide +kernel))
  · exact (if_neg (by decide +kernel)).trans (if_pos rfl)
  · exact (if_neg (by decide +kernel)).trans (if_neg (by decide +kernel))
/-! ### promises -/
def sp_law_library (K : PySem.W.Frag) : Sp := fun vs H Q _ => ∃ ρ : Rw, vs = [.ref ρ.1] ∧ Row K H ρ ∧ ∀ v w H', Fr ρ.1 H H' → Row K H' ρ → WayV K H' v w → Q v H'
def sp_law_before (K : PySem.W.Frag) : Sp := fun vs H Q _ => ∃ (zv : V) (z : Zone) (t : Int), vs = [zv, .int t] ∧ ZV K H zv z ∧ OkZ z ∧ Sm t ∧ ∀ H', Ex H H' → Q (.int (before z t)) H'
def sp_law_times (K : PySem.W.Frag) : Sp := fun vs H Q _ => ∃ (wv zv : V) (w : Way) (z : Zone) (t : Int), vs = [wv, zv, .int t] ∧ WayV K H wv w ∧ ZV K H zv z ∧ OkZ z ∧ Sm t ∧
  ∀ p xs H', H p = none → Ex H H' → H' p = some (.lst xs) → PVs K H' xs (times w z t) → Q (.ref p) H'
def sp_law_instant (K : PySem.W.Frag) : Sp := fun vs H Q _ => ∃ (wv zv tv : V) (w : Way) (z : Zone) (t : Tm), vs = [wv, zv, tv] ∧ WayV K H wv w ∧ ZV K H zv z ∧ OkZ z ∧ PV K H tv t ∧ IsTm w z t ∧ Sm t.1 ∧ ∀ H', Ex H H' → Q (.int (inst w z t)) H'
def sp_law_at (K : PySem.W.Frag) : Sp := fun vs H Q _ => ∃ (wv zv : V) (w : Way) (z : Zone) (t : Int), vs = [wv, zv, .int t] ∧ WayV K H wv w ∧ ZV K H zv z ∧ OkZ z ∧ Sm t ∧ ∀ v H', Ex H H' → TV K H' v (at_ w z t) → Q v H'
def sp_law_read (K : PySem.W.Frag) : Sp := fun vs H Q _ => ∃ (wv zv : V) (w : Way) (z : Zone) (t : Int), vs = [wv, zv, .int t] ∧ WayV K H wv w ∧ ZV K H zv z ∧ OkZ z ∧ Sn t ∧ ∀ v H', Ex H H' → TV K H' v (read_ w z t) → Q v H'
def OkT (w : Way) (z : Zone) (o : Option Tm) : Prop := ∀ t, o = some t → IsTm w z t ∧ Sm t.1
def sp_law_add (K : PySem.W.Frag) : Sp := fun vs H Q _ => ∃ (wv zv tv : V) (w : Way) (z : Zone) (o : Option Tm) (d : Int), vs = [wv, zv, tv, .int d] ∧ WayV K H wv w ∧ ZV K H zv z ∧ OkZ z ∧ TV K H tv o ∧ OkT w z o ∧ (∀ t, o = some t → Sn (t.1 + d + 20) ∧ Sn (t.1 + d - 20)) ∧
  ∀ v H', Ex H H' → TV K H' v (addT w z o d) → Q v H'
def sp_law_less (K : PySem.W.Frag) : Sp := fun vs H Q _ => ∃ (wv zv av bv : V) (w : Way) (z : Zone) (a b : Tm), vs = [wv, zv, av, bv] ∧ WayV K H wv w ∧ ZV K H zv z ∧ OkZ z ∧ PV K H av a ∧ PV K H bv b ∧ IsTm w z a ∧ Sm a.1 ∧ IsTm w z b ∧ Sm b.1 ∧
  ∀ H', Ex H H' → Q (.int (less_ w z a b)) H'
def ordV : Option Int → V
  | none => .non
  | some i => .int i
def sp_law_order (K : PySem.W.Frag) : Sp := fun vs H Q _ => ∃ (wv zv av bv : V) (w : Way) (z : Zone) (a b : Option Tm), vs = [wv, zv, av, bv] ∧ WayV K H wv w ∧ ZV K H zv z ∧ OkZ z ∧ TV K H av a ∧ TV K H bv b ∧ OkT w z a ∧ OkT w z b ∧
  ∀ H', Ex H H' → Q (ordV (order w z a b)) H'
def sp_law_hours (K : PySem.W.Frag) : Sp := fun vs H Q _ => ∃ ρ : Rw, vs = [.ref ρ.1] ∧ Row K H ρ ∧ ∀ d H', -400 ≤ d → d ≤ 400 → Fr ρ.1 H H' → Row K H' ρ → Q (.int d) H'
def sp_law_time (K : PySem.W.Frag) : Sp := fun vs H Q _ => ∃ (ρ : Rw) (wv zv : V) (w : Way) (z : Zone), vs = [.ref ρ.1, wv, zv] ∧ Row K H ρ ∧ WayV K H wv w ∧ ZV K H zv z ∧ OkZ z ∧
  ∀ v t H', Fr ρ.1 H H' → Row K H' ρ → PV K H' v t → IsTm w z t → -3000 ≤ t.1 → t.1 ≤ 3000 → Q v H'
section
variable {P : Program} {w : World} {K : PySem.W.Frag} {mg : Str → Option Value} {base : Heap}
end
local macro_rules | `(tactic| walk_at "m") => `(tactic| first
  | with_reducible refine g_m1 ?_
  | with_reducible refine g_isS ?_
  | with_reducible refine g_lcStr ?_
  | with_reducible refine g_join ?_
  | with_reducible refine g_js ?_
  | with_reducible refine g_jsN ?_
  | with_reducible refine g_fmt ?_
  | with_reducible refine g_callLam ?_
  | with_reducible refine g_revT ?_)

theorem g_slT {K : PySem.W.Frag} {a : Addr} {xs ys : List V} {k : Nat} {H : Hp} {Q : VK} (q : SqT K H a xs) (k1 : 0 < k) (k2 : k ≤ xs.length) (e : xs.drop k = ys) (h : ∀ p H', H p = none → Ex H H' → H' p = some (.tup ys) → Q (.ref p) H') :
    rSlT K (.ref a) (some (k : Int)) none H Q := by
  have e1 : HT.sIx xs.length 0 (some (k : Int)) = k := by
    rw [HT.sIx_nat]
    omega
  refine ⟨a, xs, rfl, q, ?_, fun p hp => ?_⟩
  · rw [e1]
    omega
  · have c : cutV xs (some (k : Int)) none = ys := by
      unfold cutV
      rw [e1, HT.sIx_none, ← e, List.take_of_length_le (by rw [List.length_drop]; omega)]
    rw [c]
    exact h p _ hp (Evl.Ex.new hp) upd_same
theorem g_slice {r : V → Option Int → Option Int → Hp → VK → Prop} {te : TE} {k : Int} {σ : St} {H : Hp} {Q : VK} (h : te σ H fun x H1 => r x (some k) none H1 Q) : tSl r te (tPart (tC (.int k))) tNoPart σ H Q := by
  have m : (fun x H1 => r x (some k) none H1 Q) = fun x H1 => tPart (tC (.int k)) σ H1 fun l H2 => tNoPart σ H2 fun u H3 => r x l u H3 Q := by
    funext x H1
    refine propext ⟨fun q => ⟨k, rfl, q⟩, fun q => ?_⟩
    obtain ⟨i, e, q⟩ := q
    cases e
    exact q
  rw [m] at h
  exact h
theorem g_ixD {K : PySem.W.Frag} {w : World} {a : Addr} {x : Str} {v : V} {H : Hp} {Q : VK} (d : KDct K w a x v) (h : Q v H) : rIxD K w (.ref a) (.str x) H Q := ⟨a, x, v, rfl, rfl, d, h⟩
/-! ### promises -/
def sp_is_library (K : PySem.W.Frag) : Sp := fun vs H Q _ => ∃ (wv : V) (w : Way), vs = [wv] ∧ WayV K H wv w ∧ Q (.bl true) H
def sp_check_library (K : PySem.W.Frag) : Sp := fun vs H Q _ => ∃ (wv : V) (w : Way), vs = [wv] ∧ WayV K H wv w ∧ Q .non H
def sp_passes_at (K : PySem.W.Frag) : Sp := fun vs H Q _ => ∃ (wv zv : V) (w : Way) (z : Zone) (t : Int), vs = [wv, zv, .int t] ∧ WayV K H wv w ∧ ZV K H zv z ∧ OkZ z ∧ (insts z t).length ≤ 2 ∧
  ∀ p H', Ex H H' → SqT K H' p ((times w z t).map fun x => .int x.2) → Q (.ref p) H'
section
variable {P : Program} {w : World} {K : PySem.W.Frag} {mg : Str → Option Value} {base : Heap}
theorem ok_is_library (T : Txt w K mg) : FnOk P w K mg base CX0 2 T.f_is_library.f T.f_is_library.fd ["value"] (sp_is_library K) := by
  refine T.f_is_library.F.ok sc_is_library (fun vs H Q E h => ?_) (fun cdv A outer s H vs Q E hr h => ?_)
  · obtain ⟨wv, w, rfl, _⟩ := h
    rfl
  obtain ⟨wv, w, rfl, ⟨a, rfl, hw⟩, k⟩ := h
  refine ⟨(tSeq (tIfS (tNot (tB (tCall (sp_is_tuple_of K) [] E0 (tCons (tC (.int 4)) (tCons (tVar 0) tNil))))) (tRet (tC (.bl false))) tNext) (tSeq (tAsg (tVar 0) (gTup K 4 (gCons (gName 1) (gCons (gName 2) (gCons (gName 3) (gCons (gName 4) gNil)))))) (tRet (tAndV (tOp (rIn K false) (tVar 1) (tC (.ref T.a_SUMS))) (tAndV (tOp (rIn K false) (tVar 2) (tC (.ref T.a_ORDERS))) (tAndV (tOp (rIn K false) (tVar 3) (tC (.ref T.a_GAPS))) (tOp (rIn K false) (tVar 4) (tC (.ref T.a_FOLDS))))))))),
    PSs.nox (pss_cons (ps_if (pt_not (pt_val (pe_call (ok_is_tuple_of T) (hr.mono (by decide)) (by rfl) T.f_is_tuple_of.g T.f_is_tuple_of.F.kp T.f_is_tuple_of.b .nil pass0 (pa_cons pe_int (pa_cons (pv 0) pa_nil))))) (pss_one (ps_ret pe_bl)) pss_nil) (pss_cons (ps_asg (pv 0) (pg_tup rfl (pgs_cons (pg_name (i := 1) sc_is_library.nd rfl (Or.inl rfl)) (pgs_cons (pg_name (i := 2) sc_is_library.nd rfl (Or.inl rfl)) (pgs_cons (pg_name (i := 3) sc_is_library.nd rfl (Or.inl rfl)) (pgs_cons (pg_name (i := 4) sc_is_library.nd rfl (Or.inl rfl)) pgs_nil)))))) (pss_one (ps_ret (pe_and (pe_cmpR op_in_seq (pv 1) (pe_glob (by rfl) T.c_SUMS rfl) (by rfl)) (pe_and (pe_cmpR op_in_seq (pv 2) (pe_glob (by rfl) T.c_ORDERS rfl) (by rfl)) (pe_and (pe_cmpR op_in_seq (pv 3) (pe_glob (by rfl) T.c_GAPS rfl) (by rfl)) (pe_one (pe_cmpR op_in_seq (pv 4) (pe_glob (by rfl) T.c_FOLDS rfl) (by rfl)))))))))), ?_⟩
  walk_at "gg"
  refine ⟨_, _, _, rfl, hw, ?_⟩
  walk_at "gg"
  refine g_inTu (T.q_SUMS _) rfl rfl ?_
  walk_at "gg"
  refine if_t (by cases w.ws <;> decide +kernel) ?_
  walk_at "gg"
  refine g_inTu (T.q_ORDERS _) rfl rfl ?_
  walk_at "gg"
  refine if_t (by cases w.wo <;> decide +kernel) ?_
  walk_at "gg"
  refine g_inTu (T.q_GAPS _) rfl rfl ?_
  walk_at "gg"
  refine if_t (by cases w.gap <;> decide +kernel) ?_
  walk_at "gg"
  refine g_inTu (T.q_FOLDS _) rfl rfl ?_
  rw [show inV (.str (foldS w.fold)) [.str "both", .str "first", .str "refuse", .str "second"] = true by cases w.fold <;> decide +kernel]
  exact k
theorem ok_check_library (T : Txt w K mg) : FnOk P w K mg base CX0 3 T.f_check_library.f T.f_check_library.fd ["value"] (sp_check_library K) := by
  refine T.f_check_library.F.ok sc_check_library (fun vs H Q E h => ?_) (fun cdv A outer s H vs Q E hr h => ?_)
  · obtain ⟨wv, w, rfl, _⟩ := h
    rfl
  obtain ⟨wv, w, rfl, hw, k⟩ := h
  refine ⟨(tIfS (tNot (tB (tCall (sp_is_library K) [] E0 (tCons (tVar 0) tNil)))) tNever tNext),
    PSs.nox (pss_one (ps_if (pt_not (pt_val (pe_call (ok_is_library T) (hr.mono (by decide)) (by rfl) T.f_is_library.g T.f_is_library.F.kp T.f_is_library.b .nil pass0 (pa_cons (pv 0) pa_nil)))) (pss_one ps_never) pss_nil)), ?_⟩
  walk_at "gg"
  refine ⟨_, w, rfl, hw, ?_⟩
  walk_at "gg"
  exact k
theorem ok_passes_at (T : Txt w K mg) : FnOk P w K mg base CX0 3 T.f_passes_at.f T.f_passes_at.fd ["library", "zone", "reading"] (sp_passes_at K) := by
  refine T.f_passes_at.F.ok sc_passes_at (fun vs H Q E h => ?_) (fun cdv A outer s H vs Q E hr h => ?_)
  · obtain ⟨wv, zv, y, z, t, rfl, _⟩ := h
    rfl
  obtain ⟨wv, zv, y, z, t, rfl, ⟨a, rfl, hw⟩, hv, hz, l2, k⟩ := h
  refine ⟨(tSeq (tAsg (tSl (rSlT K) (tVar 0) (tPart (tC (.int 2))) tNoPart) (gTup K 2 (gCons (gName 3) (gCons (gName 4) gNil)))) (tSeq (tAsg (tCB (Evl.rLenS K) (tCons (tCall (sp_instants_with K) [] E0 (tCons (tVar 1) (tCons (tVar 2) tNil))) tNil)) (gName 5)) (tSeq (tIfS (tTest (tOp rEq (tVar 5) (tC (.int 0)))) (tRet (tOp (rIxD K w) (tC (.ref T.a_PASSES_IN_GAP)) (tVar 3))) tNext) (tSeq (tIfS (tTest (tOp rEq (tVar 5) (tC (.int 2)))) (tRet (tOp (rIxD K w) (tC (.ref T.a_PASSES_IN_FOLD)) (tVar 4))) tNext) (tRet (tTup (tCons (tC (.int 0)) tNil))))))),
    PSs.nox (pss_cons (ps_asg (pe_slice sl_tup (pv 0) (po_some pe_int) po_none) (pg_tup rfl (pgs_cons (pg_name (i := 3) sc_passes_at.nd rfl (Or.inl rfl)) (pgs_cons (pg_name (i := 4) sc_passes_at.nd rfl (Or.inl rfl)) pgs_nil)))) (pss_cons (ps_set (i := 5) sc_passes_at.nd rfl (Or.inl rfl) (pe_callB call_len_seq (by rfl) T.z_len (by decide +kernel) (pa_cons (pe_call (ok_instants_with T) (hr.mono (by decide)) (by rfl) T.f_instants_with.g T.f_instants_with.F.kp T.f_instants_with.b .nil pass0 (pa_cons (pv 1) (pa_cons (pv 2) pa_nil))) pa_nil))) (pss_cons (ps_if (pt_cmpR op_eq (pv 5) pe_int (nomark _)) (pss_one (ps_ret (pe_ix ix_kdict (pe_glob (by rfl) T.c_PASSES_IN_GAP rfl) (pv 3) (fun _ _ => rfl)))) pss_nil) (pss_cons (ps_if (pt_cmpR op_eq (pv 5) pe_int (nomark _)) (pss_one (ps_ret (pe_ix ix_kdict (pe_glob (by rfl) T.c_PASSES_IN_FOLD rfl) (pv 4) (fun _ _ => rfl)))) pss_nil) (pss_one (ps_ret (pe_tup (pa_cons pe_int pa_nil)))))))), ?_⟩
  walk_at "gg"
  refine g_slice ?_
  walk_at "gg"
  refine g_slT (k := 2) (ys := [.str (gapS y.gap), .str (foldS y.fold)]) hw (by decide) (by simp) rfl fun p1 H1 n1 e1 h1 => ?_
  walk_at "gg"
  refine ⟨_, z, _, rfl, hv.tr (TrT.of e1), hz.len, fun p2 H2 ns n2 e2 h2 r2 m2 => ?_⟩
  have en : ns = insts z t := rise_ext r2 (insts_rise z t) fun k => by rw [m2, insts_mem hz]
  subst en
  walk_at "gg"
  refine g_lenT h2.sq ?_
  rw [List.length_map]
  walk_at "gg"
  have e12 := e1.trans e2
  unfold times at k
  refine if_d (fun c => ?_) (fun c => ?_)
  · walk_at "gg"
    rw [if_neg (by omega), show (insts z t).length = 0 by omega] at k
    cases hg : y.gap with
    | keep =>
      rw [hg] at k
      refine g_ixD T.k_PASSES_IN_GAP_0 ?_
      exact k _ _ e12 (T.q_PASSES_IN_GAP_0 _)
    | refuse =>
      rw [hg] at k
      refine g_ixD T.k_PASSES_IN_GAP_1 ?_
      exact k _ _ e12 (T.q_PASSES_IN_GAP_1 _)
    | shift =>
      rw [hg] at k
      refine g_ixD T.k_PASSES_IN_GAP_2 ?_
      exact k _ _ e12 (T.q_PASSES_IN_GAP_2 _)
  walk_at "gg"
  refine if_d (fun c2 => ?_) (fun c2 => ?_)
  · walk_at "gg"
    rw [if_pos (by omega)] at k
    cases hf : y.fold with
    | both =>
      rw [hf] at k
      refine g_ixD T.k_PASSES_IN_FOLD_0 ?_
      exact k _ _ e12 (T.q_PASSES_IN_FOLD_0 _)
    | first =>
      rw [hf] at k
      refine g_ixD T.k_PASSES_IN_FOLD_1 ?_
      exact k _ _ e12 (T.q_PASSES_IN_FOLD_1 _)
    | refuse =>
      rw [hf] at k
      refine g_ixD T.k_PASSES_IN_FOLD_2 ?_
      exact k _ _ e12 (T.q_PASSES_IN_FOLD_2 _)
    | second =>
      rw [hf] at k
      refine g_ixD T.k_PASSES_IN_FOLD_3 ?_
      exact k _ _ e12 (T.q_PASSES_IN_FOLD_3 _)
  · walk_at "gg"
    rw [if_neg (by omega), if_pos (.inl (by omega))] at k
    refine g_newT (by simp) fun p3 H3 n3 e3 h3 => ?_
    exact k _ _ (e12.trans e3) (SqT.of h3)
end
/-! ### times and their instants -/
section
variable {w : Way} {z : Zone} (h : OkZ z)
include h
/-- a reading that does not grow: one falling change between -/
theorem OkZ.cross {T U : Int} (lt : U < T) (le : T + off z T ≤ U + off z U) :
    ∃ s, U < s ∧ s ≤ T ∧ T ≤ U + 3 ∧ off z T < off z U ∧ off z U ≤ off z T + 3 ∧ (∀ x, s - 12 ≤ x → x < s → off z x = off z U) ∧ (∀ x, s ≤ x → x ≤ s + 11 → off z x = off z T) := by
  have b := h.back lt le
  obtain ⟨s, s1, s2, s3, s4⟩ := h.near (t := U) (u := T) (by omega) (by omega)
  have c : s ≤ T := by
    by_cases c : s ≤ T
    · exact c
    · have := s2 T (by omega) (by omega)
      omega
  have f1 := s2 (s - 1) (by omega) (by omega)
  have f2 := s3 s (by omega) c
  have d := s4 c
  obtain ⟨c1, c2, c3, c4⟩ := h.chart (s := s) (by omega)
  exact ⟨s, s1, c, b, by omega, by omega, fun x x1 x2 => by rw [c1 x x1 x2, f1], fun x x1 x2 => by rw [c2 x x1 x2, f2]⟩
theorem tm_cases {t : Tm} (q : IsTm w z t) :
    (∃ T, insts z t.1 = [T] ∧ inst w z t = T ∧ t.2 = 0) ∨
    (∃ A B, insts z t.1 = [A, B] ∧ w.fold ≠ .refuse ∧ ((t.2 = 0 ∧ w.fold ≠ .second ∧ inst w z t = A) ∨ (t.2 = 0 ∧ w.fold = .second ∧ inst w z t = B) ∨ (t.2 = 1 ∧ w.fold = .both ∧ inst w z t = B))) ∨
    (insts z t.1 = [] ∧ w.gap = .keep ∧ t.2 = 0 ∧ inst w z t = t.1 - before z t.1) := by
  have l2 := h.le2 t.1
  have q0 := q
  unfold IsTm times at q
  match e : insts z t.1 with
  | [] =>
    rw [e] at q
    simp at q
    refine .inr (.inr ⟨rfl, q.1, by rw [q.2], ?_⟩)
    unfold inst
    rw [if_pos e]
  | [T] =>
    have p : t.2 = 0 := by
      rcases q0.pass with p | p
      · exact p
      · rw [e] at p
        simp at p
    refine .inl ⟨T, rfl, ?_, p⟩
    unfold inst
    rw [e, if_neg (by simp), p]
    split <;> rfl
  | [A, B] =>
    refine .inr (.inl ⟨A, B, rfl, ?_, ?_⟩)
    · intro c
      rw [e, c] at q
      simp at q
    · unfold inst
      rw [e, if_neg (by simp)]
      by_cases c : w.fold = .second
      · rw [if_pos c]
        rcases q0.pass with p | p
        · exact .inr (.inl ⟨p, c, rfl⟩)
        · rw [p.2.1] at c
          cases c
      · rw [if_neg c]
        rcases q0.pass with p | p
        · exact .inl ⟨p, c, by rw [p] <;> rfl⟩
        · exact .inr (.inr ⟨p.1, p.2.1, by rw [p.1] <;> rfl⟩)
  | a :: b :: c :: l => rw [e] at l2; simp at l2
/-- outside of gaps the instant has the reading -/
theorem inst_rd {t : Tm} (q : IsTm w z t) (c : insts z t.1 ≠ []) : inst w z t + off z (inst w z t) = t.1 := by
  rcases tm_cases h q with ⟨T, e, i, _⟩ | ⟨A, B, e, _, k⟩ | ⟨e, _⟩
  · rw [i]
    exact (insts_mem h).1 (by rw [e]; simp)
  · have p := h.pair e
    rcases k with ⟨_, _, i⟩ | ⟨_, _, i⟩ | ⟨_, _, i⟩ <;> rw [i]
    · exact p.2.1
    · exact p.2.2.1
    · exact p.2.2.1
  · exact (c e).elim
theorem at_one {T : Int} (e : insts z (T + off z T) = [T]) : at_ w z T = some (T + off z T, 0) := by
  unfold at_
  rw [e]
  simp
/-- F1: from the instant back to the time -/
theorem at_inst {t : Tm} (q : IsTm w z t) (c : insts z t.1 ≠ []) : at_ w z (inst w z t) = some t := by
  have r := inst_rd h q c
  unfold at_
  rw [r]
  obtain ⟨t1, t2⟩ := t
  rcases tm_cases h q with ⟨T, e, i, p⟩ | ⟨A, B, e, nr, k⟩ | ⟨e, _⟩
  · simp only at e p
    rw [e, i, p]
    simp
  · simp only at e k
    have pr := h.pair e
    rw [e, if_neg (fun q => nr q.2)]
    rcases k with ⟨p, f, i⟩ | ⟨p, f, i⟩ | ⟨p, f, i⟩
    · rw [i, p]
      simp
    · rw [i, p, f]
      simp
    · rw [i, p, f]
      have : ¬ B = A := by omega
      simp [this]
  · exact (c e).elim
/-- F2: from an instant to the time and back -/
theorem inst_at {T : Int} (c : w.fold = .both ∨ (insts z (T + off z T)).length ≠ 2) : ∃ t, at_ w z T = some t ∧ inst w z t = T ∧ t.1 = T + off z T ∧ IsTm w z t ∧ insts z t.1 ≠ [] := by
  have s := insts_self h T
  have l2 := h.le2 (T + off z T)
  have nr : ¬ ((insts z (T + off z T)).length = 2 ∧ w.fold = .refuse) := fun q => by
    rcases c with c | c
    · rw [q.2] at c
      cases c
    · exact c q.1
  have e : at_ w z T = some (T + off z T, if w.fold = .both ∧ T ≠ (insts z (T + off z T)).head?.getD 0 then 1 else 0) := by
    unfold at_
    rw [if_neg nr]
  generalize hp : (if w.fold = .both ∧ T ≠ (insts z (T + off z T)).head?.getD 0 then (1 : Int) else 0) = p at e
  have v := at_valid h e
  refine ⟨_, e, ?_, rfl, v.1, fun q => by rw [show insts z (T + off z T) = [] from q] at s; cases s⟩
  rcases tm_cases h v.1 with ⟨X, ex, i, _⟩ | ⟨A, B, ex, nr2, k⟩ | ⟨ex, _⟩
  · simp only at ex
    rw [ex] at s
    rw [i]
    exact (List.mem_singleton.mp s).symm
  · simp only at ex k
    rw [ex] at s c hp
    have cb : w.fold = .both := by
      rcases c with c | c
      · exact c
      · simp at c
    have pr := h.pair ex
    simp only [List.mem_cons, List.not_mem_nil, or_false] at s
    by_cases d : T = A
    · rw [if_neg (fun q => q.2 (show T = [A, B].head?.getD 0 from d))] at hp
      rcases k with ⟨_, _, i⟩ | ⟨_, f, _⟩ | ⟨f, _⟩
      · rw [i, d]
      · rw [cb] at f
        cases f
      · omega
    · rw [if_pos ⟨cb, (show T ≠ [A, B].head?.getD 0 from d)⟩] at hp
      rcases k with ⟨f, _⟩ | ⟨f, _⟩ | ⟨_, _, i⟩
      · omega
      · omega
      · rw [i]
        rcases s with s | s
        · exact (d s).elim
        · exact s.symm
  · simp only at ex
    rw [ex] at s
    cases s
/-- readings and instants rise alike, outside of gaps, where a fold has one pass -/
theorem mono_lt {t u : Tm} (qt : IsTm w z t) (qu : IsTm w z u) (ct : insts z t.1 ≠ []) (cu : insts z u.1 ≠ []) (cf : w.fold ≠ .both ∨ ((insts z t.1).length ≠ 2)) (lt : t.1 < u.1) : inst w z t < inst w z u := by
  have rt := inst_rd h qt ct
  have ru := inst_rd h qu cu
  by_cases c : inst w z t < inst w z u
  · exact c
  · have ne : inst w z u < inst w z t := by
      rcases Int.lt_or_eq_of_le (Int.not_lt.mp c) with d | d
      · exact d
      · rw [d] at ru
        omega
    obtain ⟨s, s1, s2, s3, s4, s5, s6, s7⟩ := h.cross ne (by omega)
    -- the other instants of both readings
    have x1 := s6 (t.1 - off z (inst w z u)) (by omega) (by omega)
    have x2 : t.1 - off z (inst w z u) ∈ insts z t.1 := (insts_mem h).2 (by omega)
    have y1 := s7 (u.1 - off z (inst w z t)) (by omega) (by omega)
    have y2 : u.1 - off z (inst w z t) ∈ insts z u.1 := (insts_mem h).2 (by omega)
    rcases tm_cases h qt with ⟨T, e, i, p⟩ | ⟨A, B, e, nr, k⟩ | ⟨e, _⟩
    · rw [e] at x2
      have := List.mem_singleton.mp x2
      omega
    · have fb : w.fold ≠ .both := by
        rcases cf with cf | cf
        · exact cf
        · rw [e] at cf
          simp at cf
      have pr := h.pair e
      rw [e] at x2
      simp only [List.mem_cons, List.not_mem_nil, or_false] at x2
      have sec : w.fold = .second := by
        rcases k with ⟨_, _, i⟩ | ⟨_, f, _⟩ | ⟨_, f, _⟩
        · omega
        · exact f
        · exact (fb f).elim
      rcases tm_cases h qu with ⟨T, e', i', p'⟩ | ⟨A', B', e', nr', k'⟩ | ⟨e', _⟩
      · rw [e'] at y2
        have := List.mem_singleton.mp y2
        omega
      · have pr' := h.pair e'
        rw [e'] at y2
        simp only [List.mem_cons, List.not_mem_nil, or_false] at y2
        rcases k' with ⟨_, f, _⟩ | ⟨_, _, i'⟩ | ⟨_, f, _⟩
        · exact (f sec).elim
        · omega
        · exact (fb f).elim
      · exact (cu e').elim
    · exact (ct e).elim
/-- one reading, one time -/
theorem tm_eq {t u : Tm} (qt : IsTm w z t) (qu : IsTm w z u) (cf : w.fold ≠ .both ∨ (insts z t.1).length ≠ 2) (e : t.1 = u.1) : t = u := by
  have p : ∀ x : Tm, IsTm w z x → x.1 = t.1 → x.2 = 0 := fun x qx ex => by
    rcases qx.pass with p | p
    · exact p
    · rcases cf with cf | cf
      · exact (cf p.2.1).elim
      · rw [ex] at p
        exact (cf p.2.2).elim
  exact Prod.ext e (by rw [p t qt rfl, p u qu e.symm])
/-- in a gap -/
theorem gap_at {rd s a b : Int} (G : InGap z rd s a b) : insts z (rd - b + off z (rd - b)) = [rd - b] ∧ off z (rd - b) = a ∧ s ≤ rd - b ∧ rd - b ≤ s + 2 := by
  have g1 := G.lt
  have g2 := G.le
  have g3 := G.lo
  have g4 := G.hi
  have o := G.aft (rd - b) (by omega) (by omega)
  refine ⟨h.one rfl fun x x1 x2 x3 x4 => ?_, o, by omega, by omega⟩
  by_cases c : x < s
  · have := G.bef x (by omega) c
    omega
  · have := G.aft x (by omega) (by omega)
    omega
/-- what comes later than a gap's change reads later than the gap -/
theorem gap_later {rd s a b T : Int} (G : InGap z rd s a b) (hT : s ≤ T) : rd < T + off z T := by
  have g4 := G.hi
  have o := G.aft s (by omega) (by omega)
  by_cases c : rd < T + off z T
  · exact c
  · have ne : s < T := by
      rcases Int.lt_or_eq_of_le hT with d | d
      · exact d
      · rw [← d] at c
        omega
    have := h.back ne (by omega)
    have := G.aft T (by omega) (by omega)
    omega
theorem gap_earlier {rd s a b T : Int} (G : InGap z rd s a b) (hT : T + off z T < rd) : T < s := by
  by_cases c : T < s
  · exact c
  · have := gap_later h G (T := T) (by omega)
    omega
end
/-! ### zones without gaps, without folds -/
def NoGap (z : Zone) : Prop := ∀ rd, insts z rd ≠ []
def NoFold (z : Zone) : Prop := ∀ rd, (insts z rd).length ≠ 2
theorem kind_up : ∀ (cs : List (Int × Int)) (b : Int) (s r : Bool), (kindGo b s r cs).2 = false → r = false ∧ (∀ u, b ≤ offGo u b cs) ∧ ∀ t u, t ≤ u → offGo t b cs ≤ offGo u b cs
  | [], b, s, r, e => ⟨e, fun u => Int.le_refl _, fun _ _ _ => Int.le_refl _⟩
  | p :: l, b, s, r, e => by
    rw [kindGo_cons] at e
    split at e
    next c =>
      obtain ⟨i1, i2, i3⟩ := kind_up l p.2 true r e
      refine ⟨i1, fun u => ?_, fun t u tu => ?_⟩
      · rw [offGo_cons]
        have := i2 u
        split <;> omega
      · rw [offGo_cons, offGo_cons]
        have := i2 u
        have := i3 t u tu
        split <;> split <;> omega
    next c =>
      have := (kind_up l p.2 s true e).1
      cases this
theorem kind_down : ∀ (cs : List (Int × Int)) (b : Int) (s r : Bool), (kindGo b s r cs).1 = false → s = false ∧ (∀ u, offGo u b cs ≤ b) ∧ ∀ t u, t ≤ u → offGo u b cs ≤ offGo t b cs
  | [], b, s, r, e => ⟨e, fun u => Int.le_refl _, fun _ _ _ => Int.le_refl _⟩
  | p :: l, b, s, r, e => by
    rw [kindGo_cons] at e
    split at e
    next c =>
      have := (kind_down l p.2 true r e).1
      cases this
    next c =>
      obtain ⟨i1, i2, i3⟩ := kind_down l p.2 s true e
      refine ⟨i1, fun u => ?_, fun t u tu => ?_⟩
      · rw [offGo_cons]
        have := i2 u
        split <;> omega
      · rw [offGo_cons, offGo_cons]
        have := i2 u
        have := i3 t u tu
        split <;> split <;> omega
theorem kind_flags {z : Zone} {k : Str} (e : kindOf z = k) : (k = "fixed" ∨ k = "skips" → (kindGo z.1 false false z.2).2 = false) ∧ (k = "fixed" ∨ k = "repeats" → (kindGo z.1 false false z.2).1 = false) := by
  unfold kindOf at e
  generalize kindGo z.1 false false z.2 = f at e
  have n1 : ("both" : Str) ≠ "fixed" := by decide +kernel
  have n2 : ("both" : Str) ≠ "skips" := by decide +kernel
  have n3 : ("both" : Str) ≠ "repeats" := by decide +kernel
  have n4 : ("skips" : Str) ≠ "fixed" := by decide +kernel
  have n5 : ("skips" : Str) ≠ "repeats" := by decide +kernel
  have n6 : ("repeats" : Str) ≠ "fixed" := by decide +kernel
  have n7 : ("repeats" : Str) ≠ "skips" := by decide +kernel
  match f with
  | (true, true) =>
    subst e
    exact ⟨fun q => q.elim (fun q => (n1 q).elim) (fun q => (n2 q).elim), fun q => q.elim (fun q => (n1 q).elim) (fun q => (n3 q).elim)⟩
  | (true, false) =>
    subst e
    exact ⟨fun _ => rfl, fun q => q.elim (fun q => (n4 q).elim) (fun q => (n5 q).elim)⟩
  | (false, true) =>
    subst e
    exact ⟨fun q => q.elim (fun q => (n6 q).elim) (fun q => (n7 q).elim), fun _ => rfl⟩
  | (false, false) => exact ⟨fun _ => rfl, fun _ => rfl⟩
theorem noFold_of {z : Zone} (h : OkZ z) {k : Str} (e : kindOf z = k) (c : k = "fixed" ∨ k = "skips") : NoFold z := by
  have up := (kind_up z.2 z.1 false false ((kind_flags e).1 c)).2.2
  intro rd l
  match q : insts z rd with
  | [] => rw [q] at l; cases l
  | [a] => rw [q] at l; cases l
  | [a, b] =>
    have p := h.pair q
    have := up a b (by omega)
    unfold off at p
    omega
  | a :: b :: c :: r => rw [q] at l; simp at l
theorem noGap_of {z : Zone} (h : OkZ z) {k : Str} (e : kindOf z = k) (c : k = "fixed" ∨ k = "repeats") : NoGap z := by
  have dn := (kind_down z.2 z.1 false false ((kind_flags e).2 c)).2.2
  intro rd l
  obtain ⟨s, a, b, G⟩ := h.gap l
  have f1 := G.bef (s - 1) (by omega) (by omega)
  have f2 := G.aft s (by omega) (by omega)
  have := G.lt
  have := dn (s - 1) s (by omega)
  unfold off at f1 f2
  omega
/-- no gaps, no folds: one offset -/
theorem const_of {z : Zone} (h : OkZ z) (ng : NoGap z) (nf : NoFold z) (T U : Int) : off z T = off z U := by
  have stp : ∀ s, off z s = off z (s - 1) := by
    intro s
    by_cases c : off z s = off z (s - 1)
    · exact c
    · obtain ⟨c1, c2, c3, c4⟩ := h.chart c
      by_cases d : off z s < off z (s - 1)
      · -- a fold: the reading s + off s
        have m1 : s ∈ insts z (s + off z s) := insts_self h s
        have x := c1 (s + off z s - off z (s - 1)) (by omega) (by omega)
        have m2 : s + off z s - off z (s - 1) ∈ insts z (s + off z s) := (insts_mem h).2 (by omega)
        have l := nf (s + off z s)
        have l2 := h.le2 (s + off z s)
        match q : insts z (s + off z s) with
        | [] => rw [q] at m1; cases m1
        | [a] =>
          rw [q] at m1 m2
          have := List.mem_singleton.mp m1
          have := List.mem_singleton.mp m2
          omega
        | [a, b] => rw [q] at l; exact (l rfl).elim
        | a :: b :: c :: r => rw [q] at l2; simp at l2
      · -- a gap: the reading s + off (s - 1)
        refine (ng (s + off z (s - 1)) ?_).elim
        cases q : insts z (s + off z (s - 1)) with
        | nil => rfl
        | cons T l =>
          have m := (insts_mem h (t := s + off z (s - 1)) (k := T)).1 (by rw [q]; simp)
          by_cases d1 : T < s
          · by_cases d2 : T = s - 1
            · rw [d2] at m
              omega
            · have := h.back (t := T) (u := s - 1) (by omega) (by omega)
              have := c1 T (by omega) d1
              omega
          · by_cases d2 : T = s
            · rw [d2] at m
              omega
            · have := h.back (t := s) (u := T) (by omega) (by omega)
              have := c2 T (by omega) (by omega)
              omega
  have go : ∀ (n : Nat) (T : Int), off z (T + n) = off z T := by
    intro n
    induction n with
    | zero =>
      intro T
      rw [show T + ((0 : Nat) : Int) = T by omega]
    | succ n ih =>
      intro T
      rw [stp, show T + ((n + 1 : Nat) : Int) - 1 = T + (n : Int) by omega]
      exact ih T
  rcases Int.le_total T U with q | q
  · have := go (U - T).toNat T
    rw [show T + ((U - T).toNat : Int) = U by omega] at this
    exact this.symm
  · have := go (T - U).toNat U
    rw [show U + ((T - U).toNat : Int) = T by omega] at this
    exact this
/-! ### the rules -/
inductive Rule where
  | fromU | toU | every | someR | there | sumD | elapsed | same | later | told | diff | ordDiff | eqOne | oneEq | oneOne | ordInst | kept | eqSums
  deriving DecidableEq
def ruleS : Rule → Str
  | .fromU => "from universal and back"
  | .toU => "to universal and back"
  | .every => "every reading"
  | .someR => "some reading"
  | .there => "there and back"
  | .sumD => "sum of durations"
  | .elapsed => "elapsed time"
  | .same => "same clock"
  | .later => "later"
  | .told => "sums told"
  | .diff => "difference recovers"
  | .ordDiff => "order by difference"
  | .eqOne => "equal means one instant"
  | .oneEq => "one instant means equal"
  | .oneOne => "one instant, one time"
  | .ordInst => "order of instants"
  | .kept => "order kept"
  | .eqSums => "equal sums"
/-- the two conditions: for skips, for repeats -/
def met (w : Way) : Rule → Bool × Bool
  | .fromU => (true, decide (w.fold = .both))
  | .toU => (!decide (w.gap = .keep), true)
  | .every => (decide (w.gap = .keep), !decide (w.fold = .refuse))
  | .someR => (!decide (w.gap = .refuse), !decide (w.fold = .refuse))
  | .there => (w.ws == decide (w.gap = .keep), if w.ws then (decide (w.fold = .first) || decide (w.fold = .second)) else decide (w.fold = .both))
  | .sumD => (!w.ws || decide (w.gap = .keep), if w.ws then !decide (w.fold = .refuse) else decide (w.fold = .both))
  | .elapsed => (!w.ws, decide (w.fold = .both) && !w.ws)
  | .same => (w.ws && decide (w.gap = .keep), w.ws && !decide (w.fold = .refuse))
  | .later => (!w.ws || (decide (w.gap = .shift) || (decide (w.gap = .keep) && w.wo)), decide (w.fold = .second) || ((w.ws && decide (w.fold = .first)) || (decide (w.fold = .both) && (w.ws == w.wo))))
  | .told => (!w.ws || !decide (w.gap = .refuse), !decide (w.fold = .refuse))
  | .diff => (w.ws || !decide (w.gap = .keep), !w.ws || !decide (w.fold = .both))
  | .ordDiff => ((w.ws == w.wo) || !decide (w.gap = .keep), (w.ws == w.wo) || !decide (w.fold = .both))
  | .eqOne => (true, !w.wo || !decide (w.fold = .both))
  | .oneEq => (!w.wo || !decide (w.gap = .keep), true)
  | .oneOne => (!decide (w.gap = .keep), true)
  | .ordInst => (!w.wo || !decide (w.gap = .keep), !w.wo || !decide (w.fold = .both))
  | .kept => (if w.ws then w.wo && decide (w.gap = .keep) else !w.wo || !decide (w.gap = .keep),
      if w.ws then (decide (w.fold = .first) || decide (w.fold = .second)) || (decide (w.fold = .both) && w.wo) else decide (w.fold = .both) && !w.wo)
  | .eqSums => (!w.ws || (decide (w.gap = .shift) || (decide (w.gap = .keep) && w.wo)), (decide (w.fold = .first) || decide (w.fold = .second)) || (decide (w.fold = .both) && (w.ws || !w.wo)))
/-! ### whether a rule holds for arguments -/
def fFrom (w : Way) (z : Zone) (T : Int) : Bool := match at_ w z T with
  | none => false
  | some t => decide (inst w z t = T)
def fTo (w : Way) (z : Zone) (t : Tm) : Bool := decide (at_ w z (inst w z t) = some t)
def fEvery (w : Way) (z : Zone) (rd : Int) : Bool := match read_ w z rd with
  | none => false
  | some t => decide (t.1 = rd)
def fSome (w : Way) (z : Zone) (rd : Int) : Bool := (read_ w z rd).isSome
def fSame (w : Way) (z : Zone) (t : Tm) : Bool := match addT w z (some t) 24 with
  | none => false
  | some u => decide (u.1 = t.1 + 24)
def fMoved (w : Way) (z : Zone) (r : Rule) (t : Tm) (d e : Int) : Bool := match addT w z (some t) d with
  | none => decide (r = .later) && decide (d ≤ 0)
  | some a => match r with
    | .there => decide (addT w z (some a) (0 - d) = some t)
    | .sumD => (match addT w z (some a) e with
      | none => false
      | some b => decide (some b = addT w z (some t) (d + e)))
    | .elapsed => decide (inst w z a - inst w z t = d)
    | .told => true
    | _ => decide (d ≤ 0) || decide (cmp (key w z t) (key w z a) = -1)
def fTwo (w : Way) (z : Zone) (r : Rule) (t u : Tm) (d : Int) : Bool := match r with
  | .diff => decide (addT w z (some t) (less_ w z u t) = some u)
  | .ordDiff => decide (cmp (key w z t) (key w z u) < 0) == decide (less_ w z u t > 0)
  | .ordInst => decide (cmp (key w z t) (key w z u) < 0) == decide (inst w z t < inst w z u)
  | .kept => !decide (cmp (key w z t) (key w z u) = -1) || decide (order w z (addT w z (some t) d) (addT w z (some u) d) = some (-1))
  | .eqSums => !decide (cmp (key w z t) (key w z u) = 0) || decide (order w z (addT w z (some t) d) (addT w z (some u) d) = some 0)
  | .eqOne => !decide (cmp (key w z t) (key w z u) = 0) || decide (inst w z t = inst w z u)
  | .oneEq => !decide (inst w z t = inst w z u) || decide (cmp (key w z t) (key w z u) = 0)
  | _ => !decide (inst w z t = inst w z u) || decide (t = u)
/-! ### comparing -/
theorem cmp_lt {a b : Int} : cmp a b = -1 ↔ a < b := by
  unfold cmp
  split <;> (try split) <;> omega
theorem cmp_eq {a b : Int} : cmp a b = 0 ↔ a = b := by
  unfold cmp
  split <;> (try split) <;> omega
theorem cmp_neg {a b : Int} : cmp a b < 0 ↔ a < b := by
  unfold cmp
  split <;> (try split) <;> omega
section
variable {w : Way} {z : Zone} (h : OkZ z)
include h
theorem out_gap {t : Tm} (q : IsTm w z t) (c : w.gap ≠ .keep ∨ NoGap z) : insts z t.1 ≠ [] := by
  intro e
  rcases c with c | c
  · rcases tm_cases h q with ⟨T, e', _⟩ | ⟨A, B, e', _⟩ | ⟨_, k, _⟩
    · rw [e] at e'; cases e'
    · rw [e] at e'; cases e'
    · exact c k
  · exact c _ e
theorem read_plain {rd : Int} (c : insts z rd = [] → w.gap = .keep) (nr : w.fold ≠ .refuse ∨ NoFold z) : read_ w z rd = some (rd, 0) := by
  unfold read_
  by_cases e : insts z rd = []
  · rw [if_pos e, c e]
  · rw [if_neg e, if_neg]
    rintro ⟨q1, q2⟩
    rcases nr with nr | nr
    · exact nr q1
    · exact nr rd q2
theorem at_told (T : Int) (nr : w.fold ≠ .refuse ∨ NoFold z) : ∃ t, at_ w z T = some t ∧ IsTm w z t ∧ t.1 = T + off z T ∧ insts z t.1 ≠ [] := by
  have e : at_ w z T = some (T + off z T, if w.fold = .both ∧ T ≠ (insts z (T + off z T)).head?.getD 0 then 1 else 0) := by
    unfold at_
    rw [if_neg]
    rintro ⟨q1, q2⟩
    rcases nr with nr | nr
    · exact nr q2
    · exact nr _ q1
  have v := at_valid h e
  refine ⟨_, e, v.1, rfl, fun q => ?_⟩
  have s := insts_self h T
  rw [show insts z (T + off z T) = [] from q] at s
  cases s
/-- a read gives the reading itself, or a later one behind a gap -/
theorem read_told (rd : Int) (cg : w.gap ≠ .refuse ∨ NoGap z) (nr : w.fold ≠ .refuse ∨ NoFold z) :
    (read_ w z rd = some (rd, 0) ∧ (insts z rd = [] → w.gap = .keep)) ∨ (∃ s a b, InGap z rd s a b ∧ w.gap = .shift ∧ read_ w z rd = some (rd - b + a, 0) ∧ insts z (rd - b + a) = [rd - b] ∧ s ≤ rd - b) := by
  by_cases e : insts z rd = []
  · cases hg : w.gap with
    | keep => exact .inl ⟨read_plain h (fun _ => hg) nr, fun _ => rfl⟩
    | refuse =>
      rcases cg with cg | cg
      · exact (cg hg).elim
      · exact (cg _ e).elim
    | shift =>
      obtain ⟨s, a, b, G⟩ := h.gap e
      obtain ⟨g1, g2, g3, g4⟩ := gap_at h G
      refine .inr ⟨s, a, b, G, rfl, ?_, by rw [g2] at g1; exact g1, g3⟩
      unfold read_
      rw [if_pos e, hg]
      show at_ w z (rd - before z rd) = _
      rw [G.bf, at_one h g1, g2]
  · exact .inl ⟨read_plain h (fun q => (e q).elim) nr, fun q => (e q).elim⟩
theorem pass_of {rd : Int} {t : Tm} (e : read_ w z rd = some t) : IsTm w z t := read_valid h e
theorem inst_one {t : Tm} {T : Int} (q : IsTm w z t) (e : insts z t.1 = [T]) : inst w z t = T := by
  have r := inst_rd h q (by rw [e]; simp)
  have m := (insts_mem h).2 r
  rw [e] at m
  exact List.mem_singleton.mp m
/-! ### one argument -/
theorem r_from (T : Int) (hR : w.fold = .both ∨ NoFold z) : fFrom w z T = true := by
  obtain ⟨t, e, i, _⟩ := inst_at (w := w) h (T := T) (hR.imp id fun q => q _)
  unfold fFrom
  rw [e]
  exact decide_eq_true i
theorem r_to {t : Tm} (q : IsTm w z t) (hS : w.gap ≠ .keep ∨ NoGap z) : fTo w z t = true := decide_eq_true (at_inst h q (out_gap h q hS))
theorem r_every (rd : Int) (hS : w.gap = .keep ∨ NoGap z) (hR : w.fold ≠ .refuse ∨ NoFold z) : fEvery w z rd = true := by
  unfold fEvery
  rw [read_plain h (fun e => hS.elim id fun q => (q _ e).elim) hR]
  exact decide_eq_true rfl
theorem r_some (rd : Int) (hS : w.gap ≠ .refuse ∨ NoGap z) (hR : w.fold ≠ .refuse ∨ NoFold z) : fSome w z rd = true := by
  unfold fSome
  rcases read_told h rd hS hR with ⟨e, _⟩ | ⟨_, _, _, _, _, e, _⟩ <;> rw [e] <;> rfl
theorem add_w {t : Tm} {d : Int} (c : w.ws = true) : addT w z (some t) d = read_ w z (t.1 + d) := by
  unfold addT
  rw [c]
  rfl
theorem add_e {t : Tm} {d : Int} (c : w.ws = false) : addT w z (some t) d = at_ w z (inst w z t + d) := by
  unfold addT
  rw [c]
  rfl
theorem r_same {t : Tm} (q : IsTm w z t) (hS : (w.ws = true ∧ w.gap = .keep) ∨ NoGap z) (hR : (w.ws = true ∧ w.fold ≠ .refuse) ∨ NoFold z) : fSame w z t = true := by
  have nr : w.fold ≠ .refuse ∨ NoFold z := hR.imp (fun q => q.2) id
  unfold fSame
  cases c : w.ws with
  | true =>
    rw [add_w h c, read_plain h (fun e => hS.elim (fun q => q.2) fun q => (q _ e).elim) nr]
    exact decide_eq_true rfl
  | false =>
    have ng : NoGap z := hS.elim (fun q => by rw [c] at q; cases q.1) id
    have nf : NoFold z := hR.elim (fun q => by rw [c] at q; cases q.1) id
    obtain ⟨u, e, _, r, _⟩ := at_told (w := w) h (inst w z t + 24) nr
    rw [add_e h c, e]
    refine decide_eq_true ?_
    have := inst_rd h q (ng _)
    have := const_of h ng nf (inst w z t + 24) (inst w z t)
    omega
/-! ### a time and durations -/
theorem r_there {t : Tm} (q : IsTm w z t) (d e : Int) (hS : (w.ws = true ∧ w.gap = .keep) ∨ (w.ws = false ∧ w.gap ≠ .keep) ∨ NoGap z) (hR : (w.ws = true ∧ (w.fold = .first ∨ w.fold = .second)) ∨ (w.ws = false ∧ w.fold = .both) ∨ NoFold z) : fMoved w z .there t d e = true := by
  have nr : w.fold ≠ .refuse ∨ NoFold z := by
    rcases hR with ⟨_, f | f⟩ | ⟨_, f⟩ | f
    · exact .inl (by rw [f]; simp)
    · exact .inl (by rw [f]; simp)
    · exact .inl (by rw [f]; simp)
    · exact .inr f
  unfold fMoved
  cases c : w.ws with
  | true =>
    have kp : ∀ rd, insts z rd = [] → w.gap = .keep := fun rd e => by
      rcases hS with q | q | q
      · exact q.2
      · rw [c] at q; cases q.1
      · exact (q _ e).elim
    rw [add_w h c, read_plain h (kp _) nr]
    simp only
    rw [add_w h c, read_plain h (kp _) nr]
    have p0 : t.2 = 0 := by
      rcases q.pass with p | p
      · exact p
      · rcases hR with ⟨_, f | f⟩ | ⟨f, _⟩ | f
        · rw [f] at p; cases p.2.1
        · rw [f] at p; cases p.2.1
        · rw [c] at f; cases f
        · exact (f _ p.2.2).elim
    refine decide_eq_true ?_
    show some (t.1 + d + (0 - d), (0 : Int)) = some t
    rw [show t.1 + d + (0 - d) = t.1 by omega, ← p0]
  | false =>
    have og := out_gap h q (hS.elim (fun q => by rw [c] at q; cases q.1) fun q => q.imp (fun q => q.2) id)
    obtain ⟨u, e1, i1, r1, v1, g1⟩ := inst_at (w := w) h (T := inst w z t + d) (by
      rcases hR with ⟨f, _⟩ | ⟨_, f⟩ | f
      · rw [c] at f; cases f
      · exact .inl f
      · exact .inr (f _))
    rw [add_e h c, e1]
    simp only
    rw [add_e h c, i1, show inst w z t + d + (0 - d) = inst w z t by omega]
    exact decide_eq_true (at_inst h q og)
theorem r_sum {t : Tm} (q : IsTm w z t) (d e : Int) (hS : w.ws = false ∨ w.gap = .keep ∨ NoGap z) (hR : (w.ws = true ∧ w.fold ≠ .refuse) ∨ (w.ws = false ∧ w.fold = .both) ∨ NoFold z) : fMoved w z .sumD t d e = true := by
  unfold fMoved
  cases c : w.ws with
  | true =>
    have nr : w.fold ≠ .refuse ∨ NoFold z := by
      rcases hR with f | f | f
      · exact .inl f.2
      · rw [c] at f; cases f.1
      · exact .inr f
    have kp : ∀ rd, insts z rd = [] → w.gap = .keep := fun rd e => by
      rcases hS with q | q | q
      · rw [c] at q; cases q
      · exact q
      · exact (q _ e).elim
    rw [add_w h c, read_plain h (kp _) nr]
    simp only
    rw [add_w h c, read_plain h (kp _) nr, add_w h c, read_plain h (kp _) nr]
    simp only
    exact decide_eq_true (by rw [Int.add_assoc])
  | false =>
    have c2 : ∀ T, w.fold = .both ∨ (insts z (T + off z T)).length ≠ 2 := fun T => by
      rcases hR with f | f | f
      · rw [c] at f; cases f.1
      · exact .inl f.2
      · exact .inr (f _)
    obtain ⟨u, e1, i1, r1, v1, g1⟩ := inst_at (w := w) h (T := inst w z t + d) (c2 _)
    obtain ⟨v, e2, i2, r2, v2, g2⟩ := inst_at (w := w) h (T := inst w z t + d + e) (c2 _)
    rw [add_e h c, e1]
    simp only
    rw [add_e h c, i1, e2, add_e h c, show inst w z t + (d + e) = inst w z t + d + e by omega, e2]
    exact decide_eq_true rfl
theorem r_elapsed {t : Tm} (q : IsTm w z t) (d e : Int) (hS : w.ws = false ∨ NoGap z) (hR : (w.ws = false ∧ w.fold = .both) ∨ NoFold z) : fMoved w z .elapsed t d e = true := by
  unfold fMoved
  cases c : w.ws with
  | true =>
    have ng : NoGap z := hS.elim (fun q => by rw [c] at q; cases q) id
    have nf : NoFold z := hR.elim (fun q => by rw [c] at q; cases q.1) id
    have rp := read_plain (w := w) h (rd := t.1 + d) (fun e => (ng _ e).elim) (.inr nf)
    rw [add_w h c, rp]
    refine decide_eq_true ?_
    have v := read_valid h rp
    have := inst_rd h q (ng _)
    have := inst_rd h v (ng _)
    have := const_of h ng nf (inst w z (t.1 + d, 0)) (inst w z t)
    show inst w z (t.1 + d, 0) - inst w z t = d
    simp only at *
    omega
  | false =>
    obtain ⟨u, e1, i1, r1, v1, g1⟩ := inst_at (w := w) h (T := inst w z t + d) (hR.imp (fun q => q.2) fun q => q _)
    rw [add_e h c, e1]
    exact decide_eq_true (by rw [i1]; omega)
theorem r_told {t : Tm} (q : IsTm w z t) (d e : Int) (hS : w.ws = false ∨ w.gap ≠ .refuse ∨ NoGap z) (hR : w.fold ≠ .refuse ∨ NoFold z) : fMoved w z .told t d e = true := by
  unfold fMoved
  cases c : w.ws with
  | true =>
    rw [add_w h c]
    rcases read_told h (t.1 + d) (hS.elim (fun q => by rw [c] at q; cases q) id) hR with ⟨e, _⟩ | ⟨_, _, _, _, _, e, _⟩ <;> rw [e] <;> rfl
  | false =>
    obtain ⟨u, e1, _⟩ := at_told (w := w) h (inst w z t + d) hR
    rw [add_e h c, e1]
end
section
variable {w : Way} {z : Zone} (h : OkZ z)
include h
theorem read_tm {u : Tm} (q : IsTm w z u) (p : u.2 = 0) : read_ w z u.1 = some u := by
  have e : some (u.1, (0 : Int)) = some u := by rw [← p]
  rw [← e]
  unfold read_
  rcases tm_cases h q with ⟨T, e', _⟩ | ⟨A, B, e', nr, _⟩ | ⟨e', k, _⟩
  · rw [e', if_neg (by simp), if_neg (by simp)]
  · rw [e', if_neg (by simp), if_neg (fun q => nr q.1)]
  · rw [if_pos e', k]
theorem pass0_of {u : Tm} (q : IsTm w z u) (cf : w.fold ≠ .both ∨ NoFold z) : u.2 = 0 := by
  rcases q.pass with p | p
  · exact p
  · rcases cf with cf | cf
    · exact (cf p.2.1).elim
    · exact (cf _ p.2.2).elim
theorem mono_iff {t u : Tm} (qt : IsTm w z t) (qu : IsTm w z u) (ct : insts z t.1 ≠ []) (cu : insts z u.1 ≠ []) (cf : w.fold ≠ .both ∨ NoFold z) : t.1 < u.1 ↔ inst w z t < inst w z u := by
  have cf' : ∀ x : Tm, w.fold ≠ .both ∨ (insts z x.1).length ≠ 2 := fun x => cf.imp id fun q => q _
  constructor
  · exact mono_lt h qt qu ct cu (cf' t)
  · intro lt
    rcases Int.lt_trichotomy t.1 u.1 with c | c | c
    · exact c
    · rw [tm_eq h qt qu (cf' t) c] at lt
      omega
    · have := mono_lt h qu qt cu ct (cf' u) c
      omega
theorem nofold_lt (nf : NoFold z) {X Y : Int} (lt : X < Y) : X + off z X < Y + off z Y := by
  by_cases c : X + off z X < Y + off z Y
  · exact c
  · obtain ⟨s, s1, s2, s3, s4, s5, s6, s7⟩ := h.cross lt (by omega)
    have y := s7 (X + off z X - off z Y) (by omega) (by omega)
    have m1 := insts_self h X
    have m2 : X + off z X - off z Y ∈ insts z (X + off z X) := (insts_mem h).2 (by omega)
    have l := nf (X + off z X)
    have l2 := h.le2 (X + off z X)
    match q : insts z (X + off z X) with
    | [] => rw [q] at m1; cases m1
    | [a] =>
      rw [q] at m1 m2
      have := List.mem_singleton.mp m1
      have := List.mem_singleton.mp m2
      omega
    | [a, b] => rw [q] at l; exact (l rfl).elim
    | a :: b :: c :: r => rw [q] at l2; simp at l2
theorem key_w {t : Tm} (c : w.wo = true) : key w z t = t.1 := by
  unfold key
  rw [c]
  rfl
theorem key_e {t : Tm} (c : w.wo = false) : key w z t = inst w z t := by
  unfold key
  rw [c]
  rfl
/-! ### two times -/
theorem r_diff {t u : Tm} (qt : IsTm w z t) (qu : IsTm w z u) (d : Int) (hS : w.ws = true ∨ w.gap ≠ .keep ∨ NoGap z) (hR : w.ws = false ∨ w.fold ≠ .both ∨ NoFold z) : fTwo w z .diff t u d = true := by
  unfold fTwo less_
  refine decide_eq_true ?_
  cases c : w.ws with
  | true =>
    rw [if_pos rfl, add_w h c, show t.1 + (u.1 - t.1) = u.1 by omega]
    exact read_tm h qu (pass0_of h qu (hR.elim (fun q => by rw [c] at q; cases q) id))
  | false =>
    rw [if_neg (by decide), add_e h c, show inst w z t + (inst w z u - inst w z t) = inst w z u by omega]
    exact at_inst h qu (out_gap h qu (hS.elim (fun q => by rw [c] at q; cases q) id))
theorem r_ordInst {t u : Tm} (qt : IsTm w z t) (qu : IsTm w z u) (d : Int) (hS : w.wo = false ∨ w.gap ≠ .keep ∨ NoGap z) (hR : w.wo = false ∨ w.fold ≠ .both ∨ NoFold z) : fTwo w z .ordInst t u d = true := by
  unfold fTwo
  refine beq_iff_eq.mpr (decide_eq_decide.mpr ?_)
  rw [cmp_neg]
  cases c : w.wo with
  | false => rw [key_e h c, key_e h c]
  | true =>
    have f : ∀ {p : Prop}, (w.wo = false ∨ p) → p := fun q => q.elim (fun q => by rw [c] at q; cases q) id
    rw [key_w h c, key_w h c]
    exact mono_iff h qt qu (out_gap h qt (f hS)) (out_gap h qu (f hS)) (f hR)
theorem r_ordDiff {t u : Tm} (qt : IsTm w z t) (qu : IsTm w z u) (d : Int) (hS : w.ws = w.wo ∨ w.gap ≠ .keep ∨ NoGap z) (hR : w.ws = w.wo ∨ w.fold ≠ .both ∨ NoFold z) : fTwo w z .ordDiff t u d = true := by
  unfold fTwo less_
  refine beq_iff_eq.mpr (decide_eq_decide.mpr ?_)
  rw [cmp_neg]
  by_cases al : w.ws = w.wo
  · cases c : w.wo with
    | true =>
      rw [c] at al
      rw [key_w h c, key_w h c, al, if_pos rfl]
      omega
    | false =>
      rw [c] at al
      rw [key_e h c, key_e h c, al, if_neg (by decide)]
      omega
  · have m := mono_iff h qt qu (out_gap h qt (hS.resolve_left al)) (out_gap h qu (hS.resolve_left al)) (hR.resolve_left al)
    cases c : w.wo with
    | true =>
      have c2 : w.ws = false := by
        cases e : w.ws with
        | false => rfl
        | true => rw [e, c] at al; exact (al rfl).elim
      rw [key_w h c, key_w h c, c2, if_neg (by decide), m]
      omega
    | false =>
      have c2 : w.ws = true := by
        cases e : w.ws with
        | true => rfl
        | false => rw [e, c] at al; exact (al rfl).elim
      rw [key_e h c, key_e h c, c2, if_pos rfl, ← m]
      omega
theorem imp_b {p q : Prop} [Decidable p] [Decidable q] (i : p → q) : (!decide p || decide q) = true := by
  by_cases c : p
  · rw [decide_eq_true c, decide_eq_true (i c)]
    rfl
  · rw [decide_eq_false c]
    rfl
theorem r_eqOne {t u : Tm} (qt : IsTm w z t) (qu : IsTm w z u) (d : Int) (hR : w.wo = false ∨ w.fold ≠ .both ∨ NoFold z) : fTwo w z .eqOne t u d = true := by
  unfold fTwo
  refine imp_b h fun e => ?_
  rw [cmp_eq] at e
  cases c : w.wo with
  | false =>
    rw [key_e h c, key_e h c] at e
    exact e
  | true =>
    rw [key_w h c, key_w h c] at e
    rw [tm_eq h qt qu ((hR.elim (fun q => by rw [c] at q; cases q) id).imp id fun q => q _) e]
theorem r_oneEq {t u : Tm} (qt : IsTm w z t) (qu : IsTm w z u) (d : Int) (hS : w.wo = false ∨ w.gap ≠ .keep ∨ NoGap z) : fTwo w z .oneEq t u d = true := by
  unfold fTwo
  refine imp_b h fun e => ?_
  rw [cmp_eq]
  cases c : w.wo with
  | false =>
    rw [key_e h c, key_e h c]
    exact e
  | true =>
    have g := hS.elim (fun q => by rw [c] at q; cases q) id
    have r1 := inst_rd h qt (out_gap h qt g)
    have r2 := inst_rd h qu (out_gap h qu g)
    rw [key_w h c, key_w h c, ← r1, ← r2, e]
theorem r_oneOne {t u : Tm} (qt : IsTm w z t) (qu : IsTm w z u) (d : Int) (hS : w.gap ≠ .keep ∨ NoGap z) : fTwo w z .oneOne t u d = true := by
  unfold fTwo
  refine imp_b h fun e => ?_
  have r1 := at_inst h qt (out_gap h qt hS)
  have r2 := at_inst h qu (out_gap h qu hS)
  rw [e, r2] at r1
  exact (Option.some.inj r1).symm
theorem r_later {t : Tm} (q : IsTm w z t) (d e : Int) (hS : w.ws = false ∨ w.gap = .shift ∨ (w.gap = .keep ∧ w.wo = true) ∨ NoGap z)
    (hR : w.fold = .second ∨ (w.ws = true ∧ w.fold = .first) ∨ (w.fold = .both ∧ w.ws = w.wo) ∨ NoFold z) : fMoved w z .later t d e = true := by
  have nr : w.fold ≠ .refuse ∨ NoFold z := by
    rcases hR with f | ⟨_, f⟩ | ⟨f, _⟩ | f
    · exact .inl (by rw [f]; simp)
    · exact .inl (by rw [f]; simp)
    · exact .inl (by rw [f]; simp)
    · exact .inr f
  have main : d ≤ 0 ∨ ∃ a, addT w z (some t) d = some a ∧ key w z t < key w z a := by
    by_cases d0 : d ≤ 0
    · exact .inl d0
    refine .inr ?_
    cases c : w.ws with
    | false =>
      rw [add_e h c]
      obtain ⟨u, e1, v1, r1, g1⟩ := at_told (w := w) h (inst w z t + d) nr
      refine ⟨u, e1, ?_⟩
      cases c2 : w.wo with
      | false =>
        rw [key_e h c2, key_e h c2]
        have X : inst w z t + d ∈ insts z u.1 := by rw [r1]; exact insts_self h _
        by_cases sec : w.fold = .second
        · rcases tm_cases h v1 with ⟨T, e', i, _⟩ | ⟨A, B, e', _, k⟩ | ⟨e', _⟩
          · rw [e'] at X
            have := List.mem_singleton.mp X
            omega
          · have pr := h.pair e'
            rw [e'] at X
            simp only [List.mem_cons, List.not_mem_nil, or_false] at X
            rcases k with ⟨_, f, _⟩ | ⟨_, _, i⟩ | ⟨_, f, _⟩
            · exact (f sec).elim
            · omega
            · rw [sec] at f; cases f
          · exact (g1 e').elim
        · obtain ⟨u', e2, i2, _⟩ := inst_at (w := w) h (T := inst w z t + d) (by
            rcases hR with f | ⟨f, _⟩ | ⟨f, _⟩ | f
            · exact (sec f).elim
            · rw [c] at f; cases f
            · exact .inl f
            · exact .inr (f _))
          rw [e1] at e2
          have e3 := Option.some.inj e2
          rw [e3, i2]
          omega
      | true =>
        rw [key_w h c2, key_w h c2, r1]
        have sn : w.fold = .second ∨ NoFold z := by
          rcases hR with f | ⟨f, _⟩ | ⟨_, f⟩ | f
          · exact .inl f
          · rw [c] at f; cases f
          · rw [c, c2] at f; cases f
          · exact .inr f
        by_cases g : insts z t.1 = []
        · obtain ⟨s, a, b, G⟩ := h.gap g
          rcases tm_cases h q with ⟨T, e', _⟩ | ⟨A, B, e', _⟩ | ⟨_, _, _, i⟩
          · rw [g] at e'; cases e'
          · rw [g] at e'; cases e'
          · rw [G.bf] at i
            have := G.lo
            exact gap_later h G (by omega)
        · have rt := inst_rd h q g
          by_cases cc : t.1 < inst w z t + d + off z (inst w z t + d)
          · exact cc
          · obtain ⟨s, s1, s2, s3, s4, s5, s6, s7⟩ := h.cross (U := inst w z t) (T := inst w z t + d) (by omega) (by omega)
            have y := s7 (t.1 - off z (inst w z t + d)) (by omega) (by omega)
            have m2 : t.1 - off z (inst w z t + d) ∈ insts z t.1 := (insts_mem h).2 (by omega)
            rcases tm_cases h q with ⟨T, e', i, _⟩ | ⟨A, B, e', _, k⟩ | ⟨e', _⟩
            · rw [e'] at m2
              have := List.mem_singleton.mp m2
              omega
            · have pr := h.pair e'
              rcases sn with sn | sn
              · rw [e'] at m2
                simp only [List.mem_cons, List.not_mem_nil, or_false] at m2
                rcases k with ⟨_, f, _⟩ | ⟨_, _, i⟩ | ⟨_, f, _⟩
                · exact (f sn).elim
                · omega
                · rw [sn] at f; cases f
              · exact (sn _ (by rw [e'] <;> rfl)).elim
            · exact (g e').elim
    | true =>
      rw [add_w h c]
      have cg : w.gap ≠ .refuse ∨ NoGap z := by
        rcases hS with f | f | ⟨f, _⟩ | f
        · rw [c] at f; cases f
        · exact .inl (by rw [f]; simp)
        · exact .inl (by rw [f]; simp)
        · exact .inr f
      have eg : w.wo = false → w.gap ≠ .keep ∨ NoGap z := fun c2 => by
        rcases hS with f | f | ⟨_, f⟩ | f
        · rw [c] at f; cases f
        · exact .inl (by rw [f]; simp)
        · rw [c2] at f; cases f
        · exact .inr f
      rcases read_told h (t.1 + d) cg nr with ⟨e1, kp⟩ | ⟨s, a, b, G, sh, e1, one, sle⟩
      · refine ⟨_, e1, ?_⟩
        cases c2 : w.wo with
        | true =>
          rw [key_w h c2, key_w h c2]
          show t.1 < t.1 + d
          omega
        | false =>
          rw [key_e h c2, key_e h c2]
          have v := read_valid h e1
          refine mono_lt h q v (out_gap h q (eg c2)) (out_gap h v (eg c2)) ?_ (by show t.1 < t.1 + d; omega)
          rcases hR with f | ⟨_, f⟩ | ⟨_, f⟩ | f
          · exact .inl (by rw [f]; simp)
          · exact .inl (by rw [f]; simp)
          · rw [c, c2] at f; cases f
          · exact .inr (f _)
      · refine ⟨_, e1, ?_⟩
        have v := read_valid h e1
        have := G.lt
        cases c2 : w.wo with
        | true =>
          rw [key_w h c2, key_w h c2]
          show t.1 < t.1 + d - b + a
          omega
        | false =>
          rw [key_e h c2, key_e h c2, inst_one h v one]
          have rt := inst_rd h q (out_gap h q (eg c2))
          have := gap_earlier h G (T := inst w z t) (by omega)
          omega
  unfold fMoved
  rcases main with m | ⟨a, e1, lt⟩
  · cases addT w z (some t) d with
    | none => simp [m]
    | some a => simp [m]
  · rw [e1]
    show (decide (d ≤ 0) || decide (cmp (key w z t) (key w z a) = -1)) = true
    rw [decide_eq_true (cmp_lt.mpr lt), Bool.or_true]
theorem order_some {a b : Tm} : order w z (some a) (some b) = some (cmp (key w z a) (key w z b)) := rfl
theorem r_kept {t u : Tm} (qt : IsTm w z t) (qu : IsTm w z u) (d : Int) (hS : (w.ws = true ∧ w.wo = true ∧ w.gap = .keep) ∨ (w.ws = false ∧ (w.wo = false ∨ w.gap ≠ .keep)) ∨ NoGap z)
    (hR : (w.ws = true ∧ (w.fold = .first ∨ w.fold = .second)) ∨ (w.ws = true ∧ w.fold = .both ∧ w.wo = true) ∨ (w.ws = false ∧ w.fold = .both ∧ w.wo = false) ∨ NoFold z) : fTwo w z .kept t u d = true := by
  unfold fTwo
  refine imp_b h fun e => ?_
  rw [cmp_lt] at e
  cases c : w.ws with
  | false =>
    rw [add_e h c, add_e h c]
    cases c2 : w.wo with
    | false =>
      have cc : ∀ T, w.fold = .both ∨ (insts z (T + off z T)).length ≠ 2 := fun T => by
        rcases hR with ⟨f, _⟩ | ⟨f, _⟩ | ⟨_, f, _⟩ | f
        · rw [c] at f; cases f
        · rw [c] at f; cases f
        · exact .inl f
        · exact .inr (f _)
      obtain ⟨a, e1, i1, _⟩ := inst_at (w := w) h (T := inst w z t + d) (cc _)
      obtain ⟨b, e2, i2, _⟩ := inst_at (w := w) h (T := inst w z u + d) (cc _)
      rw [key_e h c2, key_e h c2] at e
      rw [e1, e2, order_some h, key_e h c2, key_e h c2, i1, i2, cmp_lt.mpr (by omega)]
    | true =>
      have nf : NoFold z := by
        rcases hR with ⟨f, _⟩ | ⟨f, _⟩ | ⟨_, _, f⟩ | f
        · rw [c] at f; cases f
        · rw [c] at f; cases f
        · rw [c2] at f; cases f
        · exact f
      have g : w.gap ≠ .keep ∨ NoGap z := by
        rcases hS with ⟨f, _⟩ | ⟨_, f⟩ | f
        · rw [c] at f; cases f
        · rcases f with f | f
          · rw [c2] at f; cases f
          · exact .inl f
        · exact .inr f
      rw [key_w h c2, key_w h c2] at e
      have lt := mono_lt h qt qu (out_gap h qt g) (out_gap h qu g) (.inr (nf _)) e
      obtain ⟨a, e1, _, r1, _⟩ := at_told (w := w) h (inst w z t + d) (.inr nf)
      obtain ⟨b, e2, _, r2, _⟩ := at_told (w := w) h (inst w z u + d) (.inr nf)
      have := nofold_lt h nf (X := inst w z t + d) (Y := inst w z u + d) (by omega)
      rw [e1, e2, order_some h, key_w h c2, key_w h c2, cmp_lt.mpr (by omega)]
  | true =>
    have nr : w.fold ≠ .refuse ∨ NoFold z := by
      rcases hR with ⟨_, f | f⟩ | ⟨_, f, _⟩ | ⟨_, f, _⟩ | f
      · exact .inl (by rw [f]; simp)
      · exact .inl (by rw [f]; simp)
      · exact .inl (by rw [f]; simp)
      · exact .inl (by rw [f]; simp)
      · exact .inr f
    have kp : ∀ rd, insts z rd = [] → w.gap = .keep := fun rd e => by
      rcases hS with ⟨_, _, q⟩ | ⟨q, _⟩ | q
      · exact q
      · rw [c] at q; cases q
      · exact (q _ e).elim
    have e1 := read_plain (w := w) h (rd := t.1 + d) (kp _) nr
    have e2 := read_plain (w := w) h (rd := u.1 + d) (kp _) nr
    rw [add_w h c, add_w h c, e1, e2, order_some h]
    cases c2 : w.wo with
    | true =>
      rw [key_w h c2, key_w h c2] at e
      rw [key_w h c2, key_w h c2, cmp_lt.mpr (by show t.1 + d < u.1 + d; omega)]
    | false =>
      have ng : NoGap z := by
        rcases hS with ⟨_, f, _⟩ | ⟨f, _⟩ | f
        · rw [c2] at f; cases f
        · rw [c] at f; cases f
        · exact f
      have cf : w.fold ≠ .both ∨ NoFold z := by
        rcases hR with ⟨_, f | f⟩ | ⟨_, _, f⟩ | ⟨f, _⟩ | f
        · exact .inl (by rw [f]; simp)
        · exact .inl (by rw [f]; simp)
        · rw [c2] at f; cases f
        · rw [c] at f; cases f
        · exact .inr f
      rw [key_e h c2, key_e h c2] at e
      have lt := (mono_iff h qt qu (ng _) (ng _) cf).2 e
      have := mono_lt h (read_valid h e1) (read_valid h e2) (ng _) (ng _) (cf.imp id fun q => q _) (by show t.1 + d < u.1 + d; omega)
      rw [key_e h c2, key_e h c2, cmp_lt.mpr this]
theorem r_eqSums {t u : Tm} (qt : IsTm w z t) (qu : IsTm w z u) (d : Int) (hS : w.ws = false ∨ w.gap = .shift ∨ (w.gap = .keep ∧ w.wo = true) ∨ NoGap z)
    (hR : (w.fold = .first ∨ w.fold = .second) ∨ (w.fold = .both ∧ (w.ws = true ∨ w.wo = false)) ∨ NoFold z) : fTwo w z .eqSums t u d = true := by
  unfold fTwo
  refine imp_b h fun e => ?_
  rw [cmp_eq] at e
  have nr : w.fold ≠ .refuse ∨ NoFold z := by
    rcases hR with (f | f) | ⟨f, _⟩ | f
    · exact .inl (by rw [f]; simp)
    · exact .inl (by rw [f]; simp)
    · exact .inl (by rw [f]; simp)
    · exact .inr f
  have fin : ∀ o : Option Tm, o.isSome = true → order w z o o = some 0 := fun o ho => by
    cases o with
    | none => cases ho
    | some a => rw [order_some h, cmp_eq.mpr rfl]
  cases c : w.ws with
  | false =>
    have same : addT w z (some t) d = addT w z (some u) d := by
      rw [add_e h c, add_e h c]
      cases c2 : w.wo with
      | false =>
        rw [key_e h c2, key_e h c2] at e
        rw [e]
      | true =>
        rw [key_w h c2, key_w h c2] at e
        have cf : w.fold ≠ .both ∨ (insts z t.1).length ≠ 2 := by
          rcases hR with (f | f) | ⟨_, f⟩ | f
          · exact .inl (by rw [f]; simp)
          · exact .inl (by rw [f]; simp)
          · rcases f with f | f
            · rw [c] at f; cases f
            · rw [c2] at f; cases f
          · exact .inr (f _)
        rw [tm_eq h qt qu cf e]
    rw [same]
    refine fin _ ?_
    obtain ⟨a, e1, _⟩ := at_told (w := w) h (inst w z u + d) nr
    rw [add_e h c, e1]
    rfl
  | true =>
    have rd : t.1 = u.1 := by
      cases c2 : w.wo with
      | true =>
        rw [key_w h c2, key_w h c2] at e
        exact e
      | false =>
        have g : w.gap ≠ .keep ∨ NoGap z := by
          rcases hS with f | f | ⟨_, f⟩ | f
          · rw [c] at f; cases f
          · exact .inl (by rw [f]; simp)
          · rw [c2] at f; cases f
          · exact .inr f
        rw [key_e h c2, key_e h c2] at e
        have r1 := inst_rd h qt (out_gap h qt g)
        have r2 := inst_rd h qu (out_gap h qu g)
        rw [← r1, ← r2, e]
    have cg : w.gap ≠ .refuse ∨ NoGap z := by
      rcases hS with f | f | ⟨f, _⟩ | f
      · rw [c] at f; cases f
      · exact .inl (by rw [f]; simp)
      · exact .inl (by rw [f]; simp)
      · exact .inr f
    rw [add_w h c, add_w h c, rd]
    refine fin _ ?_
    rcases read_told h (u.1 + d) cg nr with ⟨e1, _⟩ | ⟨_, _, _, _, _, e1, _⟩ <;> rw [e1] <;> rfl
end
/-! ### all rules -/
/-- a rule that holds for a kind holds in each of its zones -/
structure Holds (w : Way) (z : Zone) (r : Rule) : Prop where
  sk : (met w r).1 = true ∨ NoGap z
  re : (met w r).2 = true ∨ NoFold z
section
variable {w : Way} {z : Zone} (h : OkZ z)
include h
theorem all_T (T : Int) (H : Holds w z .fromU) : fFrom w z T = true := by
  refine r_from h T (H.re.imp (fun q => ?_) id)
  simpa [met] using q
theorem all_rd {r : Rule} (c : r = .every ∨ r = .someR) (rd : Int) (H : Holds w z r) : (if r = .every then fEvery w z rd else fSome w z rd) = true := by
  rcases c with rfl | rfl
  · refine r_every h rd (H.sk.imp (fun q => ?_) id) (H.re.imp (fun q => ?_) id) <;> simpa [met] using q
  · refine r_some h rd (H.sk.imp (fun q => ?_) id) (H.re.imp (fun q => ?_) id) <;> simpa [met] using q
theorem all_t {r : Rule} (c : r = .toU ∨ r = .same) {t : Tm} (q : IsTm w z t) (H : Holds w z r) : (if r = .toU then fTo w z t else fSame w z t) = true := by
  rcases c with rfl | rfl
  · refine r_to h q (H.sk.imp (fun q => ?_) id)
    simpa [met] using q
  · refine r_same h q (H.sk.imp (fun q => ?_) id) (H.re.imp (fun q => ?_) id) <;> simpa [met] using q
theorem all_moved {r : Rule} (c : r = .there ∨ r = .sumD ∨ r = .elapsed ∨ r = .later ∨ r = .told) {t : Tm} (q : IsTm w z t) (d e : Int) (H : Holds w z r) : fMoved w z r t d e = true := by
  obtain ⟨s, g⟩ := H
  rcases c with rfl | rfl | rfl | rfl | rfl
  · refine r_there h q d e ?_ ?_
    · rcases s with s | s
      · unfold met at s
        simp only [beq_iff_eq] at s
        cases c : w.ws with
        | true => rw [c] at s; exact .inl ⟨rfl, of_decide_eq_true s.symm⟩
        | false => rw [c] at s; exact .inr (.inl ⟨rfl, of_decide_eq_false s.symm⟩)
      · exact .inr (.inr s)
    · rcases g with g | g
      · unfold met at g
        cases c : w.ws with
        | true => simp [c] at g; exact .inl ⟨rfl, g⟩
        | false => simp [c] at g; exact .inr (.inl ⟨rfl, g⟩)
      · exact .inr (.inr g)
  · refine r_sum h q d e ?_ ?_
    · rcases s with s | s
      · simp [met] at s
        exact s.imp id .inl
      · exact .inr (.inr s)
    · rcases g with g | g
      · unfold met at g
        cases c : w.ws with
        | true => simp [c] at g; exact .inl ⟨rfl, g⟩
        | false => simp [c] at g; exact .inr (.inl ⟨rfl, g⟩)
      · exact .inr (.inr g)
  · refine r_elapsed h q d e (s.imp (fun q => ?_) id) (g.imp (fun q => ?_) id)
    · simpa [met] using q
    · simp [met] at q
      exact ⟨q.2, q.1⟩
  · refine r_later h q d e ?_ ?_
    · rcases s with s | s
      · simp [met] at s
        rcases s with s | s | s
        · exact .inl s
        · exact .inr (.inl s)
        · exact .inr (.inr (.inl s))
      · exact .inr (.inr (.inr s))
    · rcases g with g | g
      · simp [met] at g
        rcases g with g | g | g
        · exact .inl g
        · exact .inr (.inl g)
        · exact .inr (.inr (.inl g))
      · exact .inr (.inr (.inr g))
  · refine r_told h q d e ?_ (g.imp (fun q => ?_) id)
    · rcases s with s | s
      · simp [met] at s
        exact s.imp id .inl
      · exact .inr (.inr s)
    · simpa [met] using q
theorem all_two {r : Rule} (c : r = .diff ∨ r = .ordDiff ∨ r = .eqOne ∨ r = .oneEq ∨ r = .oneOne ∨ r = .ordInst ∨ r = .kept ∨ r = .eqSums) {t u : Tm} (qt : IsTm w z t) (qu : IsTm w z u) (d : Int) (H : Holds w z r) : fTwo w z r t u d = true := by
  obtain ⟨s, g⟩ := H
  rcases c with rfl | rfl | rfl | rfl | rfl | rfl | rfl | rfl
  · refine r_diff h qt qu d ?_ ?_
    · rcases s with s | s
      · simp [met] at s
        exact s.imp id .inl
      · exact .inr (.inr s)
    · rcases g with g | g
      · simp [met] at g
        exact g.imp id .inl
      · exact .inr (.inr g)
  · refine r_ordDiff h qt qu d ?_ ?_
    · rcases s with s | s
      · simp [met] at s
        exact s.imp id .inl
      · exact .inr (.inr s)
    · rcases g with g | g
      · simp [met] at g
        exact g.imp id .inl
      · exact .inr (.inr g)
  · refine r_eqOne h qt qu d ?_
    rcases g with g | g
    · simp [met] at g
      exact g.imp id .inl
    · exact .inr (.inr g)
  · refine r_oneEq h qt qu d ?_
    rcases s with s | s
    · simp [met] at s
      exact s.imp id .inl
    · exact .inr (.inr s)
  · refine r_oneOne h qt qu d (s.imp (fun q => ?_) id)
    simpa [met] using q
  · refine r_ordInst h qt qu d ?_ ?_
    · rcases s with s | s
      · simp [met] at s
        exact s.imp id .inl
      · exact .inr (.inr s)
    · rcases g with g | g
      · simp [met] at g
        exact g.imp id .inl
      · exact .inr (.inr g)
  · refine r_kept h qt qu d ?_ ?_
    · rcases s with s | s
      · unfold met at s
        cases c : w.ws with
        | true => simp [c] at s; exact .inl ⟨rfl, s⟩
        | false => simp [c] at s; exact .inr (.inl ⟨rfl, s⟩)
      · exact .inr (.inr s)
    · rcases g with g | g
      · unfold met at g
        cases c : w.ws with
        | true =>
          simp [c] at g
          rcases g with g | g
          · exact .inl ⟨rfl, g⟩
          · exact .inr (.inl ⟨rfl, g⟩)
        | false => simp [c] at g; exact .inr (.inr (.inl ⟨rfl, g⟩))
      · exact .inr (.inr (.inr g))
  · refine r_eqSums h qt qu d ?_ ?_
    · rcases s with s | s
      · simp [met] at s
        rcases s with s | s | s
        · exact .inl s
        · exact .inr (.inl s)
        · exact .inr (.inr (.inl s))
      · exact .inr (.inr (.inr s))
    · rcases g with g | g
      · simp [met] at g
        rcases g with g | g
        · exact .inl g
        · exact .inr (.inl g)
      · exact .inr (.inr g)
end
local macro_rules | `(tactic| walk_at "m") => `(tactic| first
  | with_reducible refine g_m1 ?_
  | with_reducible refine g_isS ?_
  | with_reducible refine g_lcStr ?_
  | with_reducible refine g_join ?_
  | with_reducible refine g_js ?_
  | with_reducible refine g_jsN ?_
  | with_reducible refine g_fmt ?_
  | with_reducible refine g_callLam ?_
  | with_reducible refine g_revT ?_)

theorem g_dgetS {td ty : TE} {σ : St} {H : Hp} {Q : VK} (h : td σ H fun x H1 => ty σ H1 fun y H2 => ∃ a v, x = .ref a ∧ DGet H2 a y (some v) ∧ Q v H2) : tDGet td ty σ H Q := h
def allR : List Rule := [.fromU, .toU, .every, .someR, .there, .sumD, .elapsed, .same, .later, .told, .diff, .ordDiff, .eqOne, .oneEq, .oneOne, .ordInst, .kept, .eqSums]
theorem allR_mem (r : Rule) : r ∈ allR := by cases r <;> decide
theorem ruleS_inj {r q : Rule} (h : ruleS r = ruleS q) : r = q := by
  have a : (allR.all fun r => allR.all fun q => !decide (ruleS r = ruleS q) || decide (r = q)) = true := by decide +kernel
  have b := List.all_eq_true.mp (List.all_eq_true.mp a r (allR_mem r)) q (allR_mem q)
  rw [decide_eq_true h] at b
  exact of_decide_eq_true b
theorem rule_is {r : Rule} (q : Rule) (s : Str) (e : ruleS q = s) : decide (ruleS r = s) = decide (r = q) := by
  subst e
  exact decide_eq_decide.mpr ⟨ruleS_inj, fun h => by rw [h]⟩
/-- the words for the arguments of a rule -/
def shapeR : Rule → List Str
  | .fromU => ["instant"]
  | .toU => ["time"]
  | .every => ["reading"]
  | .someR => ["reading"]
  | .there => ["time", "duration"]
  | .sumD => ["time", "duration", "duration"]
  | .elapsed => ["time", "duration"]
  | .same => ["time"]
  | .later => ["time", "duration"]
  | .told => ["time", "duration"]
  | .kept => ["time", "time", "duration"]
  | .eqSums => ["time", "time", "duration"]
  | _ => ["time", "time"]
def RuleV (r : Rule) : V := .str (ruleS r)
/-! ### promises -/
def sp_law_rules (K : PySem.W.Frag) : Sp := fun vs H Q _ => vs = [] ∧ ∀ p H', H p = none → Ex H H' → H' p = some (.lst (allR.map RuleV)) → Q (.ref p) H'
def sp_law_shape (K : PySem.W.Frag) : Sp := fun vs H Q _ => ∃ r : Rule, vs = [.str (ruleS r)] ∧ ∀ p H', Ex H H' → SqT K H' p ((shapeR r).map V.str) → Q (.ref p) H'
def sp_law_met (K : PySem.W.Frag) : Sp := fun vs H Q _ => ∃ (wv : V) (w : Way) (r : Rule), vs = [wv, .str (ruleS r)] ∧ WayV K H wv w ∧ ∀ v H', Ex H H' → BP K H' v (met w r) → Q v H'
/-- whether a rule holds for a kind, by its conditions -/
def holdsB (w : Way) (kind : Str) (r : Rule) : Bool :=
  ((met w r).1 || (decide ("fixed" = kind) || (decide ("repeats" = kind) || false))) && ((met w r).2 || (decide ("fixed" = kind) || (decide ("skips" = kind) || false)))
def sp_law_holds (K : PySem.W.Frag) : Sp := fun vs H Q _ => ∃ (wv : V) (w : Way) (kind : Str) (r : Rule), vs = [wv, .str kind, .str (ruleS r)] ∧ WayV K H wv w ∧ ∀ H', Ex H H' → Q (.bl (holdsB w kind r)) H'
theorem mono_BP {K : PySem.W.Frag} {w : Way} : ∀ {H : Hp} (H' : Hp) (v : V) (r : Rule), TrT K H H' → BP K H v (met w r) → BP K H' v (met w r) := fun _ _ _ e h => h.tr e
/-! one store, two stores of the dict of conditions -/
section
variable {K : PySem.W.Frag} {w : Way} {D : Addr} {H0 H : Hp} {σ : St} {n : St → Hp → Prop} {rt : VK} {bk ct : St → Hp → Prop} {rs : List Rule} {ta tb tc td : TE}
abbrev MetAt (K : PySem.W.Frag) (w : Way) (H : Hp) (D : Addr) (rs : List Rule) : Prop := DictAt K ruleS (fun H' v r => BP K H' v (met w r)) H D rs
theorem met_put (r : Rule) {v : V} {R : Hp → Prop} (h : MetAt K w H D rs) (e0 : Ex H0 H) (n0 : H0 D = none) (no : r ∉ rs) (few : rs.length < 1000) (hv : BP K H v (met w r))
    (k : ∀ H', Ex H0 H' → Fr D H H' → MetAt K w H' D (rs ++ [r]) → R H') : rSetD (.ref D) (.str (ruleS r)) v H R :=
  DictAt.put h mono_BP (fun x hx e => no (ruleS_inj e ▸ hx)) few hv fun H' f d => k H' (ex_fr e0 n0 f) f d
theorem met_one (r : Rule) (h : MetAt K w H D rs) (e0 : Ex H0 H) (n0 : H0 D = none) (hD : σ[11]? = some (some (.ref D))) (no : r ∉ rs) (few : rs.length < 1000)
    (h1 : ∀ H, EvV ta σ H (.bl (met w r).1)) (h2 : ∀ H, EvV tb σ H (.bl (met w r).2)) (k : ∀ H', Ex H0 H' → MetAt K w H' D (rs ++ [r]) → n σ H') :
    tAsg (tTup (tCons ta (tCons tb tNil))) (gSub (tVar 11) (tC (.str (ruleS r))) rSetD) (Ends.mk n rt bk ct) σ H := by
  refine g_asg ?_
  refine g_pairB (h1 _) (h2 _) fun p H1 n1 e1 p1 => ?_
  refine g_sub ?_
  refine g_var hD ?_
  refine g_c ?_
  exact met_put r (h.tr e1 mono_BP) (e0.trans e1) n0 no few ⟨p, rfl, SqT.of p1⟩ fun H' e f d => k H' e d
theorem met_two (r q : Rule) (h : MetAt K w H D rs) (e0 : Ex H0 H) (n0 : H0 D = none) (hD : σ[11]? = some (some (.ref D))) (no : r ∉ rs) (no2 : q ∉ rs ++ [r]) (few : rs.length < 900)
    (h1 : ∀ H, EvV ta σ H (.bl (met w r).1)) (h2 : ∀ H, EvV tb σ H (.bl (met w r).2)) (h3 : ∀ H, EvV tc σ H (.bl (met w q).1)) (h4 : ∀ H, EvV td σ H (.bl (met w q).2))
    (k : ∀ H', Ex H0 H' → MetAt K w H' D ((rs ++ [r]) ++ [q]) → n σ H') :
    tAsg (tTup (tCons (tTup (tCons ta (tCons tb tNil))) (tCons (tTup (tCons tc (tCons td tNil))) tNil)))
      (gTup K 2 (gCons (gSub (tVar 11) (tC (.str (ruleS r))) rSetD) (gCons (gSub (tVar 11) (tC (.str (ruleS q))) rSetD) gNil))) (Ends.mk n rt bk ct) σ H := by
  refine g_asg ?_
  refine g_tup ?_
  refine g_cons ?_
  refine g_pairB (h1 _) (h2 _) fun p1 H1 n1 e1 q1 => ?_
  refine g_cons ?_
  refine g_pairB (h3 _) (h4 _) fun p2 H2 n2 e2 q2 => ?_
  refine g_nil ?_
  refine g_newT (by simp) fun p3 H3 n3 e3 q3 => ?_
  refine g_gtup (SqT.of q3) rfl ?_
  have e03 : Ex H H3 := (e1.trans e2).trans e3
  refine g_gcons ?_
  refine g_sub ?_
  refine g_var hD ?_
  refine g_c ?_
  refine met_put r (h.tr e03 mono_BP) (e0.trans e03) n0 no (by omega) ⟨p1, rfl, SqT.of (e3 _ _ (e2 _ _ q1))⟩ fun H4 e4 f4 d4 => ?_
  refine g_gcons ?_
  refine g_sub ?_
  refine g_var hD ?_
  refine g_c ?_
  have tr : TrT K H3 H4 := DictAt.trT (h.tr e03 mono_BP) f4
  refine met_put q d4 e4 n0 no2 (by rw [List.length_append]; simp; omega) ⟨p2, rfl, tr _ _ (SqT.of (e3 _ _ q2))⟩ fun H5 e5 f5 d5 => ?_
  exact g_gnil (k H5 e5 d5)
end
theorem sum_eq (a b : Bool) : decide (sumS a = sumS b) = (a == b) := by cases a <;> cases b <;> decide +kernel
theorem fold_plain (f : Fold) : inV (.str (foldS f)) [.str "first", .str "second"] = (decide (f = .first) || decide (f = .second)) := by cases f <;> decide +kernel
/-- the slots of the conditions' def, while the dict is filled -/
structure MS (w : Way) (r : Rule) (D : Addr) (σ : St) : Prop where
  s1 : σ[1]? = some (some (.str (ruleS r)))
  s2 : σ[2]? = some (some (.bl w.ws))
  s3 : σ[3]? = some (some (.bl w.wo))
  s4 : σ[4]? = some (some (.str (gapS w.gap)))
  s5 : σ[5]? = some (some (.str (foldS w.fold)))
  s6 : σ[6]? = some (some (.bl (decide (w.gap = .keep))))
  s7 : σ[7]? = some (some (.bl (decide (w.fold = .both))))
  s8 : σ[8]? = some (some (.bl (w.ws == w.wo)))
  s9 : σ[9]? = some (some (.bl (!decide (w.fold = .refuse))))
  s10 : σ[10]? = some (some (.bl (decide (w.fold = .first) || decide (w.fold = .second))))
  s11 : σ[11]? = some (some (.ref D))
  len : 13 < σ.length
theorem MS.put {w : Way} {r : Rule} {D : Addr} {σ : St} {j : Nat} {v : Option V} (hj : 11 < j) (s : MS w r D σ) : MS w r D (σ.set j v) := by
  have q : ∀ i, i ≤ 11 → (σ.set j v)[i]? = σ[i]? := fun i hi => List.getElem?_set_ne (by omega)
  exact ⟨by rw [q _ (by decide)]; exact s.s1, by rw [q _ (by decide)]; exact s.s2, by rw [q _ (by decide)]; exact s.s3, by rw [q _ (by decide)]; exact s.s4, by rw [q _ (by decide)]; exact s.s5,
    by rw [q _ (by decide)]; exact s.s6, by rw [q _ (by decide)]; exact s.s7, by rw [q _ (by decide)]; exact s.s8, by rw [q _ (by decide)]; exact s.s9, by rw [q _ (by decide)]; exact s.s10, by rw [q _ (by decide)]; exact s.s11,
    by rw [List.length_set]; exact s.len⟩
theorem slot_put {σ : St} {j : Nat} {v : Option V} (h : j < σ.length) : (σ.set j v)[j]? = some v := by
  rw [List.getElem?_set_self h]
theorem slot_keep {σ : St} {i j : Nat} {v : Option V} {x : Option (Option V)} (h : σ[i]? = x) (ne : j ≠ i) : (σ.set j v)[i]? = x := by
  rw [List.getElem?_set_ne ne]
  exact h
theorem slots (P : St → Prop) {n : St → Hp → Prop} {σ : St} {H : Hp} (h : P σ) (k : ∀ σ', P σ' → n σ' H) : n σ H := k σ h
local macro_rules | `(tactic| walk_at "sl") => `(tactic| with_reducible (first
  | assumption
  | exact MS.s2 (by assumption)
  | exact MS.s3 (by assumption)
  | exact MS.s4 (by assumption)
  | exact MS.s5 (by assumption)
  | exact MS.s6 (by assumption)
  | exact MS.s7 (by assumption)
  | exact MS.s8 (by assumption)
  | exact MS.s9 (by assumption)
  | exact MS.s10 (by assumption)))
local macro_rules | `(tactic| walk_at "ee") => `(tactic| first
  | ((with_reducible apply evV_var); walk_at "sl")
  | with_reducible exact evV_c
  | ((with_reducible apply evV_not) <;> walk_at "ee")
  | ((with_reducible apply evV_or) <;> walk_at "ee")
  | ((with_reducible apply evV_and) <;> walk_at "ee")
  | ((with_reducible apply evV_if) <;> walk_at "ee")
  | ((with_reducible apply evK_B) <;> walk_at "ee")
  | ((with_reducible apply evK_test) <;> walk_at "ee")
  | ((with_reducible apply evK_not) <;> walk_at "ee")
  | ((with_reducible apply evV_eqB) <;> walk_at "ee")
  | ((with_reducible apply evV_eqS) <;> walk_at "ee")
  | ((with_reducible apply evV_neS) <;> walk_at "ee"))
local macro_rules | `(tactic| walk_at "ebm") => `(tactic| (apply evV_is; (focus walk_at "ee"); (simp only [met, gap_refuse, gap_shift, gap_keep, fold_first, fold_second, fold_both, fold_refuse])))
section
variable {P : Program} {w : World} {K : PySem.W.Frag} {mg : Str → Option Value} {base : Heap}
end
local macro_rules | `(tactic| walk_at "m") => `(tactic| first
  | with_reducible refine g_m1 ?_
  | with_reducible refine g_isS ?_
  | with_reducible refine g_lcStr ?_
  | with_reducible refine g_join ?_
  | with_reducible refine g_js ?_
  | with_reducible refine g_jsN ?_
  | with_reducible refine g_fmt ?_
  | with_reducible refine g_callLam ?_
  | with_reducible refine g_revT ?_)

/-! ### results stay near -/
section
variable {w : Way} {z : Zone} (h : OkZ z)
include h
theorem at_near {T : Int} {t : Tm} (e : at_ w z T = some t) : T - 15 ≤ t.1 ∧ t.1 ≤ T + 15 := by
  have q := (at_valid h e).2
  have := h.offs T
  omega
theorem read_near {rd : Int} {t : Tm} (e : read_ w z rd = some t) : rd - 30 ≤ t.1 ∧ t.1 ≤ rd + 30 := by
  unfold read_ at e
  have b : -15 ≤ before z rd ∧ before z rd ≤ 15 := h.offs _
  split at e
  next c =>
    cases hg : w.gap with
    | shift =>
      rw [hg] at e
      have := at_near h e
      omega
    | refuse => rw [hg] at e; cases e
    | keep =>
      rw [hg] at e
      cases e
      show rd - 30 ≤ rd ∧ rd ≤ rd + 30
      omega
  next c =>
    split at e
    · cases e
    · cases e
      show rd - 30 ≤ rd ∧ rd ≤ rd + 30
      omega
theorem add_near {t u : Tm} {d : Int} (q : IsTm w z t) (e : addT w z (some t) d = some u) : t.1 + d - 50 ≤ u.1 ∧ u.1 ≤ t.1 + d + 50 := by
  unfold addT at e
  simp only at e
  split at e
  · have := read_near h e
    omega
  · have := at_near h e
    have := inst_near h q
    omega
end
/-! ### promises -/
/-- the argument of a rule of one argument, and whether the rule holds for it -/
def OneOk (K : PySem.W.Frag) (H : Hp) (w : Way) (z : Zone) (xv : V) (b : Bool) : Rule → Prop
  | .fromU => ∃ T : Int, xv = .int T ∧ Sn T ∧ b = fFrom w z T
  | .every => ∃ T : Int, xv = .int T ∧ Sn T ∧ b = fEvery w z T
  | .someR => ∃ T : Int, xv = .int T ∧ Sn T ∧ b = fSome w z T
  | .toU => ∃ t : Tm, PV K H xv t ∧ IsTm w z t ∧ -1000000 ≤ t.1 ∧ t.1 ≤ 1000000 ∧ b = fTo w z t
  | .same => ∃ t : Tm, PV K H xv t ∧ IsTm w z t ∧ -1000000 ≤ t.1 ∧ t.1 ≤ 1000000 ∧ b = fSame w z t
  | _ => False
def sp_law_one (K : PySem.W.Frag) : Sp := fun vs H Q _ => ∃ (wv zv xv : V) (w : Way) (z : Zone) (r : Rule) (b : Bool), vs = [wv, zv, .str (ruleS r), xv] ∧ WayV K H wv w ∧ ZV K H zv z ∧ OkZ z ∧ OneOk K H w z xv b r ∧ ∀ H', Ex H H' → Q (.bl b) H'
def isMoved (r : Rule) : Prop := r = .there ∨ r = .sumD ∨ r = .elapsed ∨ r = .later ∨ r = .told
def isTwo (r : Rule) : Prop := r = .diff ∨ r = .ordDiff ∨ r = .eqOne ∨ r = .oneEq ∨ r = .oneOne ∨ r = .ordInst ∨ r = .kept ∨ r = .eqSums
def sp_law_moved (K : PySem.W.Frag) : Sp := fun vs H Q _ => ∃ (wv zv tv : V) (w : Way) (z : Zone) (r : Rule) (t : Tm) (d e : Int), vs = [wv, zv, .str (ruleS r), tv, .int d, .int e] ∧ isMoved r ∧ WayV K H wv w ∧ ZV K H zv z ∧ OkZ z ∧
  PV K H tv t ∧ IsTm w z t ∧ -1000000 ≤ t.1 ∧ t.1 ≤ 1000000 ∧ -10000 ≤ d ∧ d ≤ 10000 ∧ -10000 ≤ e ∧ e ≤ 10000 ∧ ∀ H', Ex H H' → Q (.bl (fMoved w z r t d e)) H'
def sp_law_two (K : PySem.W.Frag) : Sp := fun vs H Q _ => ∃ (wv zv tv uv dv : V) (w : Way) (z : Zone) (r : Rule) (t u : Tm) (d : Int), vs = [wv, zv, .str (ruleS r), tv, uv, dv] ∧ isTwo r ∧ WayV K H wv w ∧ ZV K H zv z ∧ OkZ z ∧
  PV K H tv t ∧ IsTm w z t ∧ -1000000 ≤ t.1 ∧ t.1 ≤ 1000000 ∧ PV K H uv u ∧ IsTm w z u ∧ -1000000 ≤ u.1 ∧ u.1 ≤ 1000000 ∧ (r = .kept ∨ r = .eqSums → dv = .int d ∧ -10000 ≤ d ∧ d ≤ 10000) ∧ ∀ H', Ex H H' → Q (.bl (fTwo w z r t u d)) H'
theorem ord_some {w : Way} {z : Zone} {t u : Tm} : ordV (order w z (some t) (some u)) = .int (cmp (key w z t) (key w z u)) := rfl
theorem g_eqO {H : Hp} {Q : VK} {o : Option Int} {j : Int} (h : Q (.bl (decide (o = some j))) H) : rEq (ordV o) (.int j) H Q := by
  cases o with
  | none => exact ⟨rfl, h⟩
  | some i =>
    refine g_eqI ?_
    rw [show decide (some i = some j) = decide (i = j) from decide_eq_decide.mpr ⟨fun e => Option.some.inj e, fun e => by rw [e]⟩] at h
    exact h
section
variable {P : Program} {w : World} {K : PySem.W.Frag} {mg : Str → Option Value} {base : Heap}
end
local macro_rules | `(tactic| walk_at "m") => `(tactic| first
  | with_reducible refine g_m1 ?_
  | with_reducible refine g_isS ?_
  | with_reducible refine g_lcStr ?_
  | with_reducible refine g_join ?_
  | with_reducible refine g_js ?_
  | with_reducible refine g_jsN ?_
  | with_reducible refine g_fmt ?_
  | with_reducible refine g_callLam ?_
  | with_reducible refine g_revT ?_)

/-- an argument of a rule: a number or a time -/
inductive It where
  | i (n : Int)
  | t (t : Tm)
def ItV (K : PySem.W.Frag) (H : Hp) (v : V) : It → Prop
  | .i n => v = .int n
  | .t t => PV K H v t
theorem ItV.tr {K : PySem.W.Frag} {H H' : Hp} {v : V} {a : It} (e : TrT K H H') (h : ItV K H v a) : ItV K H' v a := by
  cases a with
  | i n => exact h
  | t t => exact PV.tr e h
def ItOk (w : Way) (z : Zone) (word : Str) (a : It) : Prop :=
  (word = "time" ∧ ∃ t, a = .t t ∧ IsTm w z t ∧ -3000 ≤ t.1 ∧ t.1 ≤ 3000) ∨ (word = "duration" ∧ ∃ n, a = .i n ∧ -400 ≤ n ∧ n ≤ 400) ∨
  (word ≠ "time" ∧ word ≠ "duration" ∧ ∃ n, a = .i n ∧ -2000 ≤ n ∧ n ≤ 2000)
theorem ItOk.tm {w : Way} {z : Zone} {a : It} (h : ItOk w z "time" a) : ∃ t, a = .t t ∧ IsTm w z t ∧ -3000 ≤ t.1 ∧ t.1 ≤ 3000 := by
  rcases h with ⟨_, h⟩ | ⟨e, _⟩ | ⟨e, _⟩
  · exact h
  · exact absurd e (by decide +kernel)
  · exact absurd rfl e
theorem ItOk.du {w : Way} {z : Zone} {a : It} (h : ItOk w z "duration" a) : ∃ n, a = .i n ∧ -400 ≤ n ∧ n ≤ 400 := by
  rcases h with ⟨e, _⟩ | ⟨_, h⟩ | ⟨_, e, _⟩
  · exact absurd e (by decide +kernel)
  · exact h
  · exact absurd rfl e
theorem ItOk.nu {w : Way} {z : Zone} {a : It} {s : Str} (c : s ≠ "time") (h : ItOk w z s a) : ∃ n, a = .i n ∧ -2000 ≤ n ∧ n ≤ 2000 := by
  rcases h with ⟨e, _⟩ | ⟨_, n, e, b1, b2⟩ | ⟨_, _, h⟩
  · exact absurd e c
  · exact ⟨n, e, by omega, by omega⟩
  · exact h
theorem pd_self : ∀ ws : List Str, Paired (fun x d => x = V.str d) (ws.map V.str) ws
  | [] => .nil
  | w :: ws => .cons rfl (pd_self ws)
theorem pd_len {α β : Type} {F : α → β → Prop} : ∀ {xs : List α} {ys : List β}, Paired F xs ys → xs.length = ys.length
  | _, _, .nil => rfl
  | _, _, .cons _ t => by rw [List.length_cons, List.length_cons, pd_len t]
theorem shape_few (r : Rule) : (shapeR r).length ≤ 3 := by cases r <;> decide
/-- whether a rule holds for arguments -/
def fitsI (w : Way) (z : Zone) (r : Rule) : List It → Bool
  | [.i n] => (match r with | .fromU => fFrom w z n | .every => fEvery w z n | _ => fSome w z n)
  | [.t t] => (match r with | .toU => fTo w z t | _ => fSame w z t)
  | [.t t, .i d] => fMoved w z r t d d
  | [.t t, .i d, .i e] => fMoved w z r t d e
  | [.t t, .t u] => fTwo w z r t u 0
  | [.t t, .t u, .i d] => fTwo w z r t u d
  | _ => false
theorem args_inv {w : Way} {z : Zone} {r : Rule} {its : List It} (h : Paired (ItOk w z) (shapeR r) its) :
    ((r = .fromU ∨ r = .every ∨ r = .someR) ∧ (∃ s, shapeR r = [s]) ∧ ∃ n, its = [.i n] ∧ -2000 ≤ n ∧ n ≤ 2000) ∨
    ((r = .toU ∨ r = .same) ∧ (∃ s, shapeR r = [s]) ∧ ∃ t, its = [.t t] ∧ IsTm w z t ∧ -3000 ≤ t.1 ∧ t.1 ≤ 3000) ∨
    (isMoved r ∧ shapeR r = (["time", "duration"] : List Str) ∧ ∃ t d, its = [.t t, .i d] ∧ IsTm w z t ∧ -3000 ≤ t.1 ∧ t.1 ≤ 3000 ∧ -400 ≤ d ∧ d ≤ 400) ∨
    (isMoved r ∧ shapeR r = (["time", "duration", "duration"] : List Str) ∧ ∃ t d e, its = [.t t, .i d, .i e] ∧ IsTm w z t ∧ -3000 ≤ t.1 ∧ t.1 ≤ 3000 ∧ -400 ≤ d ∧ d ≤ 400 ∧ -400 ≤ e ∧ e ≤ 400) ∨
    ((isTwo r ∧ r ≠ .kept ∧ r ≠ .eqSums) ∧ shapeR r = (["time", "time"] : List Str) ∧ ∃ t u, its = [.t t, .t u] ∧ IsTm w z t ∧ -3000 ≤ t.1 ∧ t.1 ≤ 3000 ∧ IsTm w z u ∧ -3000 ≤ u.1 ∧ u.1 ≤ 3000) ∨
    (isTwo r ∧ shapeR r = (["time", "time", "duration"] : List Str) ∧ ∃ t u d, its = [.t t, .t u, .i d] ∧ IsTm w z t ∧ -3000 ≤ t.1 ∧ t.1 ≤ 3000 ∧ IsTm w z u ∧ -3000 ≤ u.1 ∧ u.1 ≤ 3000 ∧ -400 ≤ d ∧ d ≤ 400) := by
  have i1 : ∀ s : Str, s ≠ "time" → Paired (ItOk w z) [s] its → ∃ n, its = [.i n] ∧ -2000 ≤ n ∧ n ≤ 2000 := by
    rintro s c (_ | ⟨a, _ | _⟩)
    obtain ⟨n, rfl, b⟩ := a.nu c
    exact ⟨n, rfl, b⟩
  have i2 : Paired (ItOk w z) (["time"] : List Str) its → ∃ t, its = [.t t] ∧ IsTm w z t ∧ -3000 ≤ t.1 ∧ t.1 ≤ 3000 := by
    rintro (_ | ⟨a, _ | _⟩)
    obtain ⟨t, rfl, b⟩ := a.tm
    exact ⟨t, rfl, b⟩
  have i3 : Paired (ItOk w z) (["time", "duration"] : List Str) its → ∃ t d, its = [.t t, .i d] ∧ IsTm w z t ∧ -3000 ≤ t.1 ∧ t.1 ≤ 3000 ∧ -400 ≤ d ∧ d ≤ 400 := by
    rintro (_ | ⟨a, _ | ⟨b, _ | _⟩⟩)
    obtain ⟨t, rfl, t1, t2, t3⟩ := a.tm
    obtain ⟨d, rfl, d1, d2⟩ := b.du
    exact ⟨t, d, rfl, t1, t2, t3, d1, d2⟩
  have i4 : Paired (ItOk w z) (["time", "duration", "duration"] : List Str) its → ∃ t d e, its = [.t t, .i d, .i e] ∧ IsTm w z t ∧ -3000 ≤ t.1 ∧ t.1 ≤ 3000 ∧ -400 ≤ d ∧ d ≤ 400 ∧ -400 ≤ e ∧ e ≤ 400 := by
    rintro (_ | ⟨a, _ | ⟨b, _ | ⟨c, _ | _⟩⟩⟩)
    obtain ⟨t, rfl, t1, t2, t3⟩ := a.tm
    obtain ⟨d, rfl, d1, d2⟩ := b.du
    obtain ⟨e, rfl, e1, e2⟩ := c.du
    exact ⟨t, d, e, rfl, t1, t2, t3, d1, d2, e1, e2⟩
  have i5 : Paired (ItOk w z) (["time", "time"] : List Str) its → ∃ t u, its = [.t t, .t u] ∧ IsTm w z t ∧ -3000 ≤ t.1 ∧ t.1 ≤ 3000 ∧ IsTm w z u ∧ -3000 ≤ u.1 ∧ u.1 ≤ 3000 := by
    rintro (_ | ⟨a, _ | ⟨b, _ | _⟩⟩)
    obtain ⟨t, rfl, t1, t2, t3⟩ := a.tm
    obtain ⟨u, rfl, u1, u2, u3⟩ := b.tm
    exact ⟨t, u, rfl, t1, t2, t3, u1, u2, u3⟩
  have i6 : Paired (ItOk w z) (["time", "time", "duration"] : List Str) its → ∃ t u d, its = [.t t, .t u, .i d] ∧ IsTm w z t ∧ -3000 ≤ t.1 ∧ t.1 ≤ 3000 ∧ IsTm w z u ∧ -3000 ≤ u.1 ∧ u.1 ≤ 3000 ∧ -400 ≤ d ∧ d ≤ 400 := by
    rintro (_ | ⟨a, _ | ⟨b, _ | ⟨c, _ | _⟩⟩⟩)
    obtain ⟨t, rfl, t1, t2, t3⟩ := a.tm
    obtain ⟨u, rfl, u1, u2, u3⟩ := b.tm
    obtain ⟨d, rfl, d1, d2⟩ := c.du
    exact ⟨t, u, d, rfl, t1, t2, t3, u1, u2, u3, d1, d2⟩
  unfold isMoved isTwo
  cases r with
  | fromU => exact .inl ⟨by simp, ⟨_, rfl⟩, i1 _ (by decide +kernel) h⟩
  | every => exact .inl ⟨by simp, ⟨_, rfl⟩, i1 _ (by decide +kernel) h⟩
  | someR => exact .inl ⟨by simp, ⟨_, rfl⟩, i1 _ (by decide +kernel) h⟩
  | toU => exact .inr (.inl ⟨by simp, ⟨_, rfl⟩, i2 h⟩)
  | same => exact .inr (.inl ⟨by simp, ⟨_, rfl⟩, i2 h⟩)
  | sumD => exact .inr (.inr (.inr (.inl ⟨by simp, rfl, i4 h⟩)))
  | there => exact .inr (.inr (.inl ⟨by simp, rfl, i3 h⟩))
  | elapsed => exact .inr (.inr (.inl ⟨by simp, rfl, i3 h⟩))
  | later => exact .inr (.inr (.inl ⟨by simp, rfl, i3 h⟩))
  | told => exact .inr (.inr (.inl ⟨by simp, rfl, i3 h⟩))
  | kept => exact .inr (.inr (.inr (.inr (.inr ⟨by simp, rfl, i6 h⟩))))
  | eqSums => exact .inr (.inr (.inr (.inr (.inr ⟨by simp, rfl, i6 h⟩))))
  | diff => exact .inr (.inr (.inr (.inr (.inl ⟨by simp, rfl, i5 h⟩))))
  | ordDiff => exact .inr (.inr (.inr (.inr (.inl ⟨by simp, rfl, i5 h⟩))))
  | eqOne => exact .inr (.inr (.inr (.inr (.inl ⟨by simp, rfl, i5 h⟩))))
  | oneEq => exact .inr (.inr (.inr (.inr (.inl ⟨by simp, rfl, i5 h⟩))))
  | oneOne => exact .inr (.inr (.inr (.inr (.inl ⟨by simp, rfl, i5 h⟩))))
  | ordInst => exact .inr (.inr (.inr (.inr (.inl ⟨by simp, rfl, i5 h⟩))))
/-- a rule that holds holds for all arguments -/
theorem fits_all {w : Way} {z : Zone} {r : Rule} {its : List It} (hz : OkZ z) (H : Holds w z r) (p : Paired (ItOk w z) (shapeR r) its) : fitsI w z r its = true := by
  rcases args_inv p with ⟨c, _, n, rfl, _⟩ | ⟨c, _, t, rfl, q, _⟩ | ⟨c, _, t, d, rfl, q, _⟩ | ⟨c, _, t, d, e, rfl, q, _⟩ | ⟨⟨c, _⟩, _, t, u, rfl, q, _, _, q', _⟩ | ⟨c, _, t, u, d, rfl, q, _, _, q', _⟩
  · rcases c with rfl | rfl | rfl
    · exact all_T hz n H
    · exact all_rd hz (.inl rfl) n H
    · exact all_rd hz (.inr rfl) n H
  · rcases c with rfl | rfl
    · exact all_t hz (.inl rfl) q H
    · exact all_t hz (.inr rfl) q H
  · exact all_moved hz c q d d H
  · exact all_moved hz c q d e H
  · exact all_two hz c q q' 0 H
  · exact all_two hz c q q' d H
/-! ### promises -/
def sp_law_fits (K : PySem.W.Frag) : Sp := fun vs H Q _ => ∃ (wv zv : V) (w : Way) (z : Zone) (r : Rule) (p : Addr) (xs : List V) (its : List It), vs = [wv, zv, .str (ruleS r), .ref p] ∧ WayV K H wv w ∧ ZV K H zv z ∧ OkZ z ∧
  SqT K H p xs ∧ Paired (ItV K H) xs its ∧ Paired (ItOk w z) (shapeR r) its ∧ ∀ H', Ex H H' → Q (.bl (fitsI w z r its)) H'
def sp_law_arguments (K : PySem.W.Frag) : Sp := fun vs H Q _ => ∃ (ρ : Rw) (wv zv : V) (w : Way) (z : Zone) (r : Rule), vs = [.ref ρ.1, wv, zv, .str (ruleS r)] ∧ Row K H ρ ∧ WayV K H wv w ∧ ZV K H zv z ∧ OkZ z ∧
  ∀ p xs its H', Fr ρ.1 H H' → Row K H' ρ → SqT K H' p xs → Paired (ItV K H') xs its → Paired (ItOk w z) (shapeR r) its → Q (.ref p) H'
section
variable {P : Program} {w : World} {K : PySem.W.Frag} {mg : Str → Option Value} {base : Heap}
end
local macro_rules | `(tactic| walk_at "m") => `(tactic| first
  | with_reducible refine g_m1 ?_
  | with_reducible refine g_isS ?_
  | with_reducible refine g_lcStr ?_
  | with_reducible refine g_join ?_
  | with_reducible refine g_js ?_
  | with_reducible refine g_jsN ?_
  | with_reducible refine g_fmt ?_
  | with_reducible refine g_callLam ?_
  | with_reducible refine g_revT ?_)

/-! ### arguments as written -/
def ArgsV (K : PySem.W.Frag) (H : Hp) (v : V) (its : List It) : Prop := ∃ a xs, v = .ref a ∧ SqT K H a xs ∧ Paired (ItV K H) xs its
theorem ArgsV.tr {K : PySem.W.Frag} {H H' : Hp} {v : V} {its : List It} (e : TrT K H H') (h : ArgsV K H v its) : ArgsV K H' v its := by
  obtain ⟨a, xs, q, h, p⟩ := h
  exact ⟨a, xs, q, e _ _ h, L2.Paired.mapP p fun _ _ q => q.tr e⟩
def EvI (te : TE) (n : Int) : Prop := ∀ σ H (Q : VK), Q (.int n) H → te σ H Q
def EvT (K : PySem.W.Frag) (te : TE) (it : It) : Prop := ∀ σ H (Q : VK), (∀ v H', Ex H H' → ItV K H' v it → Q v H') → te σ H Q
def EvL (K : PySem.W.Frag) (ta : TA) (its : List It) : Prop := ∀ σ H (R : List V → Hp → Prop), (∀ xs H', Ex H H' → Paired (ItV K H') xs its → R xs H') → ta σ H R
section
variable {K : PySem.W.Frag} {ta tb : TE} {tr : TA} {a b n : Int} {it : It} {its : List It}
theorem evI_lit : EvI (tC (.int n)) n := fun _ _ _ q => q
theorem evI_neg : EvI (tUn (rU fun i => .int (-i)) (tC (.int n))) (-n) := fun _ _ _ q => ⟨n, rfl, q⟩
theorem evT_i (h : EvI ta n) : EvT K ta (.i n) := fun σ H Q q => h σ H Q (q _ _ (Evl.Ex.refl _) rfl)
theorem evT_t (h1 : EvI ta a) (h2 : EvI tb b) : EvT K (tTup (tCons ta (tCons tb tNil))) (.t (a, b)) := fun σ H Q q =>
  h1 σ H _ (h2 σ H _ (g_newT (by simp) fun p H' _ e h => q _ _ e ⟨p, rfl, SqT.of h⟩))
theorem evL_nil : EvL K tNil [] := fun σ H R q => q [] H (Evl.Ex.refl _) .nil
theorem evL_cons (h1 : EvT K ta it) (h2 : EvL K tr its) : EvL K (tCons ta tr) (it :: its) := fun σ H R q =>
  h1 σ H _ fun v H1 e1 hv => h2 σ H1 _ fun xs H2 e2 hx => q _ _ (e1.trans e2) (.cons (hv.tr (TrT.of e2)) hx)
theorem g_args {σ : St} {H : Hp} {Q : VK} (h : EvL K tr its) (few : its.length ≤ 1000) (k : ∀ v H', Ex H H' → ArgsV K H' v its → Q v H') : tTup tr σ H Q :=
  h σ H _ fun xs H1 e1 hx => g_newT (by rw [Paired.length hx]; omega) fun p H2 n2 e2 h2 => k _ _ (e1.trans e2) ⟨p, xs, rfl, SqT.of h2, L2.Paired.mapP hx fun _ _ q => q.tr (TrT.of e2)⟩
end
local macro_rules | `(tactic| walk_at "lt") => `(tactic| first
  | with_reducible exact evL_nil
  | with_reducible exact evI_lit
  | with_reducible exact evI_neg
  | ((with_reducible refine evL_cons ?_ ?_) <;> walk_at "lt")
  | ((with_reducible refine evT_t ?_ ?_) <;> walk_at "lt")
  | ((with_reducible refine evT_i ?_) <;> walk_at "lt"))
local macro_rules | `(tactic| walk_at "ar") => `(tactic| (refine g_args (its := ?its) ?ev ?few ?k; (case ev => walk_at "lt"); (case few => decide)))
/-- the told arguments in the zone that skips -/
def gapArgs (w : Way) : Rule → List It
  | .toU => [.t (0, 0)]
  | .every => [.i 0]
  | .someR => [.i 0]
  | .there => if w.ws then [.t (-1, 0), .i 1] else [.t (0, 0), .i 1]
  | .sumD => [.t (-1, 0), .i 1, .i 2]
  | .elapsed => [.t (-1, 0), .i 3]
  | .same => if w.ws then [.t (-24, 0)] else [.t (-1, 0)]
  | .later => if w.gap = .keep then [.t (1, 0), .i 1] else [.t (-1, 0), .i 1]
  | .told => [.t (-1, 0), .i 1]
  | .diff => [.t (-1, 0), .t (0, 0)]
  | .kept => if w.ws then [.t (-2, 0), .t (-1, 0), .i 3] else [.t (0, 0), .t (2, 0), .i 1]
  | .eqSums => if w.gap = .keep then [.t (0, 0), .t (2, 0), .i 2] else [.t (-1, 0), .t (-1, 0), .i 1]
  | _ => [.t (0, 0), .t (2, 0)]
def nearA : List It := [.t (-1, 0), .i 1]
def farA : List It := [.t (0, 0), .i (-4)]
/-- the told arguments in the zone that repeats -/
def foldArgs (w : Way) : Rule → List It
  | .fromU => if w.fold = .second then [.i (-2)] else [.i 0]
  | .every => [.i (-1)]
  | .someR => [.i (-1)]
  | .there => if w.ws then (if w.fold = .both then [.t (-1, 1), .i 1] else [.t (0, 0), .i (-1)]) else (if w.fold = .first then [.t (-1, 0), .i 1] else [.t (0, 0), .i (-4)])
  | .sumD => if w.ws then [.t (0, 0), .i (-1), .i 1] else (if w.fold = .first then [.t (-1, 0), .i 1, .i 3] else [.t (0, 0), .i (-4), .i 4])
  | .elapsed => if w.ws then [.t (-3, 0), .i 3] else (if w.fold = .first then [.t (-1, 0), .i 1] else [.t (0, 0), .i (-4)])
  | .same => if w.ws then [.t (-25, 0)] else [.t (-3, 0)]
  | .later => if w.fold = .refuse then [.t (-3, 0), .i 2] else (if w.ws then [.t (-2, 1), .i 1] else [.t (-1, 0), .i 1])
  | .told => [.t (-3, 0), .i 2]
  | .diff => [.t (-3, 0), .t (-1, 1)]
  | .kept => if w.ws then (if w.fold = .refuse then [.t (-4, 0), .t (-3, 0), .i 2] else [.t (-1, 0), .t (-2, 1), .i 1]) else [.t (-5, 0), .t (-4, 0), .i 4]
  | .eqSums => if w.fold = .refuse then [.t (-3, 0), .t (-3, 0), .i 2] else [.t (-1, 0), .t (-1, 1), .i 1]
  | _ => [.t (-1, 0), .t (-1, 1)]
def cexO (w : Way) (kind : Str) (r : Rule) : Option (Zone × List It) :=
  if (kind = "skips" ∨ kind = "both") ∧ (met w r).1 = false then some ((0, [(0, 2)]), gapArgs w r)
  else if (kind = "repeats" ∨ kind = "both") ∧ (met w r).2 = false then some ((0, [(0, -2)]), foldArgs w r) else none
def CexV (K : PySem.W.Frag) (H : Hp) (v : V) : Option (Zone × List It) → Prop
  | none => v = .non
  | some c => ∃ a zv av, v = .ref a ∧ SqT K H a [zv, av] ∧ ZV K H zv c.1 ∧ ArgsV K H av c.2
def isKind (kind : Str) : Prop := kind = "fixed" ∨ kind = "skips" ∨ kind = "repeats" ∨ kind = "both"
theorem opt_two {α : Type} {c d : Prop} [Decidable c] [Decidable d] (x y : α) : (if c then some x else if d then some y else none).isNone = (!decide c && !decide d) := by
  by_cases hc : c
  · rw [if_pos hc, decide_eq_true hc]
    rfl
  · rw [if_neg hc, decide_eq_false hc]
    by_cases hd : d
    · rw [if_pos hd, decide_eq_true hd]
      rfl
    · rw [if_neg hd, decide_eq_false hd]
      rfl
theorem cex_holds {w : Way} {kind : Str} {r : Rule} (h : isKind kind) : (cexO w kind r).isNone = holdsB w kind r := by
  unfold cexO holdsB
  rw [opt_two]
  generalize (met w r).1 = a
  generalize (met w r).2 = b
  rcases h with rfl | rfl | rfl | rfl <;> cases a <;> cases b <;> decide +kernel
/-! ### all libraries, one by one -/
def allWays : List Way := [false, true].flatMap fun a => [false, true].flatMap fun b => [Gap.keep, .refuse, .shift].flatMap fun g => [Fold.both, .first, .refuse, .second].map fun f => ⟨a, b, g, f⟩
theorem way_mem (w : Way) : w ∈ allWays := by
  obtain ⟨a, b, g, f⟩ := w
  cases a <;> cases b <;> cases g <;> cases f <;> decide
theorem way_all' {p : Way → Prop} [DecidablePred p] (h : (allWays.all fun w => decide (p w)) = true) : ∀ w, p w := fun w => of_decide_eq_true (List.all_eq_true.mp h w (way_mem w))
theorem way_all (p : Way → Prop) [DecidablePred p] (h : (allWays.all fun w => decide (p w)) = true) (w : Way) : p w := of_decide_eq_true (List.all_eq_true.mp h w (way_mem w))
section
variable {σ : St} {H : Hp} {Q : VK} {ta tb : TE} {tt : TT} {v : V}
theorem g_evO (h : EvV (tOrV ta tb) σ H v) (q : Q v H) : tOrV ta tb σ H Q := h Q q
theorem g_evA (h : EvV (tAndV ta tb) σ H v) (q : Q v H) : tAndV ta tb σ H Q := h Q q
theorem g_evF (h : EvV (tIf tt ta tb) σ H v) (q : Q v H) : tIf tt ta tb σ H Q := h Q q
end
theorem bl_is {Q : VK} {H : Hp} {a b : Bool} (e : b = a) (k : Q (.bl b) H) : Q (.bl a) H := e ▸ k
/-! ### promises -/
def sp_holds_over_gaps (K : PySem.W.Frag) : Sp := fun vs H Q _ => ∃ (wv : V) (w : Way) (r : Rule), vs = [wv, .str (ruleS r)] ∧ WayV K H wv w ∧ ∀ H', Ex H H' → Q (.bl (met w r).1) H'
def sp_holds_over_folds (K : PySem.W.Frag) : Sp := fun vs H Q _ => ∃ (wv : V) (w : Way) (r : Rule), vs = [wv, .str (ruleS r)] ∧ WayV K H wv w ∧ ∀ H', Ex H H' → Q (.bl (met w r).2) H'
def sp_arguments_in_gap (K : PySem.W.Frag) : Sp := fun vs H Q _ => ∃ (wv : V) (w : Way) (r : Rule), vs = [wv, .str (ruleS r)] ∧ WayV K H wv w ∧ (met w r).1 = false ∧ ∀ v H', Ex H H' → ArgsV K H' v (gapArgs w r) → Q v H'
def sp_arguments_in_fold (K : PySem.W.Frag) : Sp := fun vs H Q _ => ∃ (wv : V) (w : Way) (r : Rule), vs = [wv, .str (ruleS r)] ∧ WayV K H wv w ∧ (met w r).2 = false ∧ ∀ v H', Ex H H' → ArgsV K H' v (foldArgs w r) → Q v H'
def sideR (r : Rule) : Prop := r = .there ∨ r = .sumD ∨ r = .elapsed ∨ r = .same ∨ r = .later ∨ r = .kept
def sp_arguments_in_fold_for_wall_sums (K : PySem.W.Frag) : Sp := fun vs H Q _ => ∃ (w : Way) (r : Rule), vs = [.str (foldS w.fold), .str (ruleS r)] ∧ w.ws = true ∧ sideR r ∧ (r = .later → w.fold ≠ .refuse) ∧ ∀ v H', Ex H H' → ArgsV K H' v (foldArgs w r) → Q v H'
def sp_arguments_in_fold_for_elapsed_sums (K : PySem.W.Frag) : Sp := fun vs H Q _ => ∃ (w : Way) (r : Rule), vs = [.str (foldS w.fold), .str (ruleS r)] ∧ w.ws = false ∧ sideR r ∧ (r = .later → w.fold ≠ .refuse) ∧ ∀ v H', Ex H H' → ArgsV K H' v (foldArgs w r) → Q v H'
def sp_check_kind (K : PySem.W.Frag) : Sp := fun vs H Q _ => ∃ kind : Str, vs = [.str kind] ∧ isKind kind ∧ Q .non H
def sp_is_rule (K : PySem.W.Frag) : Sp := fun vs H Q _ => ∃ r : Rule, vs = [.str (ruleS r)] ∧ Q (.bl true) H
def sp_check_rule (K : PySem.W.Frag) : Sp := fun vs H Q _ => ∃ r : Rule, vs = [.str (ruleS r)] ∧ Q .non H
def sp_counterexample (K : PySem.W.Frag) : Sp := fun vs H Q _ => ∃ (wv : V) (w : Way) (kind : Str) (r : Rule), vs = [wv, .str kind, .str (ruleS r)] ∧ WayV K H wv w ∧ isKind kind ∧ ∀ v H', Ex H H' → CexV K H' v (cexO w kind r) → Q v H'
def sp_holds (K : PySem.W.Frag) : Sp := fun vs H Q _ => ∃ (wv : V) (w : Way) (kind : Str) (r : Rule), vs = [wv, .str kind, .str (ruleS r)] ∧ WayV K H wv w ∧ isKind kind ∧ ∀ H', Ex H H' → Q (.bl (holdsB w kind r)) H'
section
variable {P : Program} {w : World} {K : PySem.W.Frag} {mg : Str → Option Value} {base : Heap}
theorem ok_holds_over_gaps (T : Txt w K mg) : FnOk P w K mg base CX0 1 T.f_holds_over_gaps.f T.f_holds_over_gaps.fd ["library", "rule"] (sp_holds_over_gaps K) := by
  refine T.f_holds_over_gaps.F.ok sc_holds_over_gaps (fun vs H Q E h => ?_) (fun cdv A outer s H vs Q E hr h => ?_)
  · obtain ⟨wv, w, r, rfl, _⟩ := h
    rfl
  obtain ⟨wv, w, r, rfl, ⟨a, rfl, hw⟩, k0⟩ := h
  refine ⟨(tSeq (tAsg (tVar 0) (gTup K 4 (gCons (gName 2) (gCons (gName 3) (gCons (gName 4) (gCons (gName 5) gNil)))))) (tMatch (tVar 1) [(["from universal and back", "equal means one instant"], (tRet (tC (.bl true)))), (["to universal and back", "one instant, one time"], (tRet (tOp rNe (tVar 4) (tC (.str "keep"))))), (["every reading"], (tRet (tOp rEq (tVar 4) (tC (.str "keep"))))), (["some reading"], (tRet (tOp rNe (tVar 4) (tC (.str "refuse"))))), (["there and back"], (tRet (tIf (tTest (tOp rEq (tVar 2) (tC (.str "wall")))) (tOp rEq (tVar 4) (tC (.str "keep"))) (tOp rNe (tVar 4) (tC (.str "keep")))))), (["sum of durations"], (tRet (tOrV (tOp rEq (tVar 2) (tC (.str "elapsed"))) (tOp rEq (tVar 4) (tC (.str "keep")))))), (["elapsed time"], (tRet (tOp rEq (tVar 2) (tC (.str "elapsed"))))), (["same clock"], (tRet (tAndV (tOp rEq (tVar 2) (tC (.str "wall"))) (tOp rEq (tVar 4) (tC (.str "keep")))))), (["later", "equal sums"], (tRet (tOrV (tOp rEq (tVar 2) (tC (.str "elapsed"))) (tOrV (tOp rEq (tVar 4) (tC (.str "shift"))) (tAndV (tOp rEq (tVar 4) (tC (.str "keep"))) (tOp rEq (tVar 3) (tC (.str "wall")))))))), (["sums told"], (tRet (tOrV (tOp rEq (tVar 2) (tC (.str "elapsed"))) (tOp rNe (tVar 4) (tC (.str "refuse")))))), (["difference recovers"], (tRet (tOrV (tOp rEq (tVar 2) (tC (.str "wall"))) (tOp rNe (tVar 4) (tC (.str "keep")))))), (["order by difference"], (tRet (tOrV (tOp rEq (tVar 2) (tVar 3)) (tOp rNe (tVar 4) (tC (.str "keep")))))), (["one instant means equal", "order of instants"], (tRet (tOrV (tOp rEq (tVar 3) (tC (.str "elapsed"))) (tOp rNe (tVar 4) (tC (.str "keep")))))), (["order kept"], (tSeq (tIfS (tTest (tOp rEq (tVar 2) (tC (.str "wall")))) (tRet (tAndV (tOp rEq (tVar 3) (tC (.str "wall"))) (tOp rEq (tVar 4) (tC (.str "keep"))))) tNext) (tRet (tOrV (tOp rEq (tVar 3) (tC (.str "elapsed"))) (tOp rNe (tVar 4) (tC (.str "keep")))))))])),
    PSs.nox (pss_cons (ps_asg (pv 0) (pg_tup rfl (pgs_cons (pg_name (i := 2) sc_holds_over_gaps.nd rfl (Or.inl rfl)) (pgs_cons (pg_name (i := 3) sc_holds_over_gaps.nd rfl (Or.inl rfl)) (pgs_cons (pg_name (i := 4) sc_holds_over_gaps.nd rfl (Or.inl rfl)) (pgs_cons (pg_name (i := 5) sc_holds_over_gaps.nd rfl (Or.inl rfl)) pgs_nil)))))) (pss_one (ps_match (pv 1) (pcs_cons (pat_or (por_cons pat_str (por_cons pat_str por_nil))) (pss_one (ps_ret pe_bl)) (pcs_cons (pat_or (por_cons pat_str (por_cons pat_str por_nil))) (pss_one (ps_ret (pe_cmpR op_ne (pv 4) pe_str (nomark _)))) (pcs_cons pat_str (pss_one (ps_ret (pe_cmpR op_eq (pv 4) pe_str (nomark _)))) (pcs_cons pat_str (pss_one (ps_ret (pe_cmpR op_ne (pv 4) pe_str (nomark _)))) (pcs_cons pat_str (pss_one (ps_ret (pe_ifExp (pt_cmpR op_eq (pv 2) pe_str (nomark _)) (pe_cmpR op_eq (pv 4) pe_str (nomark _)) (pe_cmpR op_ne (pv 4) pe_str (nomark _))))) (pcs_cons pat_str (pss_one (ps_ret (pe_or (pe_cmpR op_eq (pv 2) pe_str (nomark _)) (pe_one (pe_cmpR op_eq (pv 4) pe_str (nomark _)))))) (pcs_cons pat_str (pss_one (ps_ret (pe_cmpR op_eq (pv 2) pe_str (nomark _)))) (pcs_cons pat_str (pss_one (ps_ret (pe_and (pe_cmpR op_eq (pv 2) pe_str (nomark _)) (pe_one (pe_cmpR op_eq (pv 4) pe_str (nomark _)))))) (pcs_cons (pat_or (por_cons pat_str (por_cons pat_str por_nil))) (pss_one (ps_ret (pe_or (pe_cmpR op_eq (pv 2) pe_str (nomark _)) (pe_or (pe_cmpR op_eq (pv 4) pe_str (nomark _)) (pe_one (pe_and (pe_cmpR op_eq (pv 4) pe_str (nomark _)) (pe_one (pe_cmpR op_eq (pv 3) pe_str (nomark _))))))))) (pcs_cons pat_str (pss_one (ps_ret (pe_or (pe_cmpR op_eq (pv 2) pe_str (nomark _)) (pe_one (pe_cmpR op_ne (pv 4) pe_str (nomark _)))))) (pcs_cons pat_str (pss_one (ps_ret (pe_or (pe_cmpR op_eq (pv 2) pe_str (nomark _)) (pe_one (pe_cmpR op_ne (pv 4) pe_str (nomark _)))))) (pcs_cons pat_str (pss_one (ps_ret (pe_or (pe_cmpR op_eq (pv 2) (pv 3) (nomark _)) (pe_one (pe_cmpR op_ne (pv 4) pe_str (nomark _)))))) (pcs_cons (pat_or (por_cons pat_str (por_cons pat_str por_nil))) (pss_one (ps_ret (pe_or (pe_cmpR op_eq (pv 3) pe_str (nomark _)) (pe_one (pe_cmpR op_ne (pv 4) pe_str (nomark _)))))) (pcs_cons pat_str (pss_cons (ps_if (pt_cmpR op_eq (pv 2) pe_str (nomark _)) (pss_one (ps_ret (pe_and (pe_cmpR op_eq (pv 3) pe_str (nomark _)) (pe_one (pe_cmpR op_eq (pv 4) pe_str (nomark _)))))) pss_nil) (pss_one (ps_ret (pe_or (pe_cmpR op_eq (pv 3) pe_str (nomark _)) (pe_one (pe_cmpR op_ne (pv 4) pe_str (nomark _))))))) pcs_nil))))))))))))))))), ?_⟩
  have k := k0 _ (Evl.Ex.refl _)
  walk_at "qq"
  cases r <;> walk_at "mm"
  all_goals
    first
    | with_reducible exact k
    | (with_reducible refine bl_is ?_ k
       clear hw k k0
       revert w
       exact way_all' (by decide +kernel))
    | (with_reducible apply g_evO
       walk_at "eb"
       with_reducible refine bl_is ?_ k
       clear hw k k0
       revert w
       exact way_all' (by decide +kernel))
    | (with_reducible apply g_evA
       walk_at "eb"
       with_reducible refine bl_is ?_ k
       clear hw k k0
       revert w
       exact way_all' (by decide +kernel))
    | (with_reducible apply g_evF
       walk_at "eb"
       with_reducible refine bl_is ?_ k
       clear hw k k0
       revert w
       exact way_all' (by decide +kernel))
    | skip
  with_reducible refine g_ifS ?_
  walk_at "mm"
  rw [sum_wall]
  cases hs : w.ws with
  | true =>
    walk_at "mm"
    with_reducible apply g_evA
    walk_at "eb"
    refine bl_is ?_ k
    clear hw k k0
    revert w
    exact way_all' (by decide +kernel)
  | false =>
    walk_at "mm"
    with_reducible apply g_evO
    walk_at "eb"
    refine bl_is ?_ k
    clear hw k k0
    revert w
    exact way_all' (by decide +kernel)
theorem ok_holds_over_folds (T : Txt w K mg) : FnOk P w K mg base CX0 1 T.f_holds_over_folds.f T.f_holds_over_folds.fd ["library", "rule"] (sp_holds_over_folds K) := by
  refine T.f_holds_over_folds.F.ok sc_holds_over_folds (fun vs H Q E h => ?_) (fun cdv A outer s H vs Q E hr h => ?_)
  · obtain ⟨wv, w, r, rfl, _⟩ := h
    rfl
  obtain ⟨wv, w, r, rfl, ⟨a, rfl, hw⟩, k0⟩ := h
  refine ⟨(tSeq (tAsg (tVar 0) (gTup K 4 (gCons (gName 2) (gCons (gName 3) (gCons (gName 4) (gCons (gName 5) gNil)))))) (tMatch (tVar 1) [(["to universal and back", "one instant means equal", "one instant, one time"], (tRet (tC (.bl true)))), (["from universal and back"], (tRet (tOp rEq (tVar 5) (tC (.str "both"))))), (["every reading", "some reading", "sums told"], (tRet (tOp rNe (tVar 5) (tC (.str "refuse"))))), (["there and back"], (tRet (tIf (tTest (tOp rEq (tVar 2) (tC (.str "wall")))) (tOp (rIn K false) (tVar 5) (tTup (tCons (tC (.str "first")) (tCons (tC (.str "second")) tNil)))) (tOp rEq (tVar 5) (tC (.str "both")))))), (["sum of durations"], (tRet (tIf (tTest (tOp rEq (tVar 2) (tC (.str "wall")))) (tOp rNe (tVar 5) (tC (.str "refuse"))) (tOp rEq (tVar 5) (tC (.str "both")))))), (["elapsed time"], (tRet (tAndV (tOp rEq (tVar 2) (tC (.str "elapsed"))) (tOp rEq (tVar 5) (tC (.str "both")))))), (["same clock"], (tRet (tAndV (tOp rEq (tVar 2) (tC (.str "wall"))) (tOp rNe (tVar 5) (tC (.str "refuse")))))), (["later"], (tRet (tOrV (tOp rEq (tVar 5) (tC (.str "second"))) (tOrV (tAndV (tOp rEq (tVar 2) (tC (.str "wall"))) (tOp rEq (tVar 5) (tC (.str "first")))) (tAndV (tOp rEq (tVar 5) (tC (.str "both"))) (tOp rEq (tVar 2) (tVar 3))))))), (["difference recovers"], (tRet (tOrV (tOp rEq (tVar 2) (tC (.str "elapsed"))) (tOp rNe (tVar 5) (tC (.str "both")))))), (["order by difference"], (tRet (tOrV (tOp rEq (tVar 2) (tVar 3)) (tOp rNe (tVar 5) (tC (.str "both")))))), (["equal means one instant", "order of instants"], (tRet (tOrV (tOp rEq (tVar 3) (tC (.str "elapsed"))) (tOp rNe (tVar 5) (tC (.str "both")))))), (["order kept"], (tSeq (tIfS (tTest (tOp rEq (tVar 2) (tC (.str "wall")))) (tRet (tOrV (tOp (rIn K false) (tVar 5) (tTup (tCons (tC (.str "first")) (tCons (tC (.str "second")) tNil)))) (tAndV (tOp rEq (tVar 5) (tC (.str "both"))) (tOp rEq (tVar 3) (tC (.str "wall")))))) tNext) (tRet (tAndV (tOp rEq (tVar 3) (tC (.str "elapsed"))) (tOp rEq (tVar 5) (tC (.str "both"))))))), (["equal sums"], (tRet (tOrV (tOp (rIn K false) (tVar 5) (tTup (tCons (tC (.str "first")) (tCons (tC (.str "second")) tNil)))) (tAndV (tOp rEq (tVar 5) (tC (.str "both"))) (tOrV (tOp rEq (tVar 2) (tC (.str "wall"))) (tOp rEq (tVar 3) (tC (.str "elapsed"))))))))])),
    PSs.nox (pss_cons (ps_asg (pv 0) (pg_tup rfl (pgs_cons (pg_name (i := 2) sc_holds_over_folds.nd rfl (Or.inl rfl)) (pgs_cons (pg_name (i := 3) sc_holds_over_folds.nd rfl (Or.inl rfl)) (pgs_cons (pg_name (i := 4) sc_holds_over_folds.nd rfl (Or.inl rfl)) (pgs_cons (pg_name (i := 5) sc_holds_over_folds.nd rfl (Or.inl rfl)) pgs_nil)))))) (pss_one (ps_match (pv 1) (pcs_cons (pat_or (por_cons pat_str (por_cons pat_str (por_cons pat_str por_nil)))) (pss_one (ps_ret pe_bl)) (pcs_cons pat_str (pss_one (ps_ret (pe_cmpR op_eq (pv 5) pe_str (nomark _)))) (pcs_cons (pat_or (por_cons pat_str (por_cons pat_str (por_cons pat_str por_nil)))) (pss_one (ps_ret (pe_cmpR op_ne (pv 5) pe_str (nomark _)))) (pcs_cons pat_str (pss_one (ps_ret (pe_ifExp (pt_cmpR op_eq (pv 2) pe_str (nomark _)) (pe_cmpR op_in_seq (pv 5) (pe_tup (pa_cons pe_str (pa_cons pe_str pa_nil))) (by rfl)) (pe_cmpR op_eq (pv 5) pe_str (nomark _))))) (pcs_cons pat_str (pss_one (ps_ret (pe_ifExp (pt_cmpR op_eq (pv 2) pe_str (nomark _)) (pe_cmpR op_ne (pv 5) pe_str (nomark _)) (pe_cmpR op_eq (pv 5) pe_str (nomark _))))) (pcs_cons pat_str (pss_one (ps_ret (pe_and (pe_cmpR op_eq (pv 2) pe_str (nomark _)) (pe_one (pe_cmpR op_eq (pv 5) pe_str (nomark _)))))) (pcs_cons pat_str (pss_one (ps_ret (pe_and (pe_cmpR op_eq (pv 2) pe_str (nomark _)) (pe_one (pe_cmpR op_ne (pv 5) pe_str (nomark _)))))) (pcs_cons pat_str (pss_one (ps_ret (pe_or (pe_cmpR op_eq (pv 5) pe_str (nomark _)) (pe_or (pe_and (pe_cmpR op_eq (pv 2) pe_str (nomark _)) (pe_one (pe_cmpR op_eq (pv 5) pe_str (nomark _)))) (pe_one (pe_and (pe_cmpR op_eq (pv 5) pe_str (nomark _)) (pe_one (pe_cmpR op_eq (pv 2) (pv 3) (nomark _))))))))) (pcs_cons pat_str (pss_one (ps_ret (pe_or (pe_cmpR op_eq (pv 2) pe_str (nomark _)) (pe_one (pe_cmpR op_ne (pv 5) pe_str (nomark _)))))) (pcs_cons pat_str (pss_one (ps_ret (pe_or (pe_cmpR op_eq (pv 2) (pv 3) (nomark _)) (pe_one (pe_cmpR op_ne (pv 5) pe_str (nomark _)))))) (pcs_cons (pat_or (por_cons pat_str (por_cons pat_str por_nil))) (pss_one (ps_ret (pe_or (pe_cmpR op_eq (pv 3) pe_str (nomark _)) (pe_one (pe_cmpR op_ne (pv 5) pe_str (nomark _)))))) (pcs_cons pat_str (pss_cons (ps_if (pt_cmpR op_eq (pv 2) pe_str (nomark _)) (pss_one (ps_ret (pe_or (pe_cmpR op_in_seq (pv 5) (pe_tup (pa_cons pe_str (pa_cons pe_str pa_nil))) (by rfl)) (pe_one (pe_and (pe_cmpR op_eq (pv 5) pe_str (nomark _)) (pe_one (pe_cmpR op_eq (pv 3) pe_str (nomark _)))))))) pss_nil) (pss_one (ps_ret (pe_and (pe_cmpR op_eq (pv 3) pe_str (nomark _)) (pe_one (pe_cmpR op_eq (pv 5) pe_str (nomark _))))))) (pcs_cons pat_str (pss_one (ps_ret (pe_or (pe_cmpR op_in_seq (pv 5) (pe_tup (pa_cons pe_str (pa_cons pe_str pa_nil))) (by rfl)) (pe_one (pe_and (pe_cmpR op_eq (pv 5) pe_str (nomark _)) (pe_one (pe_or (pe_cmpR op_eq (pv 2) pe_str (nomark _)) (pe_one (pe_cmpR op_eq (pv 3) pe_str (nomark _)))))))))) pcs_nil)))))))))))))))), ?_⟩
  have k := k0 _ (Evl.Ex.refl _)
  walk_at "qq"
  cases r <;> walk_at "mm"
  all_goals
    first
    | with_reducible exact k
    | (with_reducible refine bl_is ?_ k
       clear hw k k0
       revert w
       exact way_all' (by decide +kernel))
    | (with_reducible apply g_evO
       walk_at "eb"
       with_reducible refine bl_is ?_ k
       clear hw k k0
       revert w
       exact way_all' (by decide +kernel))
    | (with_reducible apply g_evA
       walk_at "eb"
       with_reducible refine bl_is ?_ k
       clear hw k k0
       revert w
       exact way_all' (by decide +kernel))
    | (with_reducible apply g_evF
       walk_at "eb"
       with_reducible refine bl_is ?_ k
       clear hw k k0
       revert w
       exact way_all' (by decide +kernel))
    | skip
  case there =>
    walk_at "qq"
    rw [sum_wall]
    cases hs : w.ws with
    | true =>
      walk_at "qq"
      refine g_tup ?_
      walk_at "qq"
      refine g_newT (by simp) fun p H1 n1 e1 h1 => ?_
      refine g_inTu (SqT.of h1) rfl rfl ?_
      refine bl_is ?_ (k0 _ e1)
      clear hw k k0
      revert w
      exact way_all' (by decide +kernel)
    | false =>
      walk_at "qq"
      refine bl_is ?_ k
      clear hw k k0
      revert w
      exact way_all' (by decide +kernel)
  case kept =>
    walk_at "qq"
    rw [sum_wall]
    cases hs : w.ws with
    | true =>
      walk_at "qq"
      refine g_tup ?_
      walk_at "qq"
      refine g_newT (by simp) fun p H1 n1 e1 h1 => ?_
      refine g_inTu (SqT.of h1) rfl rfl ?_
      walk_at "mm"
      refine if_b (fun c => ?_) (fun c => ?_)
      · refine bl_is ?_ (k0 _ e1)
        clear hw k k0
        revert w
        exact way_all' (by decide +kernel)
      · with_reducible apply g_evA
        walk_at "eb"
        refine bl_is ?_ (k0 _ e1)
        clear hw k k0
        revert w
        exact way_all' (by decide +kernel)
    | false =>
      walk_at "mm"
      with_reducible apply g_evA
      walk_at "eb"
      refine bl_is ?_ k
      clear hw k k0
      revert w
      exact way_all' (by decide +kernel)
  case eqSums =>
    walk_at "qq"
    refine g_tup ?_
    walk_at "qq"
    refine g_newT (by simp) fun p H1 n1 e1 h1 => ?_
    refine g_inTu (SqT.of h1) rfl rfl ?_
    walk_at "mm"
    refine if_b (fun c => ?_) (fun c => ?_)
    · refine bl_is ?_ (k0 _ e1)
      clear hw k k0
      revert w
      exact way_all' (by decide +kernel)
    · with_reducible apply g_evA
      walk_at "eb"
      refine bl_is ?_ (k0 _ e1)
      clear hw k k0
      revert w
      exact way_all' (by decide +kernel)
end
local macro_rules | `(tactic| walk_at "m") => `(tactic| first
  | with_reducible refine g_m1 ?_
  | with_reducible refine g_isS ?_
  | with_reducible refine g_lcStr ?_
  | with_reducible refine g_join ?_
  | with_reducible refine g_js ?_
  | with_reducible refine g_jsN ?_
  | with_reducible refine g_fmt ?_
  | with_reducible refine g_callLam ?_
  | with_reducible refine g_revT ?_)

local macro_rules | `(tactic| walk_at "lt") => `(tactic| first
  | with_reducible exact evL_nil
  | with_reducible exact evI_lit
  | with_reducible exact evI_neg
  | ((with_reducible refine evL_cons ?_ ?_) <;> walk_at "lt")
  | ((with_reducible refine evT_t ?_ ?_) <;> walk_at "lt")
  | ((with_reducible refine evT_i ?_) <;> walk_at "lt"))
theorem argsK {K : PySem.W.Frag} {H : Hp} {a : Addr} {xs : List V} {its : List It} (q : ∀ H : Hp, SqT K H a xs) (p : Paired (ItV K H) xs its) : ArgsV K H (.ref a) its := ⟨a, xs, rfl, q H, p⟩
theorem itK {K : PySem.W.Frag} {H : Hp} {a : Addr} {x y : Int} (q : ∀ H : Hp, SqT K H a [.int x, .int y]) : ItV K H (.ref a) (.t (x, y)) := ⟨a, rfl, q H⟩
theorem zoneK {K : PySem.W.Frag} {H : Hp} {a b c : Addr} {o x y : Int} (q : ∀ H : Hp, SqT K H a [.int o, .ref b]) (q2 : ∀ H : Hp, SqT K H b [.ref c]) (q3 : ∀ H : Hp, SqT K H c [.int x, .int y]) : ZV K H (.ref a) (o, [(x, y)]) :=
  ⟨a, _, rfl, q H, b, _, rfl, q2 H, .cons ⟨c, rfl, q3 H⟩ .nil⟩
section
variable {P : Program} {w : World} {K : PySem.W.Frag} {mg : Str → Option Value} {base : Heap}
theorem ok_arguments_in_gap (T : Txt w K mg) : FnOk P w K mg base CX0 1 T.f_arguments_in_gap.f T.f_arguments_in_gap.fd ["library", "rule"] (sp_arguments_in_gap K) := by
  refine T.f_arguments_in_gap.F.ok sc_arguments_in_gap (fun vs H Q E h => ?_) (fun cdv A outer s H vs Q E hr h => ?_)
  · obtain ⟨wv, w, r, rfl, _⟩ := h
    rfl
  obtain ⟨wv, y, r, rfl, ⟨a, rfl, hw⟩, hm, k⟩ := h
  refine ⟨(tSeq (tIfS (tTest (tOp (rInKD K w) (tVar 1) (tC (.ref T.a_IN_GAP)))) (tRet (tOp (rIxD K w) (tC (.ref T.a_IN_GAP)) (tVar 1))) tNext) (tSeq (tPar 2 3 (tCons (tOp (rIxT K) (tVar 0) (tC (.int 0))) (tCons (tOp (rIxT K) (tVar 0) (tC (.int 2))) tNil))) (tMatch (tVar 1) [(["there and back"], (tRet (tIf (tTest (tOp rEq (tVar 2) (tC (.str "wall")))) (tTup (tCons (tTup (tCons (tUn (rU fun i => .int (-i)) (tC (.int 1))) (tCons (tC (.int 0)) tNil))) (tCons (tC (.int 1)) tNil))) (tTup (tCons (tTup (tCons (tC (.int 0)) (tCons (tC (.int 0)) tNil))) (tCons (tC (.int 1)) tNil)))))), (["same clock"], (tRet (tIf (tTest (tOp rEq (tVar 2) (tC (.str "wall")))) (tTup (tCons (tTup (tCons (tUn (rU fun i => .int (-i)) (tC (.int 24))) (tCons (tC (.int 0)) tNil))) tNil)) (tTup (tCons (tTup (tCons (tUn (rU fun i => .int (-i)) (tC (.int 1))) (tCons (tC (.int 0)) tNil))) tNil))))), (["later"], (tRet (tIf (tTest (tOp rEq (tVar 3) (tC (.str "keep")))) (tTup (tCons (tTup (tCons (tC (.int 1)) (tCons (tC (.int 0)) tNil))) (tCons (tC (.int 1)) tNil))) (tTup (tCons (tTup (tCons (tUn (rU fun i => .int (-i)) (tC (.int 1))) (tCons (tC (.int 0)) tNil))) (tCons (tC (.int 1)) tNil)))))), (["order kept"], (tRet (tIf (tTest (tOp rEq (tVar 2) (tC (.str "wall")))) (tTup (tCons (tTup (tCons (tUn (rU fun i => .int (-i)) (tC (.int 2))) (tCons (tC (.int 0)) tNil))) (tCons (tTup (tCons (tUn (rU fun i => .int (-i)) (tC (.int 1))) (tCons (tC (.int 0)) tNil))) (tCons (tC (.int 3)) tNil)))) (tTup (tCons (tTup (tCons (tC (.int 0)) (tCons (tC (.int 0)) tNil))) (tCons (tTup (tCons (tC (.int 2)) (tCons (tC (.int 0)) tNil))) (tCons (tC (.int 1)) tNil))))))), (["equal sums"], (tRet (tIf (tTest (tOp rEq (tVar 3) (tC (.str "keep")))) (tTup (tCons (tTup (tCons (tC (.int 0)) (tCons (tC (.int 0)) tNil))) (tCons (tTup (tCons (tC (.int 2)) (tCons (tC (.int 0)) tNil))) (tCons (tC (.int 2)) tNil)))) (tTup (tCons (tTup (tCons (tUn (rU fun i => .int (-i)) (tC (.int 1))) (tCons (tC (.int 0)) tNil))) (tCons (tTup (tCons (tUn (rU fun i => .int (-i)) (tC (.int 1))) (tCons (tC (.int 0)) tNil))) (tCons (tC (.int 1)) tNil)))))))]))),
    PSs.nox (pss_cons (ps_if (pt_cmpR op_inKD (pv 1) (pe_glob (by rfl) T.c_IN_GAP rfl) (by rfl)) (pss_one (ps_ret (pe_ix ix_kdict (pe_glob (by rfl) T.c_IN_GAP rfl) (pv 1) (fun _ _ => rfl)))) pss_nil) (pss_cons (ps_par (by rfl) sc_arguments_in_gap.nd rfl rfl (by decide) rfl rfl (pa_cons (pe_ix ix_tup (pv 0) pe_int (fun _ _ => rfl)) (pa_cons (pe_ix ix_tup (pv 0) pe_int (fun _ _ => rfl)) pa_nil)) (by rfl)) (pss_one (ps_match (pv 1) (pcs_cons pat_str (pss_one (ps_ret (pe_ifExp (pt_cmpR op_eq (pv 2) pe_str (nomark _)) (pe_tup (pa_cons (pe_tup (pa_cons (pe_un un_neg pe_int) (pa_cons pe_int pa_nil))) (pa_cons pe_int pa_nil))) (pe_tup (pa_cons (pe_tup (pa_cons pe_int (pa_cons pe_int pa_nil))) (pa_cons pe_int pa_nil)))))) (pcs_cons pat_str (pss_one (ps_ret (pe_ifExp (pt_cmpR op_eq (pv 2) pe_str (nomark _)) (pe_tup (pa_cons (pe_tup (pa_cons (pe_un un_neg pe_int) (pa_cons pe_int pa_nil))) pa_nil)) (pe_tup (pa_cons (pe_tup (pa_cons (pe_un un_neg pe_int) (pa_cons pe_int pa_nil))) pa_nil))))) (pcs_cons pat_str (pss_one (ps_ret (pe_ifExp (pt_cmpR op_eq (pv 3) pe_str (nomark _)) (pe_tup (pa_cons (pe_tup (pa_cons pe_int (pa_cons pe_int pa_nil))) (pa_cons pe_int pa_nil))) (pe_tup (pa_cons (pe_tup (pa_cons (pe_un un_neg pe_int) (pa_cons pe_int pa_nil))) (pa_cons pe_int pa_nil)))))) (pcs_cons pat_str (pss_one (ps_ret (pe_ifExp (pt_cmpR op_eq (pv 2) pe_str (nomark _)) (pe_tup (pa_cons (pe_tup (pa_cons (pe_un un_neg pe_int) (pa_cons pe_int pa_nil))) (pa_cons (pe_tup (pa_cons (pe_un un_neg pe_int) (pa_cons pe_int pa_nil))) (pa_cons pe_int pa_nil)))) (pe_tup (pa_cons (pe_tup (pa_cons pe_int (pa_cons pe_int pa_nil))) (pa_cons (pe_tup (pa_cons pe_int (pa_cons pe_int pa_nil))) (pa_cons pe_int pa_nil))))))) (pcs_cons pat_str (pss_one (ps_ret (pe_ifExp (pt_cmpR op_eq (pv 3) pe_str (nomark _)) (pe_tup (pa_cons (pe_tup (pa_cons pe_int (pa_cons pe_int pa_nil))) (pa_cons (pe_tup (pa_cons pe_int (pa_cons pe_int pa_nil))) (pa_cons pe_int pa_nil)))) (pe_tup (pa_cons (pe_tup (pa_cons (pe_un un_neg pe_int) (pa_cons pe_int pa_nil))) (pa_cons (pe_tup (pa_cons (pe_un un_neg pe_int) (pa_cons pe_int pa_nil))) (pa_cons pe_int pa_nil))))))) pcs_nil))))))))), ?_⟩
  walk_at "qq"
  have e0 := Evl.Ex.refl H
  cases r
  case fromU => cases hm
  case eqOne => cases hm
  case toU => exact g_inKDy T.t_IN_GAP T.k_IN_GAP_0 (by walk_at "qq"; exact g_ixD T.k_IN_GAP_0 (k _ _ e0 (argsK T.q_IN_GAP_0 (.cons (itK T.q_IN_GAP_0_0) .nil))))
  case every => exact g_inKDy T.t_IN_GAP T.k_IN_GAP_1 (by walk_at "qq"; exact g_ixD T.k_IN_GAP_1 (k _ _ e0 (argsK T.q_IN_GAP_1 (.cons rfl .nil))))
  case someR => exact g_inKDy T.t_IN_GAP T.k_IN_GAP_2 (by walk_at "qq"; exact g_ixD T.k_IN_GAP_2 (k _ _ e0 (argsK T.q_IN_GAP_2 (.cons rfl .nil))))
  case sumD => exact g_inKDy T.t_IN_GAP T.k_IN_GAP_3 (by walk_at "qq"; exact g_ixD T.k_IN_GAP_3 (k _ _ e0 (argsK T.q_IN_GAP_3 (.cons (itK T.q_IN_GAP_3_0) (.cons rfl (.cons rfl .nil))))))
  case elapsed => exact g_inKDy T.t_IN_GAP T.k_IN_GAP_4 (by walk_at "qq"; exact g_ixD T.k_IN_GAP_4 (k _ _ e0 (argsK T.q_IN_GAP_4 (.cons (itK T.q_IN_GAP_4_0) (.cons rfl .nil)))))
  case told => exact g_inKDy T.t_IN_GAP T.k_IN_GAP_5 (by walk_at "qq"; exact g_ixD T.k_IN_GAP_5 (k _ _ e0 (argsK T.q_IN_GAP_5 (.cons (itK T.q_IN_GAP_5_0) (.cons rfl .nil)))))
  case diff => exact g_inKDy T.t_IN_GAP T.k_IN_GAP_6 (by walk_at "qq"; exact g_ixD T.k_IN_GAP_6 (k _ _ e0 (argsK T.q_IN_GAP_6 (.cons (itK T.q_IN_GAP_6_0) (.cons (itK T.q_IN_GAP_6_1) .nil)))))
  case ordDiff => exact g_inKDy T.t_IN_GAP T.k_IN_GAP_7 (by walk_at "qq"; exact g_ixD T.k_IN_GAP_7 (k _ _ e0 (argsK T.q_IN_GAP_7 (.cons (itK T.q_IN_GAP_7_0) (.cons (itK T.q_IN_GAP_7_1) .nil)))))
  case oneEq => exact g_inKDy T.t_IN_GAP T.k_IN_GAP_8 (by walk_at "qq"; exact g_ixD T.k_IN_GAP_8 (k _ _ e0 (argsK T.q_IN_GAP_8 (.cons (itK T.q_IN_GAP_8_0) (.cons (itK T.q_IN_GAP_8_1) .nil)))))
  case oneOne => exact g_inKDy T.t_IN_GAP T.k_IN_GAP_9 (by walk_at "qq"; exact g_ixD T.k_IN_GAP_9 (k _ _ e0 (argsK T.q_IN_GAP_9 (.cons (itK T.q_IN_GAP_9_0) (.cons (itK T.q_IN_GAP_9_1) .nil)))))
  case ordInst => exact g_inKDy T.t_IN_GAP T.k_IN_GAP_10 (by walk_at "qq"; exact g_ixD T.k_IN_GAP_10 (k _ _ e0 (argsK T.q_IN_GAP_10 (.cons (itK T.q_IN_GAP_10_0) (.cons (itK T.q_IN_GAP_10_1) .nil)))))
  case there =>
    refine g_inKDn T.t_IN_GAP T.n_IN_GAP_1 ?_
    walk_at "qq"
    unfold gapArgs at k
    rw [sum_wall]
    cases hs : y.ws with
    | true =>
      simp only [hs, if_true] at k
      refine if_tt (g_args (by walk_at "lt") (by decide) k)
    | false =>
      simp only [hs, Bool.false_eq_true, if_false] at k
      refine if_ff (g_args (by walk_at "lt") (by decide) k)
  case same =>
    refine g_inKDn T.t_IN_GAP T.n_IN_GAP_2 ?_
    walk_at "qq"
    unfold gapArgs at k
    rw [sum_wall]
    cases hs : y.ws with
    | true =>
      simp only [hs, if_true] at k
      refine if_tt (g_args (by walk_at "lt") (by decide) k)
    | false =>
      simp only [hs, Bool.false_eq_true, if_false] at k
      refine if_ff (g_args (by walk_at "lt") (by decide) k)
  case later =>
    refine g_inKDn T.t_IN_GAP T.n_IN_GAP_3 ?_
    walk_at "qq"
    unfold gapArgs at k
    rw [gap_keep]
    refine if_d (fun c => ?_) (fun c => ?_)
    · simp only [if_pos c] at k
      exact g_args (by walk_at "lt") (by decide) k
    · simp only [if_neg c] at k
      exact g_args (by walk_at "lt") (by decide) k
  case kept =>
    refine g_inKDn T.t_IN_GAP T.n_IN_GAP_5 ?_
    walk_at "qq"
    unfold gapArgs at k
    rw [sum_wall]
    cases hs : y.ws with
    | true =>
      simp only [hs, if_true] at k
      refine if_tt (g_args (by walk_at "lt") (by decide) k)
    | false =>
      simp only [hs, Bool.false_eq_true, if_false] at k
      refine if_ff (g_args (by walk_at "lt") (by decide) k)
  case eqSums =>
    refine g_inKDn T.t_IN_GAP T.n_IN_GAP_6 ?_
    walk_at "qq"
    unfold gapArgs at k
    rw [gap_keep]
    refine if_d (fun c => ?_) (fun c => ?_)
    · simp only [if_pos c] at k
      exact g_args (by walk_at "lt") (by decide) k
    · simp only [if_neg c] at k
      exact g_args (by walk_at "lt") (by decide) k
theorem ok_arguments_in_fold_for_wall_sums (T : Txt w K mg) : FnOk P w K mg base CX0 1 T.f_arguments_in_fold_for_wall_sums.f T.f_arguments_in_fold_for_wall_sums.fd ["fold", "rule"] (sp_arguments_in_fold_for_wall_sums K) := by
  refine T.f_arguments_in_fold_for_wall_sums.F.ok sc_arguments_in_fold_for_wall_sums (fun vs H Q E h => ?_) (fun cdv A outer s H vs Q E hr h => ?_)
  · obtain ⟨w, r, rfl, _⟩ := h
    rfl
  obtain ⟨y, r, rfl, hs, hr', hl, k⟩ := h
  refine ⟨(tMatch (tVar 1) [(["there and back"], (tRet (tIf (tTest (tOp rEq (tVar 0) (tC (.str "both")))) (tTup (tCons (tTup (tCons (tUn (rU fun i => .int (-i)) (tC (.int 1))) (tCons (tC (.int 1)) tNil))) (tCons (tC (.int 1)) tNil))) (tTup (tCons (tTup (tCons (tC (.int 0)) (tCons (tC (.int 0)) tNil))) (tCons (tUn (rU fun i => .int (-i)) (tC (.int 1))) tNil)))))), (["sum of durations"], (tRet (tTup (tCons (tTup (tCons (tC (.int 0)) (tCons (tC (.int 0)) tNil))) (tCons (tUn (rU fun i => .int (-i)) (tC (.int 1))) (tCons (tC (.int 1)) tNil)))))), (["elapsed time"], (tRet (tTup (tCons (tTup (tCons (tUn (rU fun i => .int (-i)) (tC (.int 3))) (tCons (tC (.int 0)) tNil))) (tCons (tC (.int 3)) tNil))))), (["same clock"], (tRet (tTup (tCons (tTup (tCons (tUn (rU fun i => .int (-i)) (tC (.int 25))) (tCons (tC (.int 0)) tNil))) tNil)))), (["later"], (tRet (tTup (tCons (tTup (tCons (tUn (rU fun i => .int (-i)) (tC (.int 2))) (tCons (tC (.int 1)) tNil))) (tCons (tC (.int 1)) tNil))))), (["order kept"], (tRet (tIf (tTest (tOp rEq (tVar 0) (tC (.str "refuse")))) (tTup (tCons (tTup (tCons (tUn (rU fun i => .int (-i)) (tC (.int 4))) (tCons (tC (.int 0)) tNil))) (tCons (tTup (tCons (tUn (rU fun i => .int (-i)) (tC (.int 3))) (tCons (tC (.int 0)) tNil))) (tCons (tC (.int 2)) tNil)))) (tTup (tCons (tTup (tCons (tUn (rU fun i => .int (-i)) (tC (.int 1))) (tCons (tC (.int 0)) tNil))) (tCons (tTup (tCons (tUn (rU fun i => .int (-i)) (tC (.int 2))) (tCons (tC (.int 1)) tNil))) (tCons (tC (.int 1)) tNil)))))))]),
    PSs.nox (pss_one (ps_match (pv 1) (pcs_cons pat_str (pss_one (ps_ret (pe_ifExp (pt_cmpR op_eq (pv 0) pe_str (nomark _)) (pe_tup (pa_cons (pe_tup (pa_cons (pe_un un_neg pe_int) (pa_cons pe_int pa_nil))) (pa_cons pe_int pa_nil))) (pe_tup (pa_cons (pe_tup (pa_cons pe_int (pa_cons pe_int pa_nil))) (pa_cons (pe_un un_neg pe_int) pa_nil)))))) (pcs_cons pat_str (pss_one (ps_ret (pe_tup (pa_cons (pe_tup (pa_cons pe_int (pa_cons pe_int pa_nil))) (pa_cons (pe_un un_neg pe_int) (pa_cons pe_int pa_nil)))))) (pcs_cons pat_str (pss_one (ps_ret (pe_tup (pa_cons (pe_tup (pa_cons (pe_un un_neg pe_int) (pa_cons pe_int pa_nil))) (pa_cons pe_int pa_nil))))) (pcs_cons pat_str (pss_one (ps_ret (pe_tup (pa_cons (pe_tup (pa_cons (pe_un un_neg pe_int) (pa_cons pe_int pa_nil))) pa_nil)))) (pcs_cons pat_str (pss_one (ps_ret (pe_tup (pa_cons (pe_tup (pa_cons (pe_un un_neg pe_int) (pa_cons pe_int pa_nil))) (pa_cons pe_int pa_nil))))) (pcs_cons pat_str (pss_one (ps_ret (pe_ifExp (pt_cmpR op_eq (pv 0) pe_str (nomark _)) (pe_tup (pa_cons (pe_tup (pa_cons (pe_un un_neg pe_int) (pa_cons pe_int pa_nil))) (pa_cons (pe_tup (pa_cons (pe_un un_neg pe_int) (pa_cons pe_int pa_nil))) (pa_cons pe_int pa_nil)))) (pe_tup (pa_cons (pe_tup (pa_cons (pe_un un_neg pe_int) (pa_cons pe_int pa_nil))) (pa_cons (pe_tup (pa_cons (pe_un un_neg pe_int) (pa_cons pe_int pa_nil))) (pa_cons pe_int pa_nil))))))) pcs_nil)))))))), ?_⟩
  walk_at "qq"
  unfold foldArgs at k
  simp only [hs, if_true] at k
  rcases hr' with rfl | rfl | rfl | rfl | rfl | rfl
  · walk_at "qq"
    rw [fold_both]
    refine if_d (fun c => ?_) (fun c => ?_)
    · simp only [if_pos c] at k
      exact g_args (by walk_at "lt") (by decide) k
    · simp only [if_neg c] at k
      exact g_args (by walk_at "lt") (by decide) k
  · walk_at "qq"
    dsimp only at k
    exact g_args (by walk_at "lt") (by decide) k
  · walk_at "qq"
    dsimp only at k
    exact g_args (by walk_at "lt") (by decide) k
  · walk_at "qq"
    dsimp only at k
    exact g_args (by walk_at "lt") (by decide) k
  · walk_at "qq"
    simp only [if_neg (hl rfl)] at k
    exact g_args (by walk_at "lt") (by decide) k
  · walk_at "qq"
    rw [fold_refuse]
    refine if_d (fun c => ?_) (fun c => ?_)
    · simp only [if_pos c] at k
      exact g_args (by walk_at "lt") (by decide) k
    · simp only [if_neg c] at k
      exact g_args (by walk_at "lt") (by decide) k
theorem ok_arguments_in_fold_for_elapsed_sums (T : Txt w K mg) : FnOk P w K mg base CX0 1 T.f_arguments_in_fold_for_elapsed_sums.f T.f_arguments_in_fold_for_elapsed_sums.fd ["fold", "rule"] (sp_arguments_in_fold_for_elapsed_sums K) := by
  refine T.f_arguments_in_fold_for_elapsed_sums.F.ok sc_arguments_in_fold_for_elapsed_sums (fun vs H Q E h => ?_) (fun cdv A outer s H vs Q E hr h => ?_)
  · obtain ⟨w, r, rfl, _⟩ := h
    rfl
  obtain ⟨y, r, rfl, hs, hr', hl, k⟩ := h
  refine ⟨(tMatch (tVar 1) [(["there and back", "elapsed time"], (tRet (tIf (tTest (tOp rEq (tVar 0) (tC (.str "first")))) (tTup (tCons (tTup (tCons (tUn (rU fun i => .int (-i)) (tC (.int 1))) (tCons (tC (.int 0)) tNil))) (tCons (tC (.int 1)) tNil))) (tTup (tCons (tTup (tCons (tC (.int 0)) (tCons (tC (.int 0)) tNil))) (tCons (tUn (rU fun i => .int (-i)) (tC (.int 4))) tNil)))))), (["sum of durations"], (tRet (tIf (tTest (tOp rEq (tVar 0) (tC (.str "first")))) (tTup (tCons (tTup (tCons (tUn (rU fun i => .int (-i)) (tC (.int 1))) (tCons (tC (.int 0)) tNil))) (tCons (tC (.int 1)) (tCons (tC (.int 3)) tNil)))) (tTup (tCons (tTup (tCons (tC (.int 0)) (tCons (tC (.int 0)) tNil))) (tCons (tUn (rU fun i => .int (-i)) (tC (.int 4))) (tCons (tC (.int 4)) tNil))))))), (["same clock"], (tRet (tTup (tCons (tTup (tCons (tUn (rU fun i => .int (-i)) (tC (.int 3))) (tCons (tC (.int 0)) tNil))) tNil)))), (["later"], (tRet (tTup (tCons (tTup (tCons (tUn (rU fun i => .int (-i)) (tC (.int 1))) (tCons (tC (.int 0)) tNil))) (tCons (tC (.int 1)) tNil))))), (["order kept"], (tRet (tTup (tCons (tTup (tCons (tUn (rU fun i => .int (-i)) (tC (.int 5))) (tCons (tC (.int 0)) tNil))) (tCons (tTup (tCons (tUn (rU fun i => .int (-i)) (tC (.int 4))) (tCons (tC (.int 0)) tNil))) (tCons (tC (.int 4)) tNil))))))]),
    PSs.nox (pss_one (ps_match (pv 1) (pcs_cons (pat_or (por_cons pat_str (por_cons pat_str por_nil))) (pss_one (ps_ret (pe_ifExp (pt_cmpR op_eq (pv 0) pe_str (nomark _)) (pe_tup (pa_cons (pe_tup (pa_cons (pe_un un_neg pe_int) (pa_cons pe_int pa_nil))) (pa_cons pe_int pa_nil))) (pe_tup (pa_cons (pe_tup (pa_cons pe_int (pa_cons pe_int pa_nil))) (pa_cons (pe_un un_neg pe_int) pa_nil)))))) (pcs_cons pat_str (pss_one (ps_ret (pe_ifExp (pt_cmpR op_eq (pv 0) pe_str (nomark _)) (pe_tup (pa_cons (pe_tup (pa_cons (pe_un un_neg pe_int) (pa_cons pe_int pa_nil))) (pa_cons pe_int (pa_cons pe_int pa_nil)))) (pe_tup (pa_cons (pe_tup (pa_cons pe_int (pa_cons pe_int pa_nil))) (pa_cons (pe_un un_neg pe_int) (pa_cons pe_int pa_nil))))))) (pcs_cons pat_str (pss_one (ps_ret (pe_tup (pa_cons (pe_tup (pa_cons (pe_un un_neg pe_int) (pa_cons pe_int pa_nil))) pa_nil)))) (pcs_cons pat_str (pss_one (ps_ret (pe_tup (pa_cons (pe_tup (pa_cons (pe_un un_neg pe_int) (pa_cons pe_int pa_nil))) (pa_cons pe_int pa_nil))))) (pcs_cons pat_str (pss_one (ps_ret (pe_tup (pa_cons (pe_tup (pa_cons (pe_un un_neg pe_int) (pa_cons pe_int pa_nil))) (pa_cons (pe_tup (pa_cons (pe_un un_neg pe_int) (pa_cons pe_int pa_nil))) (pa_cons pe_int pa_nil)))))) pcs_nil))))))), ?_⟩
  walk_at "qq"
  unfold foldArgs at k
  simp only [hs, Bool.false_eq_true, if_false] at k
  rcases hr' with rfl | rfl | rfl | rfl | rfl | rfl
  · walk_at "qq"
    rw [fold_first]
    refine if_d (fun c => ?_) (fun c => ?_)
    · simp only [if_pos c] at k
      exact g_args (by walk_at "lt") (by decide) k
    · simp only [if_neg c] at k
      exact g_args (by walk_at "lt") (by decide) k
  · walk_at "qq"
    rw [fold_first]
    refine if_d (fun c => ?_) (fun c => ?_)
    · simp only [if_pos c] at k
      exact g_args (by walk_at "lt") (by decide) k
    · simp only [if_neg c] at k
      exact g_args (by walk_at "lt") (by decide) k
  · walk_at "qq"
    rw [fold_first]
    refine if_d (fun c => ?_) (fun c => ?_)
    · simp only [if_pos c] at k
      exact g_args (by walk_at "lt") (by decide) k
    · simp only [if_neg c] at k
      exact g_args (by walk_at "lt") (by decide) k
  · walk_at "qq"
    dsimp only at k
    exact g_args (by walk_at "lt") (by decide) k
  · walk_at "qq"
    simp only [if_neg (hl rfl)] at k
    exact g_args (by walk_at "lt") (by decide) k
  · walk_at "qq"
    dsimp only at k
    exact g_args (by walk_at "lt") (by decide) k
theorem ok_arguments_in_fold (T : Txt w K mg) : FnOk P w K mg base CX0 2 T.f_arguments_in_fold.f T.f_arguments_in_fold.fd ["library", "rule"] (sp_arguments_in_fold K) := by
  refine T.f_arguments_in_fold.F.ok sc_arguments_in_fold (fun vs H Q E h => ?_) (fun cdv A outer s H vs Q E hr h => ?_)
  · obtain ⟨wv, w, r, rfl, _⟩ := h
    rfl
  obtain ⟨wv, y, r, rfl, ⟨a, rfl, hw⟩, hm, k⟩ := h
  refine ⟨(tSeq (tIfS (tTest (tOp (rInKD K w) (tVar 1) (tC (.ref T.a_IN_FOLD)))) (tRet (tOp (rIxD K w) (tC (.ref T.a_IN_FOLD)) (tVar 1))) tNext) (tSeq (tPar 2 3 (tCons (tOp (rIxT K) (tVar 0) (tC (.int 0))) (tCons (tOp (rIxT K) (tVar 0) (tC (.int 3))) tNil))) (tSeq (tIfS (tTest (tOp rEq (tVar 1) (tC (.str "from universal and back")))) (tRet (tIf (tTest (tOp rEq (tVar 3) (tC (.str "second")))) (tTup (tCons (tUn (rU fun i => .int (-i)) (tC (.int 2))) tNil)) (tTup (tCons (tC (.int 0)) tNil)))) tNext) (tSeq (tIfS (tTest (tOp rEq (tVar 1) (tC (.str "equal sums")))) (tRet (tIf (tTest (tOp rEq (tVar 3) (tC (.str "refuse")))) (tTup (tCons (tTup (tCons (tUn (rU fun i => .int (-i)) (tC (.int 3))) (tCons (tC (.int 0)) tNil))) (tCons (tTup (tCons (tUn (rU fun i => .int (-i)) (tC (.int 3))) (tCons (tC (.int 0)) tNil))) (tCons (tC (.int 2)) tNil)))) (tTup (tCons (tTup (tCons (tUn (rU fun i => .int (-i)) (tC (.int 1))) (tCons (tC (.int 0)) tNil))) (tCons (tTup (tCons (tUn (rU fun i => .int (-i)) (tC (.int 1))) (tCons (tC (.int 1)) tNil))) (tCons (tC (.int 1)) tNil)))))) tNext) (tSeq (tIfS (tAnd (tTest (tOp rEq (tVar 1) (tC (.str "later")))) (tTest (tOp rEq (tVar 3) (tC (.str "refuse"))))) (tRet (tTup (tCons (tTup (tCons (tUn (rU fun i => .int (-i)) (tC (.int 3))) (tCons (tC (.int 0)) tNil))) (tCons (tC (.int 2)) tNil)))) tNext) (tSeq (tIfS (tTest (tOp rEq (tVar 2) (tC (.str "wall")))) (tRet (tCall (sp_arguments_in_fold_for_wall_sums K) [] E0 (tCons (tVar 3) (tCons (tVar 1) tNil)))) tNext) (tRet (tCall (sp_arguments_in_fold_for_elapsed_sums K) [] E0 (tCons (tVar 3) (tCons (tVar 1) tNil)))))))))),
    PSs.nox (pss_cons (ps_if (pt_cmpR op_inKD (pv 1) (pe_glob (by rfl) T.c_IN_FOLD rfl) (by rfl)) (pss_one (ps_ret (pe_ix ix_kdict (pe_glob (by rfl) T.c_IN_FOLD rfl) (pv 1) (fun _ _ => rfl)))) pss_nil) (pss_cons (ps_par (by rfl) sc_arguments_in_fold.nd rfl rfl (by decide) rfl rfl (pa_cons (pe_ix ix_tup (pv 0) pe_int (fun _ _ => rfl)) (pa_cons (pe_ix ix_tup (pv 0) pe_int (fun _ _ => rfl)) pa_nil)) (by rfl)) (pss_cons (ps_if (pt_cmpR op_eq (pv 1) pe_str (nomark _)) (pss_one (ps_ret (pe_ifExp (pt_cmpR op_eq (pv 3) pe_str (nomark _)) (pe_tup (pa_cons (pe_un un_neg pe_int) pa_nil)) (pe_tup (pa_cons pe_int pa_nil))))) pss_nil) (pss_cons (ps_if (pt_cmpR op_eq (pv 1) pe_str (nomark _)) (pss_one (ps_ret (pe_ifExp (pt_cmpR op_eq (pv 3) pe_str (nomark _)) (pe_tup (pa_cons (pe_tup (pa_cons (pe_un un_neg pe_int) (pa_cons pe_int pa_nil))) (pa_cons (pe_tup (pa_cons (pe_un un_neg pe_int) (pa_cons pe_int pa_nil))) (pa_cons pe_int pa_nil)))) (pe_tup (pa_cons (pe_tup (pa_cons (pe_un un_neg pe_int) (pa_cons pe_int pa_nil))) (pa_cons (pe_tup (pa_cons (pe_un un_neg pe_int) (pa_cons pe_int pa_nil))) (pa_cons pe_int pa_nil))))))) pss_nil) (pss_cons (ps_if (PW.pt (pw_and (pt_cmpR op_eq (pv 1) pe_str (nomark _)) (pw_and1 (pt_cmpR op_eq (pv 3) pe_str (nomark _))))) (pss_one (ps_ret (pe_tup (pa_cons (pe_tup (pa_cons (pe_un un_neg pe_int) (pa_cons pe_int pa_nil))) (pa_cons pe_int pa_nil))))) pss_nil) (pss_cons (ps_if (pt_cmpR op_eq (pv 2) pe_str (nomark _)) (pss_one (ps_ret (pe_call (ok_arguments_in_fold_for_wall_sums T) (hr.mono (by decide)) (by rfl) T.f_arguments_in_fold_for_wall_sums.g T.f_arguments_in_fold_for_wall_sums.F.kp T.f_arguments_in_fold_for_wall_sums.b .nil pass0 (pa_cons (pv 3) (pa_cons (pv 1) pa_nil))))) pss_nil) (pss_one (ps_ret (pe_call (ok_arguments_in_fold_for_elapsed_sums T) (hr.mono (by decide)) (by rfl) T.f_arguments_in_fold_for_elapsed_sums.g T.f_arguments_in_fold_for_elapsed_sums.F.kp T.f_arguments_in_fold_for_elapsed_sums.b .nil pass0 (pa_cons (pv 3) (pa_cons (pv 1) pa_nil))))))))))), ?_⟩
  walk_at "qq"
  have e0 := Evl.Ex.refl H
  cases r
  case toU => cases hm
  case oneEq => cases hm
  case oneOne => cases hm
  case every => exact g_inKDy T.t_IN_FOLD T.k_IN_FOLD_0 (by walk_at "qq"; exact g_ixD T.k_IN_FOLD_0 (k _ _ e0 (argsK T.q_IN_FOLD_0 (.cons rfl .nil))))
  case someR => exact g_inKDy T.t_IN_FOLD T.k_IN_FOLD_1 (by walk_at "qq"; exact g_ixD T.k_IN_FOLD_1 (k _ _ e0 (argsK T.q_IN_FOLD_1 (.cons rfl .nil))))
  case told => exact g_inKDy T.t_IN_FOLD T.k_IN_FOLD_2 (by walk_at "qq"; exact g_ixD T.k_IN_FOLD_2 (k _ _ e0 (argsK T.q_IN_FOLD_2 (.cons (itK T.q_IN_FOLD_2_0) (.cons rfl .nil)))))
  case diff => exact g_inKDy T.t_IN_FOLD T.k_IN_FOLD_3 (by walk_at "qq"; exact g_ixD T.k_IN_FOLD_3 (k _ _ e0 (argsK T.q_IN_FOLD_3 (.cons (itK T.q_IN_FOLD_3_0) (.cons (itK T.q_IN_FOLD_3_1) .nil)))))
  case ordDiff => exact g_inKDy T.t_IN_FOLD T.k_IN_FOLD_4 (by walk_at "qq"; exact g_ixD T.k_IN_FOLD_4 (k _ _ e0 (argsK T.q_IN_FOLD_4 (.cons (itK T.q_IN_FOLD_4_0) (.cons (itK T.q_IN_FOLD_4_1) .nil)))))
  case eqOne => exact g_inKDy T.t_IN_FOLD T.k_IN_FOLD_5 (by walk_at "qq"; exact g_ixD T.k_IN_FOLD_5 (k _ _ e0 (argsK T.q_IN_FOLD_5 (.cons (itK T.q_IN_FOLD_5_0) (.cons (itK T.q_IN_FOLD_5_1) .nil)))))
  case ordInst => exact g_inKDy T.t_IN_FOLD T.k_IN_FOLD_6 (by walk_at "qq"; exact g_ixD T.k_IN_FOLD_6 (k _ _ e0 (argsK T.q_IN_FOLD_6 (.cons (itK T.q_IN_FOLD_6_0) (.cons (itK T.q_IN_FOLD_6_1) .nil)))))
  case fromU =>
    refine g_inKDn T.t_IN_FOLD T.n_IN_FOLD_0 ?_
    walk_at "qq"
    unfold foldArgs at k
    rw [fold_second]
    refine if_d (fun c => ?_) (fun c => ?_)
    · simp only [if_pos c] at k
      exact g_args (by walk_at "lt") (by decide) k
    · simp only [if_neg c] at k
      exact g_args (by walk_at "lt") (by decide) k
  case eqSums =>
    refine g_inKDn T.t_IN_FOLD T.n_IN_FOLD_10 ?_
    walk_at "qq"
    unfold foldArgs at k
    rw [fold_refuse]
    refine if_d (fun c => ?_) (fun c => ?_)
    · simp only [if_pos c] at k
      exact g_args (by walk_at "lt") (by decide) k
    · simp only [if_neg c] at k
      exact g_args (by walk_at "lt") (by decide) k
  case there =>
    refine g_inKDn T.t_IN_FOLD T.n_IN_FOLD_2 ?_
    walk_at "qq"
    rw [sum_wall]
    cases hs : y.ws with
    | true =>
      walk_at "qq"
      exact ⟨y, .there, rfl, hs, (.inl rfl), (fun h => by cases h), k⟩
    | false =>
      walk_at "qq"
      exact ⟨y, .there, rfl, hs, (.inl rfl), (fun h => by cases h), k⟩
  case sumD =>
    refine g_inKDn T.t_IN_FOLD T.n_IN_FOLD_3 ?_
    walk_at "qq"
    rw [sum_wall]
    cases hs : y.ws with
    | true =>
      walk_at "qq"
      exact ⟨y, .sumD, rfl, hs, (.inr (.inl rfl)), (fun h => by cases h), k⟩
    | false =>
      walk_at "qq"
      exact ⟨y, .sumD, rfl, hs, (.inr (.inl rfl)), (fun h => by cases h), k⟩
  case elapsed =>
    refine g_inKDn T.t_IN_FOLD T.n_IN_FOLD_4 ?_
    walk_at "qq"
    rw [sum_wall]
    cases hs : y.ws with
    | true =>
      walk_at "qq"
      exact ⟨y, .elapsed, rfl, hs, (.inr (.inr (.inl rfl))), (fun h => by cases h), k⟩
    | false =>
      walk_at "qq"
      exact ⟨y, .elapsed, rfl, hs, (.inr (.inr (.inl rfl))), (fun h => by cases h), k⟩
  case same =>
    refine g_inKDn T.t_IN_FOLD T.n_IN_FOLD_5 ?_
    walk_at "qq"
    rw [sum_wall]
    cases hs : y.ws with
    | true =>
      walk_at "qq"
      exact ⟨y, .same, rfl, hs, (.inr (.inr (.inr (.inl rfl)))), (fun h => by cases h), k⟩
    | false =>
      walk_at "qq"
      exact ⟨y, .same, rfl, hs, (.inr (.inr (.inr (.inl rfl)))), (fun h => by cases h), k⟩
  case kept =>
    refine g_inKDn T.t_IN_FOLD T.n_IN_FOLD_9 ?_
    walk_at "qq"
    rw [sum_wall]
    cases hs : y.ws with
    | true =>
      walk_at "qq"
      exact ⟨y, .kept, rfl, hs, (.inr (.inr (.inr (.inr (.inr rfl))))), (fun h => by cases h), k⟩
    | false =>
      walk_at "qq"
      exact ⟨y, .kept, rfl, hs, (.inr (.inr (.inr (.inr (.inr rfl))))), (fun h => by cases h), k⟩
  case later =>
    refine g_inKDn T.t_IN_FOLD T.n_IN_FOLD_6 ?_
    walk_at "qq"
    rw [fold_refuse]
    refine if_d (fun c => ?_) (fun c => ?_)
    · unfold foldArgs at k
      walk_at "mm"
      simp only [if_pos c] at k
      exact g_args (by walk_at "lt") (by decide) k
    · walk_at "qq"
      rw [sum_wall]
      cases hs : y.ws with
      | true =>
        walk_at "qq"
        exact ⟨y, .later, rfl, hs, (.inr (.inr (.inr (.inr (.inl rfl))))), fun _ => c, k⟩
      | false =>
        walk_at "qq"
        exact ⟨y, .later, rfl, hs, (.inr (.inr (.inr (.inr (.inl rfl))))), fun _ => c, k⟩
theorem ok_check_kind (T : Txt w K mg) : FnOk P w K mg base CX0 1 T.f_check_kind.f T.f_check_kind.fd ["value"] (sp_check_kind K) := by
  refine T.f_check_kind.F.ok sc_check_kind (fun vs H Q E h => ?_) (fun cdv A outer s H vs Q E hr h => ?_)
  · obtain ⟨kind, rfl, _⟩ := h
    rfl
  obtain ⟨kind, rfl, hk, k⟩ := h
  refine ⟨(tIfS (tTest (tOp (rIn K true) (tVar 0) (tC (.ref T.a_KINDS)))) tNever tNext),
    PSs.nox (pss_one (ps_if (pt_cmpR op_notIn_seq (pv 0) (pe_glob (by rfl) T.c_KINDS rfl) (by rfl)) (pss_one ps_never) pss_nil)), ?_⟩
  walk_at "qq"
  refine g_niTu (T.q_KINDS _) rfl rfl ?_
  walk_at "qq"
  refine if_f (by rcases hk with rfl | rfl | rfl | rfl <;> decide +kernel) ?_
  walk_at "qq"
  exact k
theorem inShapes (T : Txt w K mg) {H : Hp} {Q : VK} (r : Rule) (k : Q (.bl true) H) : rInKD K w (.str (ruleS r)) (.ref T.a_SHAPES) H Q := by
  cases r
  case fromU => exact g_inKDy T.t_SHAPES T.k_SHAPES_0 k
  case toU => exact g_inKDy T.t_SHAPES T.k_SHAPES_1 k
  case every => exact g_inKDy T.t_SHAPES T.k_SHAPES_2 k
  case someR => exact g_inKDy T.t_SHAPES T.k_SHAPES_3 k
  case there => exact g_inKDy T.t_SHAPES T.k_SHAPES_4 k
  case sumD => exact g_inKDy T.t_SHAPES T.k_SHAPES_5 k
  case elapsed => exact g_inKDy T.t_SHAPES T.k_SHAPES_6 k
  case same => exact g_inKDy T.t_SHAPES T.k_SHAPES_7 k
  case later => exact g_inKDy T.t_SHAPES T.k_SHAPES_8 k
  case told => exact g_inKDy T.t_SHAPES T.k_SHAPES_9 k
  case diff => exact g_inKDy T.t_SHAPES T.k_SHAPES_10 k
  case ordDiff => exact g_inKDy T.t_SHAPES T.k_SHAPES_11 k
  case eqOne => exact g_inKDy T.t_SHAPES T.k_SHAPES_12 k
  case oneEq => exact g_inKDy T.t_SHAPES T.k_SHAPES_13 k
  case oneOne => exact g_inKDy T.t_SHAPES T.k_SHAPES_14 k
  case ordInst => exact g_inKDy T.t_SHAPES T.k_SHAPES_15 k
  case kept => exact g_inKDy T.t_SHAPES T.k_SHAPES_16 k
  case eqSums => exact g_inKDy T.t_SHAPES T.k_SHAPES_17 k
theorem ok_is_rule (T : Txt w K mg) : FnOk P w K mg base CX0 1 T.f_is_rule.f T.f_is_rule.fd ["value"] (sp_is_rule K) := by
  refine T.f_is_rule.F.ok sc_is_rule (fun vs H Q E h => ?_) (fun cdv A outer s H vs Q E hr h => ?_)
  · obtain ⟨r, rfl, _⟩ := h
    rfl
  obtain ⟨r, rfl, k⟩ := h
  refine ⟨(tRet (tAndV (tCB (rIsi K) (tCons (tVar 0) (tCons (tC (.ty "str")) tNil))) (tOp (rInKD K w) (tVar 0) (tC (.ref T.a_SHAPES))))),
    PSs.nox (pss_one (ps_ret (pe_and (pe_callB call_isi (by rfl) T.z_isinstance (by decide +kernel) (pa_cons (pv 0) (pa_cons (pe_bltn (by rfl) T.z_str (by decide +kernel) rfl) pa_nil))) (pe_one (pe_cmpR op_inKD (pv 0) (pe_glob (by rfl) T.c_SHAPES rfl) (by rfl)))))), ?_⟩
  walk_at "qq"
  refine g_isi ty_str rfl ?_
  walk_at "qq"
  exact inShapes T r k
theorem ok_check_rule (T : Txt w K mg) : FnOk P w K mg base CX0 2 T.f_check_rule.f T.f_check_rule.fd ["value"] (sp_check_rule K) := by
  refine T.f_check_rule.F.ok sc_check_rule (fun vs H Q E h => ?_) (fun cdv A outer s H vs Q E hr h => ?_)
  · obtain ⟨r, rfl, _⟩ := h
    rfl
  obtain ⟨r, rfl, k⟩ := h
  refine ⟨(tIfS (tNot (tB (tCall (sp_is_rule K) [] E0 (tCons (tVar 0) tNil)))) tNever tNext),
    PSs.nox (pss_one (ps_if (pt_not (pt_val (pe_call (ok_is_rule T) (hr.mono (by decide)) (by rfl) T.f_is_rule.g T.f_is_rule.F.kp T.f_is_rule.b .nil pass0 (pa_cons (pv 0) pa_nil)))) (pss_one ps_never) pss_nil)), ?_⟩
  walk_at "qq"
  refine ⟨r, rfl, ?_⟩
  walk_at "qq"
  exact k
theorem ok_counterexample (T : Txt w K mg) : FnOk P w K mg base CX0 4 T.f_counterexample.f T.f_counterexample.fd ["library", "kind", "rule"] (sp_counterexample K) := by
  refine T.f_counterexample.F.ok sc_counterexample (fun vs H Q E h => ?_) (fun cdv A outer s H vs Q E hr h => ?_)
  · obtain ⟨wv, w, kind, r, rfl, _⟩ := h
    rfl
  obtain ⟨wv, y, kind, r, rfl, hw, hk, k⟩ := h
  refine ⟨(tSeq (tDrop (tCall (sp_check_library K) [] E0 (tCons (tVar 0) tNil))) (tSeq (tDrop (tCall (sp_check_kind K) [] E0 (tCons (tVar 1) tNil))) (tSeq (tDrop (tCall (sp_check_rule K) [] E0 (tCons (tVar 2) tNil))) (tSeq (tIfS (tAnd (tTest (tOp (rIn K false) (tVar 1) (tTup (tCons (tC (.str "skips")) (tCons (tC (.str "both")) tNil))))) (tNot (tB (tCall (sp_holds_over_gaps K) [] E0 (tCons (tVar 0) (tCons (tVar 2) tNil)))))) (tRet (tTup (tCons (tC (.ref T.a_GAP_ZONE)) (tCons (tCall (sp_arguments_in_gap K) [] E0 (tCons (tVar 0) (tCons (tVar 2) tNil))) tNil)))) tNext) (tSeq (tIfS (tAnd (tTest (tOp (rIn K false) (tVar 1) (tTup (tCons (tC (.str "repeats")) (tCons (tC (.str "both")) tNil))))) (tNot (tB (tCall (sp_holds_over_folds K) [] E0 (tCons (tVar 0) (tCons (tVar 2) tNil)))))) (tRet (tTup (tCons (tC (.ref T.a_FOLD_ZONE)) (tCons (tCall (sp_arguments_in_fold K) [] E0 (tCons (tVar 0) (tCons (tVar 2) tNil))) tNil)))) tNext) (tRet (tC .non))))))),
    PSs.nox (pss_cons (ps_expr (pe_call (ok_check_library T) (hr.mono (by decide)) (by rfl) T.f_check_library.g T.f_check_library.F.kp T.f_check_library.b .nil pass0 (pa_cons (pv 0) pa_nil))) (pss_cons (ps_expr (pe_call (ok_check_kind T) (hr.mono (by decide)) (by rfl) T.f_check_kind.g T.f_check_kind.F.kp T.f_check_kind.b .nil pass0 (pa_cons (pv 1) pa_nil))) (pss_cons (ps_expr (pe_call (ok_check_rule T) (hr.mono (by decide)) (by rfl) T.f_check_rule.g T.f_check_rule.F.kp T.f_check_rule.b .nil pass0 (pa_cons (pv 2) pa_nil))) (pss_cons (ps_if (PW.pt (pw_and (pt_cmpR op_in_seq (pv 1) (pe_tup (pa_cons pe_str (pa_cons pe_str pa_nil))) (by rfl)) (pw_and1 (pt_not (pt_val (pe_call (ok_holds_over_gaps T) (hr.mono (by decide)) (by rfl) T.f_holds_over_gaps.g T.f_holds_over_gaps.F.kp T.f_holds_over_gaps.b .nil pass0 (pa_cons (pv 0) (pa_cons (pv 2) pa_nil)))))))) (pss_one (ps_ret (pe_tup (pa_cons (pe_glob (by rfl) T.c_GAP_ZONE rfl) (pa_cons (pe_call (ok_arguments_in_gap T) (hr.mono (by decide)) (by rfl) T.f_arguments_in_gap.g T.f_arguments_in_gap.F.kp T.f_arguments_in_gap.b .nil pass0 (pa_cons (pv 0) (pa_cons (pv 2) pa_nil))) pa_nil))))) pss_nil) (pss_cons (ps_if (PW.pt (pw_and (pt_cmpR op_in_seq (pv 1) (pe_tup (pa_cons pe_str (pa_cons pe_str pa_nil))) (by rfl)) (pw_and1 (pt_not (pt_val (pe_call (ok_holds_over_folds T) (hr.mono (by decide)) (by rfl) T.f_holds_over_folds.g T.f_holds_over_folds.F.kp T.f_holds_over_folds.b .nil pass0 (pa_cons (pv 0) (pa_cons (pv 2) pa_nil)))))))) (pss_one (ps_ret (pe_tup (pa_cons (pe_glob (by rfl) T.c_FOLD_ZONE rfl) (pa_cons (pe_call (ok_arguments_in_fold T) (hr.mono (by decide)) (by rfl) T.f_arguments_in_fold.g T.f_arguments_in_fold.F.kp T.f_arguments_in_fold.b .nil pass0 (pa_cons (pv 0) (pa_cons (pv 2) pa_nil))) pa_nil))))) pss_nil) (pss_one (ps_ret pe_non))))))), ?_⟩
  walk_at "qq"
  refine ⟨_, y, rfl, hw, ?_⟩
  walk_at "qq"
  refine ⟨kind, rfl, hk, ?_⟩
  walk_at "qq"
  refine ⟨r, rfl, ?_⟩
  walk_at "gg"
  refine g_newT (by simp) fun p1 H1 n1 e1 h1 => ?_
  refine g_inTu (SqT.of h1) rfl rfl ?_
  walk_at "qq"
  have c1 : inV (.str kind) [.str "skips", .str "both"] = decide (kind = "skips" ∨ kind = "both") := by rcases hk with rfl | rfl | rfl | rfl <;> decide +kernel
  have c2 : inV (.str kind) [.str "repeats", .str "both"] = decide (kind = "repeats" ∨ kind = "both") := by rcases hk with rfl | rfl | rfl | rfl <;> decide +kernel
  rw [c1]
  have hw1 := hw.tr (TrT.of e1)
  have second : ∀ Hs, Ex H Hs → ¬ ((kind = "skips" ∨ kind = "both") ∧ (met y r).1 = false) →
      tIfS (tAnd (tTest (tOp (rIn K false) (tVar 1) (tTup (tCons (tC (.str "repeats")) (tCons (tC (.str "both")) tNil)))))
        (tNot (tB (tCall (sp_holds_over_folds K) [] E0 (tCons (tVar 0) (tCons (tVar 2) tNil))))))
        (tRet (tTup (tCons (tC (.ref T.a_FOLD_ZONE)) (tCons (tCall (sp_arguments_in_fold K) [] E0 (tCons (tVar 0) (tCons (tVar 2) tNil))) tNil)))) tNext
        { nx := fun σ H' => tRet (tC .non) { nx := fun _ H' => Q .non H', rt := Q } σ H', rt := Q } (start ["library", "kind", "rule"] [wv, .str kind, .str (ruleS r)]) Hs := by
    intro Hs es ng
    have hws := hw.tr (TrT.of es)
    walk_at "gg"
    refine g_newT (by simp) fun p2 H2 n2 e2 h2 => ?_
    refine g_inTu (SqT.of h2) rfl rfl ?_
    walk_at "qq"
    rw [c2]
    have hw2 := hws.tr (TrT.of e2)
    refine if_d (fun c => ?_) (fun c => ?_)
    · walk_at "qq"
      refine ⟨_, y, r, rfl, hw2, fun H3 e3 => ?_⟩
      walk_at "qq"
      cases hm : (met y r).2 with
      | true =>
        walk_at "qq"
        refine k _ _ (es.trans (e2.trans e3)) ?_
        unfold cexO
        rw [if_neg ng, if_neg (by rw [hm]; simp)]
        rfl
      | false =>
        walk_at "qq"
        refine g_tup ?_
        walk_at "qq"
        refine ⟨_, y, r, rfl, hw2.tr (TrT.of e3), hm, fun v H4 e4 hv => ?_⟩
        walk_at "qq"
        refine g_newT (by simp) fun p5 H5 n5 e5 h5 => ?_
        refine k _ _ (es.trans (e2.trans (e3.trans (e4.trans e5)))) ?_
        unfold cexO
        rw [if_neg ng, if_pos ⟨c, hm⟩]
        exact ⟨p5, _, _, rfl, SqT.of h5, zoneK T.q_FOLD_ZONE T.q_FOLD_ZONE_1 T.q_FOLD_ZONE_1_0, hv.tr (TrT.of e5)⟩
    · walk_at "qq"
      refine k _ _ (es.trans e2) ?_
      unfold cexO
      rw [if_neg ng, if_neg fun h => c h.1]
      rfl
  refine if_d (fun c => ?_) (fun c => ?_)
  · walk_at "qq"
    refine ⟨_, y, r, rfl, hw1, fun H2 e2 => ?_⟩
    walk_at "mm"
    cases hm : (met y r).1 with
    | true =>
      walk_at "mm"
      exact second _ (e1.trans e2) fun h => by rw [hm] at h; cases h.2
    | false =>
      walk_at "mm"
      refine g_tup ?_
      walk_at "qq"
      refine ⟨_, y, r, rfl, hw1.tr (TrT.of e2), hm, fun v H3 e3 hv => ?_⟩
      walk_at "qq"
      refine g_newT (by simp) fun p4 H4 n4 e4 h4 => ?_
      refine k _ _ (e1.trans (e2.trans (e3.trans e4))) ?_
      unfold cexO
      rw [if_pos ⟨c, hm⟩]
      exact ⟨p4, _, _, rfl, SqT.of h4, zoneK T.q_GAP_ZONE T.q_GAP_ZONE_1 T.q_GAP_ZONE_1_0, hv.tr (TrT.of e4)⟩
  · walk_at "mm"
    exact second _ e1 fun h => c h.1
theorem ok_holds (T : Txt w K mg) : FnOk P w K mg base CX0 5 T.f_holds.f T.f_holds.fd ["library", "kind", "rule"] (sp_holds K) := by
  refine T.f_holds.F.ok sc_holds (fun vs H Q E h => ?_) (fun cdv A outer s H vs Q E hr h => ?_)
  · obtain ⟨wv, w, kind, r, rfl, _⟩ := h
    rfl
  obtain ⟨wv, y, kind, r, rfl, hw, hk, k⟩ := h
  refine ⟨(tRet (tOp r_isN (tCall (sp_counterexample K) [] E0 (tCons (tVar 0) (tCons (tVar 1) (tCons (tVar 2) tNil)))) (tC .non))),
    PSs.nox (pss_one (ps_ret (pe_cmpR op_isN (pe_call (ok_counterexample T) (hr.mono (by decide)) (by rfl) T.f_counterexample.g T.f_counterexample.F.kp T.f_counterexample.b .nil pass0 (pa_cons (pv 0) (pa_cons (pv 1) (pa_cons (pv 2) pa_nil)))) pe_non (nomark _)))), ?_⟩
  walk_at "qq"
  refine ⟨_, y, kind, r, rfl, hw, hk, fun v H1 e1 hv => ?_⟩
  walk_at "qq"
  have k := k _ e1
  rw [← cex_holds hk] at k
  cases hc : cexO y kind r with
  | none =>
    rw [hc] at hv k
    cases (show v = .non from hv)
    exact k
  | some c =>
    rw [hc] at hv k
    obtain ⟨a, zv, av, rfl, _⟩ := hv
    exact k
end
/-! ### x in a tuple of data -/
def rInDT (K : PySem.W.Frag) : R2 := fun x y H Q => ∃ d ds, Dp K H x d ∧ Dp K H y (.tuple ds) ∧ SeqAt.shaped d = true ∧ SeqAt.shaped (.list ds) = true ∧ Q (.bl (ds.any fun z => PyData.eqv z d)) H
def rNotInDT (K : PySem.W.Frag) : R2 := fun x y H Q => ∃ d ds, Dp K H x d ∧ Dp K H y (.tuple ds) ∧ SeqAt.shaped d = true ∧ SeqAt.shaped (.list ds) = true ∧ Q (.bl (!ds.any fun z => PyData.eqv z d)) H
section
variable {X : Cx}
theorem op_inDT (hu : X.A.units + 65 < cLine) : OpR X (compareOp .In) (rInDT X.K) := by
  intro pins s σ H x y v u Q I rx ry h
  obtain ⟨d, ds, hd, he, sd, se, q⟩ := h
  obtain ⟨as, r1⟩ := Dp.reads I d x v hd rx
  obtain ⟨bs, r2⟩ := Dp.reads I (.tuple ds) y u he ry
  exact SeqAt.in_tuple_reads r2 r1 (SeqAt.canLay_of_shaped se) (SeqAt.canLay_of_shaped sd) (room_in_shaped sd hu) ⟨.bl _, H, I, rfl, q⟩
theorem op_notInDT (hu : X.A.units + 65 < cLine) : OpR X (compareOp .NotIn) (rNotInDT X.K) := by
  intro pins s σ H x y v u Q I rx ry h
  obtain ⟨d, ds, hd, he, sd, se, q⟩ := h
  obtain ⟨as, r1⟩ := Dp.reads I d x v hd rx
  obtain ⟨bs, r2⟩ := Dp.reads I (.tuple ds) y u he ry
  exact SeqAt.notIn_tuple_reads r2 r1 (SeqAt.canLay_of_shaped se) (SeqAt.canLay_of_shaped sd) (room_in_shaped sd hu) ⟨.bl _, H, I, rfl, q⟩
end
theorem compTurnN_mid {elt t0 i0 t1 i1 : Expr} {ifs0 ifs1 : List Expr} {gs : List Comprehension} {d : Nat} {scope : Scope} {pos : Pos} {it acc : Value} {env : Env} (h0 : gs[d]? = some ⟨t0, i0, ifs0, 0⟩) (h1 : gs[d + 1]? = some ⟨t1, i1, ifs1, 0⟩) :
    compTurn (.ListComp elt gs scope pos) d it acc env = (do
      standAt i0.pos
      match ← pyNext it with
      | none => pure (.done .next)
      | some v =>
        letOwnedTupleGo t0 it v
        assign t0 env v
        let mut ok := true
        for c in ifs0 do
          if ok then ok ← isTrue c env (eval c env)
        if ok then
          let x ← eval i1 env
          standAt i1.pos
          let x ← foldedSetIterable i1 env x
          let _ ← runOwn (.compStart (.ListComp elt gs scope pos) (d + 1) (← holding [x] (pyIter x)) acc env) env
        again (.compLoop (.ListComp elt gs scope pos) d it acc env)) := by
  unfold compTurn
  simp only [h0, h1]
  rfl
theorem compTurnN_last {elt t0 i0 : Expr} {ifs0 : List Expr} {gs : List Comprehension} {d : Nat} {scope : Scope} {pos : Pos} {it acc : Value} {env : Env} (h0 : gs[d]? = some ⟨t0, i0, ifs0, 0⟩) (h1 : gs[d + 1]? = none) :
    compTurn (.ListComp elt gs scope pos) d it acc env = (do
      standAt i0.pos
      match ← pyNext it with
      | none => pure (.done .next)
      | some v =>
        letOwnedTupleGo t0 it v
        assign t0 env v
        let mut ok := true
        for c in ifs0 do
          if ok then ok ← isTrue c env (eval c env)
        if ok then
          (do let _ ← call (.builtin "list.append") [acc, ← eval elt env])
        again (.compLoop (.ListComp elt gs scope pos) d it acc env)) := by
  unfold compTurn
  simp only [h0, h1]
  rfl
section
variable {prog : Program} {w : World} {A : Around} {R : Result → Shared → Prop} {s : Shared} {elt t0 i0 : Expr} {ifs0 : List Expr} {gs : List Comprehension} {d : Nat} {scope : Scope} {pos : Pos} {it acc : Value} {env : Env}
/-- what follows a clause's tests -/
def BodyC (prog : Program) (w : World) (A : Around) (elt : Expr) (gs : List Comprehension) (scope : Scope) (pos : Pos) (d : Nat) (acc : Value) (env : Env) (R' : Shared → Prop) (E : Value → Shared → Prop) (s : Shared) : Prop := match gs[d + 1]? with
  | none => wpAny (model prog w) A (eval elt env) (fun x s₄ => wpAny (model prog w) A (call (.builtin "list.append") [acc, x]) (fun _ s₅ => R' s₅) E s₄) E s
  | some c => wpAny (model prog w) A (eval c.iter env) (fun x s₄ => wpAny (model prog w) A (pyIter x) (fun it1 s₅ =>
      codeAny (model prog w) A (.compStart (.ListComp elt gs scope pos) (d + 1) it1 acc env) (fun r s' => match r with
        | .ok _ => R' s'
        | .error _ => False) s₅) E s₄) E s
/-- the clause behind: none, or a plain one -/
def NextOk (gs : List Comprehension) (d : Nat) (env : Env) : Prop := ∀ c, gs[d + 1]? = some c → c.is_async = 0 ∧ ∀ x, foldedSetIterable c.iter env x = pure x
theorem compLoopN (h0 : gs[d]? = some ⟨t0, i0, ifs0, 0⟩) (hn : NextOk gs d env) (I : Nat → Shared → Prop)
    (turn : ∀ n s, I n s → wpAny (model prog w) A (pyNext it) (fun r s₁ => match r with
      | none => R (.ok .next) s₁
      | some v => wpAny (model prog w) A (letOwnedTupleGo t0 it v) (fun _ s₁' => wpAny (model prog w) A (assign t0 env v) (fun _ s₂ =>
          wpAny (model prog w) A (forIn ifs0 true fun c r => if r = true then do let ok ← isTrue c env (eval c env); pure (ForInStep.yield ok) else pure (ForInStep.yield r)) (fun ok s₃ =>
            if ok = true then BodyC prog w A elt gs scope pos d acc env (fun s' => ∃ m, m < n ∧ I m s') (notedBy (model prog w) A env fun e s' => R (.error e) s') s₃
            else ∃ m, m < n ∧ I m s₃) (notedBy (model prog w) A env fun e s' => R (.error e) s') s₂) (notedBy (model prog w) A env fun e s' => R (.error e) s') s₁') (notedBy (model prog w) A env fun e s' => R (.error e) s') s₁) (notedBy (model prog w) A env fun e s' => R (.error e) s') s)
    (n : Nat) (h : I n s) :
    codeAny (model prog w) A (.compLoop (.ListComp elt gs scope pos) d it acc env) R s := by
  refine codeAny_loop rfl I (fun n s hI => ?_) n h
  show wpAny _ A ((compTurn (.ListComp elt gs scope pos) d it acc env).onRaise (fun x => do noteFrame x env; theTreesLotGoes x)) _ _ s
  refine wpAny_noted ?_
  cases h1 : gs[d + 1]? with
  | none =>
    rw [compTurnN_last h0 h1]
    refine wpAny_bind (wpAny_standAt (wpAny_bind (wpAny_mono (turn n s hI) (fun r s₁ h₁ => ?_) fun _ _ h' => h')))
    cases r with
    | none => exact wpAny_pure h₁
    | some v =>
      refine wpAny_bind (wpAny_mono h₁ (fun _ s₁' h₁' => ?_) fun _ _ h' => h')
      refine wpAny_bind (wpAny_mono h₁' (fun _ s₂ h₂ => wpAny_bind (wpAny_mono h₂ (fun ok s₃ h₃ => ?_) fun _ _ h' => h')) fun _ _ h' => h')
      cases ok with
      | false => exact wpAny_pure ⟨rfl, h₃⟩
      | true =>
        have h₃ : BodyC prog w A elt gs scope pos d acc env (fun s' => ∃ m, m < n ∧ I m s') (notedBy (model prog w) A env fun e s' => R (.error e) s') s₃ := h₃
        unfold BodyC at h₃
        rw [h1] at h₃
        exact wpAny_bind (wpAny_bind (wpAny_mono h₃ (fun x s₄ h₄ => wpAny_bind (wpAny_mono h₄ (fun _ s₅ h₅ => wpAny_pure (wpAny_pure ⟨rfl, h₅⟩)) fun _ _ h' => h')) fun _ _ h' => h'))
  | some c =>
    obtain ⟨t1, i1, ifs1, as1⟩ := c
    obtain ⟨ha, hs⟩ := hn _ h1
    have ha : as1 = 0 := ha
    subst ha
    rw [compTurnN_mid h0 h1]
    refine wpAny_bind (wpAny_standAt (wpAny_bind (wpAny_mono (turn n s hI) (fun r s₁ h₁ => ?_) fun _ _ h' => h')))
    cases r with
    | none => exact wpAny_pure h₁
    | some v =>
      refine wpAny_bind (wpAny_mono h₁ (fun _ s₁' h₁' => ?_) fun _ _ h' => h')
      refine wpAny_bind (wpAny_mono h₁' (fun _ s₂ h₂ => wpAny_bind (wpAny_mono h₂ (fun ok s₃ h₃ => ?_) fun _ _ h' => h')) fun _ _ h' => h')
      cases ok with
      | false => exact wpAny_pure ⟨rfl, h₃⟩
      | true =>
        have h₃ : BodyC prog w A elt gs scope pos d acc env (fun s' => ∃ m, m < n ∧ I m s') (notedBy (model prog w) A env fun e s' => R (.error e) s') s₃ := h₃
        unfold BodyC at h₃
        rw [h1] at h₃
        refine wpAny_bind (wpAny_mono h₃ (fun x s₄ h₄ => ?_) fun _ _ h' => h')
        refine wpAny_bind (wpAny_standAt (wpAny_bind (wpAny_of_eq (hs x) (wpAny_bind (wpAny_holding (wpAny_mono h₄ (fun it1 s₅ h₅ => ?_) fun _ _ h' => h'))))))
        refine wpAny_bind (wpAny_runOwn ?_)
        rw [Around.mark_none]
        refine codeAny_mono h₅ fun r s' hr => ?_
        cases r with
        | ok f =>
          first
            | exact wpAny_pure ⟨rfl, hr⟩
            | exact wpAny_bind (wpAny_pure (wpAny_pure ⟨rfl, hr⟩))
        | error e => exact hr.elim
theorem compStartN (hg : gs[d]? = some ⟨t0, i0, ifs0, 0⟩) (h0 : codeAny (model prog w) A (.compLoop (.ListComp elt gs scope pos) d it acc env) R s)
    (h : wpAny (model prog w) A (pyIter it) (fun it' s' => codeAny (model prog w) A (.compLoop (.ListComp elt gs scope pos) d it' acc env) R s') (notedBy (model prog w) A env fun x s' => R (.error x) s') s) :
    codeAny (model prog w) A (.compStart (.ListComp elt gs scope pos) d it acc env) R s := by
  refine codeAny_of_tree ?_
  show wpAny _ _ ((compStart (.ListComp elt gs scope pos) d it acc env).onRaise (fun x => do noteFrame x env; standAt theWindowsPlace)) _ _ s
  refine wpAny_notedAt ?_
  unfold compStart
  simp only [clausesOf, hg]
  show wpAny _ _ (ask >>= _) _ _ s
  refine wpAny_bind (wpAny_askSetting (wpAny_ite ?_))
  split
  · first
      | exact wpAny_bind (wpAny_pure (wpAny_pure (And.intro rfl h0)))
      | exact wpAny_pure (And.intro rfl h0)
  · first
      | exact wpAny_bind (wpAny_rule (wpAny_bind (wpAny_standAt (wpAny_bind (wpAny_mono h (fun it' s' h' => wpAny_pure (And.intro rfl h')) fun _ _ x => x)))))
      | (refine wpAny_bind (wpAny_rule ?_); show wpAny _ _ (standAt i0.pos >>= _) _ _ s; exact wpAny_bind (wpAny_standAt (wpAny_bind (wpAny_mono h (fun it' s' h' => wpAny_pure (And.intro rfl h')) fun _ _ x => x))))
end
/-! ### the levels -/
structure LvT where
  wi : TI
  g : TG
  tt : TT
  vs : List Nat
def tIn (te : TE) (D : Addr) : List LvT → L2.St → Hp → (Hp → Prop) → Prop
  | [], σ, H, Nx => te σ H fun y H7 => ∃ acc, H7 D = some (.lst acc) ∧ acc.length < sizeLine ∧ Nx (L2.upd H7 D (.lst (acc ++ [y])))
  | l :: ls, σ, H, Nx => l.wi σ H fun J1 H4 => ∃ W1 : Nat → Nat → Hp → Prop, (∃ m, W1 0 m H4) ∧ ∀ j k H, W1 j k H →
      (J1.stop j H ∧ Nx H) ∨ (J1.go j H ∧ ∃ Nx1 : Hp → Prop, (∀ H', Nx1 H' → ∃ k', k' < k ∧ W1 (j + 1) k' H') ∧ ∀ x H', J1.yld j H x H' → l.g x (wipe σ l.vs) H' fun σ3 H5 => wipe σ3 l.vs = wipe σ l.vs ∧ l.tt σ3 H5 fun b H6 =>
        if b = true then tIn te D ls σ3 H6 Nx1 else Nx1 H6)
def tLcN (wi : TI) (g : TG) (tt : TT) (te : TE) (vs : List Nat) (ls : List LvT) : TE := fun σ H Q => wi σ H fun J H1 => ∀ D, H1 D = none → ∃ W : Nat → Nat → Hp → Prop, (∃ m, W 0 m (L2.upd H1 D (.lst []))) ∧ ∀ i m H, W i m H →
  (J.stop i H ∧ Q (.ref D) H) ∨ (J.go i H ∧ ∃ Nx : Hp → Prop, (∀ H', Nx H' → ∃ m', m' < m ∧ W (i + 1) m' H') ∧ ∀ x H', J.yld i H x H' → g x (wipe σ vs) H' fun σ2 H2 => wipe σ2 vs = wipe σ vs ∧ tt σ2 H2 fun b H3 =>
    if b = true then tIn te D ls σ2 H3 Nx else Nx H3)
/-- the clauses behind, in the block's context; vs: the names of the clause before -/
inductive Lvs (X : Cx) : List Comprehension → List LvT → List Nat → Prop
  | nil {vs : List Nat} : Lvs X [] [] vs
  | cons {tg iter : Expr} {ifs : List Expr} {gs : List Comprehension} {wi : TI} {g : TG} {tt : TT} {vs1 : List Nat} {ls : List LvT} {vs : List Nat} (hi : PI X tg iter wi) (hg : PG X tg g) (ht : PTs X ifs tt) (hs : ∀ x, foldedSetIterable iter X.env x = pure x) (hv : ∀ i ∈ vs1, i ∈ vs)
    (r : Lvs X gs ls vs1) : Lvs X (⟨tg, iter, ifs, 0⟩ :: gs) (⟨wi, g, tt, vs1⟩ :: ls) vs
theorem Lvs.next {X : Cx} {gs : List Comprehension} {ls : List LvT} {vs : List Nat} (h : Lvs X gs ls vs) {all : List Comprehension} {d : Nat} (hd : all.drop (d + 1) = gs) : NextOk all d X.env := fun c hc => by
  have e : all[d + 1]? = gs[0]? := by rw [← hd, List.getElem?_drop, Nat.add_zero]
  rw [e] at hc
  cases h with
  | nil => cases hc
  | cons hi hg ht hs hv r =>
    cases hc
    exact ⟨rfl, hs⟩
section
variable {X : Cx}
theorem inner {elt : Expr} {te : TE} {all : List Comprehension} {scope : Scope} {pos : Pos} {D : Addr} (hc : X.calm = true) (hx : X.xe = fun _ _ => False) (he : PE X elt te) :
    ∀ {gs : List Comprehension} {ls : List LvT} {vs : List Nat}, Lvs X gs ls vs → ∀ (d : Nat), all.drop (d + 1) = gs → ∀ (pins : List (Addr × Obj)) (s : Shared) (σ : L2.St) (H : Hp) (Nx : Hp → Prop) (R' : Shared → Prop), Inv X pins σ H s → tIn te D ls σ H Nx →
      (∀ (s' : Shared) (H' : Hp) (σ' : L2.St), Inv X pins σ' H' s' → σ.length = σ'.length → (∀ (j : Nat) v, j ∉ vs → σ[j]? = some (some v) → σ'[j]? = some (some v)) → Nx H' → R' s') →
      ∀ (E : Value → Shared → Prop), BodyC X.prog X.w X.A elt all scope pos d (.ref D) X.env R' E s := by
  intro gs ls vs h
  induction h with
  | nil =>
    intro d hd pins s σ H Nx R' I hin fin E
    have h1 : all[d + 1]? = none := by
      rw [show all[d + 1]? = (all.drop (d + 1))[0]? by rw [List.getElem?_drop, Nat.add_zero], hd]
      rfl
    unfold BodyC
    rw [h1]
    have pe := he.run pins s σ H _ I hin
    rw [hx] at pe
    refine thnF pe fun z s10 ⟨yv, H10, I10, r10, acc, hD10, hz10, nx⟩ => ?_
    exact app_ok I10 hD10 hz10 r10 fun s11 I11 => fin _ _ σ I11 rfl (fun _ _ _ e => e) nx
  | @cons tg iter ifs gs wi1 g1 tt1 vs1 ls vs hi hg ht hs hv r ih =>
    intro d hd pins s σ H Nx R' I hin fin E
    have h1 : all[d + 1]? = some ⟨tg, iter, ifs, 0⟩ := by
      rw [show all[d + 1]? = (all.drop (d + 1))[0]? by rw [List.getElem?_drop, Nat.add_zero], hd]
      rfl
    have hd2 : all.drop (d + 1 + 1) = gs := by
      rw [← List.drop_drop, hd]
      rfl
    unfold BodyC
    rw [h1]
    have pi1 := hi.run pins s σ H _ I hin
    rw [hx] at pi1
    refine thnF pi1 fun xv s10 hx1 => thnF hx1 fun itv s11 h11 => ?_
    obtain ⟨it1, fp1, tn1, J1, H11, e1, I11, T1, st11, f11, W1, ⟨m1, w1⟩, turn1⟩ := h11
    subst e1
    have stat1 : ∀ {H' : Hp}, (∀ b ∈ fp1, H' b = none) → ∀ b ∈ fp1, FpOk X pins H' b := fun hn b hb => ⟨hn b hb, (f11 b hb).2⟩
    have loop1 : codeAny (model X.prog X.w) X.A (.compLoop (.ListComp elt all scope pos) (d + 1) (.ref it1) (.ref D) X.env) (fun r s' => match r with
        | .ok _ => R' s'
        | .error _ => False) s11 := by
      refine compLoopN h1 (r.next hd2) (fun k s' => ∃ j H', Inv X pins (wipe σ vs1) H' s' ∧ tn1 j s'.heap ∧ (∀ b ∈ fp1, H' b = none) ∧ W1 j k H') ?_ m1 ⟨0, H11, I11.weak (wipe_length _ _) (fun j v e => (wipe_some e).1), st11, fun b hb => (f11 b hb).1, w1⟩
      rintro k s12 ⟨j, H12, I12, st12, n12, w12⟩
      rcases turn1 j k H12 w12 with ⟨stop1, nx1⟩ | ⟨go1, Nx1, hNx1, step1⟩
      · refine thnF (T1.done X rfl rfl rfl hc j _ s12 (wipe σ vs1) H12 (fun _ _ => False) I12 (stat1 n12) st12 stop1) fun r s13 ⟨hr, I13⟩ => ?_
        subst hr
        exact fin _ _ (wipe σ vs1) I13 (wipe_length σ vs1).symm (fun j v hj e => by rw [wipe_out fun z => hj (hv j z)]; exact e) nx1
      · refine thnF (T1.item X rfl rfl rfl hc j _ s12 (wipe σ vs1) H12 (fun _ _ => False) I12 (stat1 n12) st12 go1) fun r s13 ⟨u1, hr, h13⟩ => ?_
        subst hr
        refine thnF h13 fun _ s14 ⟨x1, H14, I14, r14, y14, st14, n14⟩ => ?_
        have I14' := I14.pinned (stat1 n14) (T1.obj _ _ st14)
        have pg := hg.run _ s14 (wipe σ vs1) H14 x1 u1 _ I14' r14 (step1 x1 H14 y14)
        rw [hx] at pg
        refine thnF pg fun _ s15 ⟨σ15, H15, I15, hw15, q15⟩ => ?_
        have pt := ht.run _ s15 σ15 H15 _ I15 q15
        rw [hx] at pt
        refine thnF pt fun b1 s16 ⟨H16, I16, q16⟩ => ?_
        have fin1 : ∀ {s' : Shared} {H' : Hp} {σ' : L2.St}, Inv X (pins ++ pinsAt fp1 s14.heap) σ' H' s' → σ15.length = σ'.length → (∀ (j : Nat) v, j ∉ vs1 → σ15[j]? = some (some v) → σ'[j]? = some (some v)) → Nx1 H' →
            ∃ m, m < k ∧ ∃ j H', Inv X pins (wipe σ vs1) H' s' ∧ tn1 j s'.heap ∧ (∀ b ∈ fp1, H' b = none) ∧ W1 j m H' := fun {s' H' σ'} I' hl hk nx => by
          obtain ⟨m', hm, w'⟩ := hNx1 H' nx
          have pin' : ∀ b ∈ fp1, ∀ o, s14.heap.get? b = some o → s'.heap.get? b = some o ∧ H' b = none := fun b hb o e =>
            let z := I'.pin (b, o) (List.mem_append_right _ (List.mem_append_right _ (mem_pinsAt hb e)))
            ⟨z.1, z.2.1⟩
          refine ⟨m', hm, j + 1, H', I'.unpinned.weak (by rw [← hl, ← hw15, wipe_length]) (fun j v e => ?_), T1.keep _ _ _ st14 fun b hb o e => (pin' b hb o e).1, fun b hb => ?_, w'⟩
          · rw [← hw15] at e
            obtain ⟨a1, a2⟩ := wipe_some e
            exact hk j v a2 a1
          · obtain ⟨o, e, _⟩ := T1.obj _ _ st14 b hb
            exact (pin' b hb o e).2
        cases b1 with
        | false =>
          simp only [Bool.false_eq_true, if_false] at q16 ⊢
          exact fin1 I16 rfl (fun _ _ _ e => e) q16
        | true =>
          simp only [if_true] at q16 ⊢
          exact ih (d + 1) hd2 _ s16 σ15 H16 Nx1 _ I16 q16 (fun s' H' σ' I' hl hk nx => fin1 I' hl hk nx) _
    exact compStartN h1 loop1 (T1.self X.A 0 _ _ _ st11 loop1)
/-- a list comprehension of any number of clauses -/
theorem pe_lcN {elt tg iter : Expr} {ifs : List Expr} {gs : List Comprehension} {ls : List LvT} {scope : Scope} {own : List (Str × Nat)} {pos : Pos} {wi : TI} {g : TG} {tt : TT} {te : TE} (hc : X.calm = true) (hN : X.N.Nodup) (hi : PI X tg iter wi)
    (ok : BlkOk X.N X.env.scope scope own)
    (hb : ∀ (s : Shared) (H : Hp) (C : Addr) (cl : List (Str × Addr)) (fp : List Addr), PG (X.blk s H scope (compEnvC scope cl C X.env) fp) tg g ∧ PTs (X.blk s H scope (compEnvC scope cl C X.env) fp) ifs tt ∧
      Lvs (X.blk s H scope (compEnvC scope cl C X.env) fp) gs ls (own.map (·.2)) ∧ PE (X.blk s H scope (compEnvC scope cl C X.env) fp) elt te)
    (hs : ∀ x, foldedSetIterable iter X.env x = pure x := by intro _; rfl) : PE X (.ListComp elt (⟨tg, iter, ifs, 0⟩ :: gs) scope pos) (tLcN wi g tt te (own.map (·.2)) ls) := by
  refine ⟨fun pins s σ H Q I h => ?_⟩
  rw [eval_ListComp]
  have hfree : ∀ y ∈ scope.names, y.2 = .free → ∃ c, X.env.cells.lookup y.1 = some c := fun y hy e => (ok.free y hy e).elim (fun k => I.ok.has _ (.inl k)) (fun k => I.ok.has _ (.inr k))
  refine wpAny_comprehension_free (use := none) rfl hs (closure_ok hfree) ok.kind (fun y hy e => by rw [ok.uniq y hy, e]) (thn (hi.run pins s σ H _ I h) fun xv s1 hx => thn hx fun itv s2 h2 => ?_)
  obtain ⟨it, fp, tn, J, H2, rfl, I2, T, st2, f2, q⟩ := h2
  refine wpAny_newObj_type (newEnv_comp ?_) (by show 0 ≤ sizeLine; decide)
  generalize hD : s2.heap.objs.size = D
  obtain ⟨W, ⟨m0, w0⟩, turn⟩ := q D (I2.hok.fresh (Nat.le_of_eq hD))
  generalize hs3 : ({ s2 with heap := s2.heap.push { cls := .type "list", data := .seq ([] : List Value).toArray } } : Shared) = s3
  have I3 : Inv X pins σ (L2.upd H2 D (.lst [])) s3 := by
    rw [← hs3]
    refine I2.laid (t' := s2.toks) (fun b o e => Heap.get?_push_of_some _ e) (Nat.le_of_eq hD) ⟨Nat.zero_le _, [], 0, .nil, ?_⟩
    rw [← hD]
    exact Heap.get?_push_size _ rfl
  have h3 : s3.heap = s2.heap.push { cls := .type "list", data := .seq ([] : List Value).toArray } := by rw [← hs3]
  have f3 : ∀ b ∈ fp, FpOk X pins (L2.upd H2 D (.lst [])) b ∧ b < s3.heap.objs.size := fun b hb => by
    obtain ⟨o, e, _⟩ := T.obj _ _ st2 b hb
    have hlt := Heap.lt_size e
    refine ⟨⟨?_, (f2 b hb).2⟩, by rw [h3, Heap.size_push]; exact Nat.lt_succ_of_lt hlt⟩
    rw [upd_ne (by rw [← hD]; exact Nat.ne_of_lt hlt)]
    exact (f2 b hb).1
  have st3 : tn 0 s3.heap := T.keep _ _ _ st2 fun b _ o e => by rw [h3]; exact Heap.get?_push_of_some _ e
  have I4 := block_start I3 ok hN f3
  have pb := hb s3 (L2.upd H2 D (.lst [])) s3.heap.objs.size (cellsFrom (s3.heap.objs.size + 1) scope.names (cloFrom X.env.cells scope.names [])) fp
  show codeAny _ _ (.compStart (.ListComp elt (⟨tg, iter, ifs, 0⟩ :: gs) scope pos) 0 (.ref it) (.ref D) (compEnvC scope (cellsFrom (s3.heap.objs.size + 1) scope.names (cloFrom X.env.cells scope.names [])) s3.heap.objs.size X.env)) (compPost (model X.prog X.w) X.A X.xe none (EP X pins σ Q) (.ref D) s3.heap.objs.size) _
  have nfp : ∀ b ∈ fp, (L2.upd H2 D (.lst [])) b = none := fun b hb => (f3 b hb).1.1
  generalize hce : compEnvC scope (cellsFrom (s3.heap.objs.size + 1) scope.names (cloFrom X.env.cells scope.names [])) s3.heap.objs.size X.env = ce at I4 pb ⊢
  have cL : ce.locals = s3.heap.objs.size := by subst hce; rfl
  generalize hH3 : L2.upd H2 D (.lst []) = H3 at I3 I4 pb w0 nfp f3
  generalize hs4 : ({ s3 with heap := pushCells (s3.heap.push { cls := .type "dict", data := .dict #[] }) scope.names } : Shared) = s4 at I4 ⊢
  have st4 : tn 0 s4.heap := T.keep _ _ _ st3 fun b _ o e => by rw [← hs4]; exact pushCells_keeps _ _ _ _ (Heap.get?_push_of_some _ e)
  obtain ⟨pg, pt, pl, pe⟩ := pb
  have stat : ∀ {σ' : L2.St} {H' : Hp} {s' : Shared}, Inv (X.blk s3 H3 scope ce fp) [] σ' H' s' → (∀ b ∈ fp, H' b = none) → ∀ b ∈ fp, FpOk (X.blk s3 H3 scope ce fp) [] H' b := fun {σ' H' s'} I' hn b hb =>
    ⟨hn b hb, (I'.ok.exf b hb).1, I'.ok.exfs b hb, .inl hb, fun x c e => (I'.ok.exf b hb).2 x c e, fun p hp => absurd (show p ∈ ([] : List (Addr × Obj)) ++ [] from hp) (by simp)⟩
  have loop : codeAny (model X.prog X.w) X.A (.compLoop (.ListComp elt (⟨tg, iter, ifs, 0⟩ :: gs) scope pos) 0 (.ref it) (.ref D) ce) (compPost (model X.prog X.w) X.A X.xe none (EP X pins σ Q) (.ref D) s3.heap.objs.size) s4 := by
    refine compLoopN rfl (pl.next (d := 0) rfl) (fun n s' => ∃ i H', Inv (X.blk s3 H3 scope ce fp) [] (wipe σ (own.map (·.2))) H' s' ∧ tn i s'.heap ∧ (∀ b ∈ fp, H' b = none) ∧ W i n H') ?_ m0 ⟨0, H3, I4, st4, nfp, w0⟩
    rintro n s5 ⟨i, H5, I5, st5, n5, w5⟩
    rcases turn i n H5 w5 with ⟨stop, qq⟩ | ⟨go, Nx, hNx, step⟩
    · refine thnF (T.done (X.blk s3 H3 scope ce fp) rfl rfl rfl hc i [] s5 _ H5 (fun _ _ => False) I5 (stat I5 n5) st5 stop) fun r s6 ⟨hr, I6⟩ => ?_
      subst hr
      have I7 : Inv X pins σ H5 s6 := I3.call' (ch := fp) I6.os I6.base I6.hok I6.bare fun b hb => ⟨(f3 b hb).1.2.2.2.1, (f3 b hb).1.2.1, (f3 b hb).1.2.2.2.2.1, (f3 b hb).1.2.2.2.2.2⟩
      have nC : H5 s3.heap.objs.size = none := by
        have z : H5 ce.locals = none := I6.free
        rw [cL] at z
        exact z
      obtain ⟨m, hn, _⟩ := I6.loc
      have hn : s6.heap.Ns ce.locals m := hn
      rw [cL] at hn
      obtain ⟨f0, f1, f2', f3', f4, f5⟩ := I3.fpOk (Nat.le_refl _) nC
      refine ⟨m, hn, fun h'' sb => ?_⟩
      exact ⟨.ref D, H5, I7.turned (t' := s6.toks) (fun b o hb e => (sb.2 b hb).trans e) f0 f1 f3' f4 f5, rfl, qq⟩
    · refine thnF (T.item (X.blk s3 H3 scope ce fp) rfl rfl rfl hc i [] s5 _ H5 (fun _ _ => False) I5 (stat I5 n5) st5 go) fun r s6 ⟨u, hr, h6⟩ => ?_
      subst hr
      refine thnF h6 fun _ s7 ⟨x, H7, I7, r7, y7, st7, n7⟩ => ?_
      have I7' := I7.pinned (stat I7 n7) (T.obj _ _ st7)
      refine thnF (pg.run _ s7 _ H7 x u _ I7' r7 (step x H7 y7)) fun _ s8 ⟨σ8, H8, I8, hw8, q8⟩ => ?_
      refine thnF (pt.run _ s8 σ8 H8 _ I8 q8) fun b s9 ⟨H9, I9, q9⟩ => ?_
      have fin : ∀ {σ9 : L2.St} {s' : Shared} {H' : Hp}, Inv (X.blk s3 H3 scope ce fp) ([] ++ pinsAt fp s7.heap) σ9 H' s' → σ8.length = σ9.length → (∀ (j : Nat) v, j ∉ own.map (·.2) → σ8[j]? = some (some v) → σ9[j]? = some (some v)) → Nx H' →
          ∃ m, m < n ∧ ∃ i H', Inv (X.blk s3 H3 scope ce fp) [] (wipe σ (own.map (·.2))) H' s' ∧ tn i s'.heap ∧ (∀ b ∈ fp, H' b = none) ∧ W i m H' := fun {σ9 s' H'} I' hl hk nx => by
        obtain ⟨m', hm, w'⟩ := hNx H' nx
        have pin' : ∀ b ∈ fp, ∀ o, s7.heap.get? b = some o → s'.heap.get? b = some o ∧ H' b = none := fun b hb o e =>
          let z := I'.pin (b, o) (List.mem_append_right _ (List.mem_append_right _ (mem_pinsAt hb e)))
          ⟨z.1, z.2.1⟩
        refine ⟨m', hm, i + 1, H', (I'.unpinned (pins := [])).weak (by rw [← hl, ← hw8, wipe_length]) (fun j v e => ?_), T.keep _ _ _ st7 fun b hb o e => (pin' b hb o e).1, fun b hb => ?_, w'⟩
        · rw [← hw8] at e
          obtain ⟨a1, a2⟩ := wipe_some e
          exact hk j v a2 a1
        · obtain ⟨o, e, _⟩ := T.obj _ _ st7 b hb
          exact (pin' b hb o e).2
      cases b with
      | false =>
        simp only [Bool.false_eq_true, if_false] at q9 ⊢
        exact fin I9 rfl (fun _ _ _ e => e) q9
      | true =>
        simp only [if_true] at q9 ⊢
        exact inner (X := X.blk s3 H3 scope ce fp) hc rfl pe pl 0 rfl _ s9 σ8 H9 Nx _ I9 q9 (fun s' H' σ' I' hl hk nx => fin I' hl hk nx) _
  exact codeAny_compStart_list loop (T.self X.A 0 _ _ _ st4 loop)
end
/-! ### over tuples that stay: each level adds its blocks -/
section
variable {α : Type} {K : PySem.W.Frag} {te : TE} {ls : List LvT} {σ : L2.St} {H0 : Hp} {D : Addr} {G : Hp → V → α → Prop} {a : Addr} {xs : List V}
def LcAt (H0 : Hp) (D : Addr) (G : Hp → V → α → Prop) (ds : List α) (H : Hp) : Prop := H0 D = none ∧ Ex H0 H ∧ ∃ acc, H D = some (.lst acc) ∧ Paired (G H) acc ds
def RunsN (te : TE) (ls : List LvT) (σ : L2.St) (H0 : Hp) (D : Addr) (G : Hp → V → α → Prop) (blk : List α) : Prop := ∀ H ds (Nx : Hp → Prop), ds.length + blk.length ≤ 100000 → LcAt H0 D G ds H → (∀ H', LcAt H0 D G (ds ++ blk) H' → Nx H') → tIn te D ls σ H Nx
theorem runs_nil {d : α} (hG : ∀ H1 H2 y d, TrT K H1 H2 → G H1 y d → G H2 y d) (he : ∀ H (Q : VK), Ex H0 H → (∀ y H', Ex H H' → G H' y d → Q y H') → te σ H Q) : RunsN te [] σ H0 D G [d] := by
  intro H ds Nx hz ⟨n, e, acc, ha, pa⟩ k
  refine he H _ e fun y H' e' gy => ⟨acc, e' _ _ ha, Nat.lt_of_le_of_lt (by rw [Paired.length pa]; simp at hz; omega : acc.length ≤ 100000) (by decide), k _ ⟨n, Evl.Ex.mut (e.trans e') n, _, upd_same, ?_⟩⟩
  have u : TrT K H' (L2.upd H' D (.lst (acc ++ [y]))) := TrT.upd (e' _ _ ha)
  exact pd_app (L2.Paired.mapP pa fun _ _ q => hG _ _ _ _ u (hG _ _ _ _ (TrT.of e') q)) (.cons (hG _ _ _ _ u gy) .nil)
theorem flat_len {f : V → List α} : ∀ (xs : List V) (n : Nat), (((xs.take n).flatMap f).length) ≤ (xs.flatMap f).length
  | [], _ => by simp
  | x :: xs, 0 => by simp
  | x :: xs, n + 1 => by
    have := flat_len (f := f) xs n
    rw [List.take_succ_cons, List.flatMap_cons, List.flatMap_cons, List.length_append, List.length_append]
    omega
theorem take_flat {f : V → List α} {x : V} {n : Nat} (h : xs[n]? = some x) : (xs.take (n + 1)).flatMap f = (xs.take n).flatMap f ++ f x := by
  rw [List.take_succ, h, List.flatMap_append]
  simp
/-- the turns of one level -/
theorem turns_tup {i : Nat} {vs : List Nat} {ds : List α} {H : Hp} {Nx : Hp → Prop} (q : ∀ H, SqT K H a xs) (blk : V → List α) (hs : ∀ x ∈ xs, RunsN te ls ((wipe σ vs).set i (some x)) H0 D G (blk x)) (hw : ∀ x, wipe ((wipe σ vs).set i (some x)) vs = wipe σ vs)
    (hz : ds.length + (xs.flatMap blk).length ≤ 100000) (h0 : LcAt H0 D G ds H) (k : ∀ H', LcAt H0 D G (ds ++ xs.flatMap blk) H' → Nx H') :
    ∃ W1 : Nat → Nat → Hp → Prop, (∃ m, W1 0 m H) ∧ ∀ j n H, W1 j n H → ((Itt K a).stop j H ∧ Nx H) ∨ ((Itt K a).go j H ∧ ∃ Nx1 : Hp → Prop, (∀ H', Nx1 H' → ∃ k', k' < n ∧ W1 (j + 1) k' H') ∧ ∀ x H', (Itt K a).yld j H x H' →
      gName i x (wipe σ vs) H' fun σ3 H5 => wipe σ3 vs = wipe σ vs ∧ tYes σ3 H5 fun b H6 => if b = true then tIn te D ls σ3 H6 Nx1 else Nx1 H6) := by
  refine ⟨fun j n H => n = xs.length - j ∧ j ≤ xs.length ∧ LcAt H0 D G (ds ++ (xs.take j).flatMap blk) H, ⟨xs.length, rfl, Nat.zero_le _, by simpa using h0⟩, ?_⟩
  rintro j n H1 ⟨rfl, hj, h1⟩
  by_cases lt : j < xs.length
  · have hx := List.getElem?_eq_getElem lt
    refine .inr ⟨⟨xs, _, q H1, hx⟩, LcAt H0 D G (ds ++ (xs.take (j + 1)).flatMap blk), fun H' h' => ⟨xs.length - (j + 1), by omega, rfl, lt, h'⟩, fun x H' y => ?_⟩
    obtain ⟨rfl, hy⟩ := y
    have ex := hy xs (q _)
    refine ⟨hw x, ?_⟩
    show if true = true then tIn te D ls ((wipe σ vs).set i (some x)) H' (LcAt H0 D G (ds ++ (xs.take (j + 1)).flatMap blk)) else LcAt H0 D G (ds ++ (xs.take (j + 1)).flatMap blk) H'
    rw [if_pos rfl]
    have l1 := flat_len (f := blk) xs (j + 1)
    rw [take_flat ex, List.length_append] at l1
    refine hs x (List.mem_of_getElem? ex) _ _ _ (by rw [List.length_append]; omega) h1 fun H2 h2 => ?_
    rw [take_flat ex, ← List.append_assoc]
    exact h2
  · have e : j = xs.length := by omega
    subst e
    rw [List.take_length] at h1
    exact .inl ⟨⟨xs, q _, Nat.le_refl _⟩, k _ h1⟩
theorem runs_tup {i : Nat} {vs : List Nat} (q : ∀ H, SqT K H a xs) (blk : V → List α) (hs : ∀ x ∈ xs, RunsN te ls ((wipe σ vs).set i (some x)) H0 D G (blk x)) (hw : ∀ x, wipe ((wipe σ vs).set i (some x)) vs = wipe σ vs) :
    RunsN te (⟨iTup K (tC (.ref a)), gName i, tYes, vs⟩ :: ls) σ H0 D G (xs.flatMap blk) := by
  intro H ds Nx hz h0 k
  exact ⟨a, rfl, ⟨xs, q H⟩, turns_tup q blk hs hw hz h0 k⟩
theorem g_lcNT {i : Nat} {vs : List Nat} {H : Hp} {Q : VK} (q : ∀ H, SqT K H a xs) (blk : V → List α) (hs : ∀ D, ∀ x ∈ xs, RunsN te ls ((wipe σ vs).set i (some x)) H D G (blk x)) (hw : ∀ x, wipe ((wipe σ vs).set i (some x)) vs = wipe σ vs)
    (hz : (xs.flatMap blk).length ≤ 100000) (k : ∀ D H' acc, H D = none → Ex H H' → H' D = some (.lst acc) → Paired (G H') acc (xs.flatMap blk) → Q (.ref D) H') : tLcN (iTup K (tC (.ref a))) (gName i) tYes te vs ls σ H Q := by
  refine ⟨a, rfl, ⟨xs, q H⟩, fun D hD => ?_⟩
  exact turns_tup (H0 := H) (D := D) (ds := []) q blk (hs D) hw (by simpa using hz) ⟨hD, Evl.Ex.new hD, [], upd_same, .nil⟩ fun H' ⟨n, e, acc, ha, pa⟩ => k D H' acc n e ha pa
end
/-! ### how many different texts -/
def cntS (xs : List Str) : Nat → Nat
  | 0 => 0
  | i + 1 => if ((xs.take i).any fun y => y == xs.getD i Str.empty) = true then cntS xs i else cntS xs i + 1
theorem cntS_le (xs : List Str) : ∀ i, cntS xs i ≤ i
  | 0 => Nat.le_refl _
  | i + 1 => by
    have := cntS_le xs i
    unfold cntS
    split <;> omega
theorem cntS_nodup {xs : List Str} (h : xs.Nodup) : ∀ i, i ≤ xs.length → cntS xs i = i
  | 0, _ => rfl
  | i + 1, hi => by
    have ih := cntS_nodup h i (Nat.le_of_lt hi)
    have lt : i < xs.length := hi
    have eg : xs.getD i Str.empty = xs[i] := by rw [List.getD_eq_getElem?_getD, List.getElem?_eq_getElem lt] <;> rfl
    have no : ((xs.take i).any fun y => y == xs.getD i Str.empty) = false := by
      rw [eg]
      refine Bool.eq_false_iff.mpr fun c => ?_
      obtain ⟨y, hy, ey⟩ := List.any_eq_true.mp c
      obtain ⟨j, hj, e⟩ := List.mem_take_iff_getElem.mp hy
      have e2 : y = xs[i] := eq_of_beq ey
      exact List.pairwise_iff_getElem.mp h j i (by omega) lt (by omega) (by rw [e, e2])
    unfold cntS
    rw [no, if_neg (by decide), ih]
section
variable {P : Program} {w : World} {A : Around} {R : Result → Shared → Prop} {E : Value → Shared → Prop} {s : Shared}
abbrev TxSet (P : Program) (w : World) (h : Heap) (S : Addr) (xs : List Str) (i : Nat) : Prop := h.SetOf (PySem.strKind P w) S (fun z => (xs.take i).any fun y => y == z) (cntS xs i)
theorem TxSet.keep {h h' : Heap} {S : Addr} {xs : List Str} {i : Nat} (q : TxSet P w h S xs i) (k : ∀ o, h.get? S = some o → h'.get? S = some o) : TxSet P w h' S xs i := by
  obtain ⟨o, es, ep, t, ho, r⟩ := q
  exact ⟨o, es, ep, t, k o ho, r⟩
theorem take_any (xs : List Str) (i : Nat) (hi : i < xs.length) (z : Str) : ((xs.take (i + 1)).any fun y => y == z) = (((xs.take i).any fun y => y == z) || decide (z = xs.getD i Str.empty)) := by
  have eg : xs.getD i Str.empty = xs[i] := by rw [List.getD_eq_getElem?_getD, List.getElem?_eq_getElem hi] <;> rfl
  rw [List.take_add_one, List.getElem?_eq_getElem hi, eg]
  show (xs.take i ++ [xs[i]]).any _ = _
  rw [List.any_append]
  congr 1
  show (xs[i] == z || false) = decide (z = xs[i])
  rw [Bool.or_false]
  by_cases e : z = xs[i]
  · rw [e, decide_eq_true rfl]
    exact beq_self_eq_true _
  · rw [decide_eq_false e]
    exact beq_eq_false_iff_ne.mpr fun q => e q.symm
/-- the set takes the texts in one by one -/
theorem set_takes {I : Addr} {fp wr : List Addr} {G : Array GenState → Array GenState → Prop} {Pv : Nat → Value → Prop} {St : Nat → Shared → Prop} {xs : List Str} {S : Addr}
    (W : WalksS P w A.in1 I fp wr G xs.length Pv St) (out : S ∉ fp) (few : xs.length + 1 < scanBound) (val : ∀ i v, Pv i v → ∃ t, v = .str (xs.getD i Str.empty) t) :
    ∀ (left i : Nat) (s : Shared), xs.length - i = left → i ≤ xs.length → St i s → TxSet P w s.heap S xs i →
      (∀ s', Moved (S :: wr) G s s' → TxSet P w s'.heap S xs xs.length → R (.ok (.ret .none)) s') → codeAny (model P w) A (.builtin "set.update.loop" ⟨[.ref S, .ref I], []⟩) R s := by
  have out' : S ∉ wr := fun q => out (W.sub _ q)
  have sub : ∀ b ∈ wr, b ∈ S :: wr := fun b q => List.mem_cons_of_mem _ q
  intro left
  induction left with
  | zero =>
    intro i s e hi st q fin
    obtain rfl : i = xs.length := by omega
    refine codeAny_builtin F.entry_set_update_loop ?_
    rw [Around.under_plainId F.plain_set_update_loop _]
    show wpAny _ A.in1 (do let z ← pyNext (.ref I); _) _ _ s
    refine wpAny_bind (W.done s _ _ st fun s1 mv => ?_)
    show wpAny _ A.in1 (ret Value.none) _ _ s1
    exact wpAny_pure (fin s1 (mv.mono sub) (q.keep fun o e => mv.heap S o out' e))
  | succ left ih =>
    intro i s e hi st q fin
    have lt : i < xs.length := by omega
    refine codeAny_builtin F.entry_set_update_loop ?_
    rw [Around.under_plainId F.plain_set_update_loop _]
    show wpAny _ A.in1 (do let z ← pyNext (.ref I); _) _ _ s
    refine wpAny_bind (W.item i s _ _ lt st fun v s1 hv st1 mv => ?_)
    obtain ⟨t, rfl⟩ := val i v hv
    have q1 : TxSet P w s1.heap S xs i := q.keep fun o e => mv.heap S o out' e
    show wpAny _ A.in1 (do let z ← holding [Value.str (xs.getD i Str.empty) t] (setAdd S (.str (xs.getD i Str.empty) t)); _) _ _ s1
    refine wpAny_bind (wpAny_holding ?_)
    unfold setAdd
    refine wpAny_holding (wpAny_bind ((PySem.strKind P w).pyHash (k := xs.getD i Str.empty) (strKind_is _ _ _ _) ?_))
    refine wpAny_setAddHashed_of (knd := PySem.strKind P w) (s := { s1 with toks := s1.toks + 1 }) (strKind_is _ _ _ _) rfl q1 (by have := cntS_le xs i; omega) fun h2 sb q2 => ?_
    have q3 : TxSet P w h2 S xs (i + 1) := PyProof.Rows.SetOf_congr q2 (fun z => (take_any xs i lt z).symm) rfl
    refine wpAny_pure ⟨plainId_quiet F.plain_set_update_loop _, ih (i + 1) _ (by omega) lt (W.frame _ s1 _ _ st1 (Nat.le_succ _) fun b hb o e => ?_) q3 fun s2 mv2 q4 => ?_⟩
    · exact (sb.2 b fun z : b = S => out (by rw [← z]; exact hb)).trans e
    · refine fin s2 (Moved.trans W.gtrans ((mv.mono sub).then_heap (Nat.le_succ _) fun b o hb e => ?_) mv2) q4
      exact (sb.2 b fun z : b = S => hb (by rw [z]; exact List.mem_cons_self)).trans e
end
section
variable {P : Program} {w : World} {A : Around} {E : Value → Shared → Prop} {s : Shared}
/-- a set of nothing, just laid -/
abbrev bareS (led : Bool) : Obj := { cls := .type "set", dict := none, data := .set #[] 0 (.fresh 0 0 led) }
set_option maxHeartbeats 8000000 in
/-- set(a tuple of texts) -/
theorem call_setTx {l : Addr} {its : Array Value} {xs : List Str} {Q : Value → Shared → Prop} (calm : A.handled = none) (tup : s.heap.IsTuple l its) (are : PyProof.Rows.StrsAre its.toList xs) (few : xs.length + 1 < scanBound)
    (k : ∀ (h' : Heap) (tk : Nat), TxSet P w h' s.heap.objs.size xs xs.length → (∀ b o, b < s.heap.objs.size → s.heap.get? b = some o → h'.get? b = some o) → Q (.ref s.heap.objs.size) { s with heap := h', toks := tk }) :
    wpAny (model P w) A (call (.type "set") [.ref l]) Q E s := by
  obtain ⟨mc, ml, hmro⟩ := F.called_set.mro
  have hmk := F.called_set.made; have hsb := F.called_set.sub
  refine wpAny_call (codeAny_of_tree ?_)
  show wpAny _ _ (callAny (.type "set") ⟨[.ref l], []⟩) _ _ _
  refine wpAny_pure ⟨Code.quiet_builtin _ (by decide +kernel), codeAny_builtin F.entry_type_call ?_⟩
  rw [Around.under_plain (weight_type_call_type "set" [.ref l] []) rfl]
  have n1 := F.called_set.notType; have n2 := F.called_set.canCreate; have n3 := F.typeCall_set_1 (.ref l)
  repeat (any_goals (first | assumption | wp_step))
  refine codeAny_mono (code_set_new_1 (.ref l) (E := E) (Q₁ := fun v z => ∃ led : Bool, v = .ref s.heap.objs.size ∧ z = { s with heap := s.heap.push (bareS led) }) fun led => ⟨led, rfl, rfl⟩) fun r s1 hr => ?_
  cases r with
  | error e => exact hr
  | ok fl =>
    cases fl with
    | ret v =>
      obtain ⟨led, rfl, rfl⟩ := hr
      have new : (s.heap.push (bareS led)).get? s.heap.objs.size = some (bareS led) := Heap.get?_push_size _ rfl
      have isS : Shared.TypeIs { s with heap := s.heap.push (bareS led) } (.ref s.heap.objs.size) "set" := ⟨_, new, rfl⟩
      have m1 := F.called_set.init.lookup; have m2 := F.called_set.init.bind (.ref s.heap.objs.size)
      repeat (any_goals (first | assumption | wp_step))
      refine codeAny_mono (codeAny_call_builtin (R := wants (fun r z => r = .none ∧ ∃ h' tk, z = { s with heap := h', toks := tk } ∧ TxSet P w h' s.heap.objs.size xs xs.length ∧ ∀ b o, b < s.heap.objs.size → s.heap.get? b = some o → h'.get? b = some o) E)
        F.called_set.init.plain F.entry_set_init (check_set_init_1 isS ?_)) fun r2 s2 hr2 => ?_
      · obtain ⟨⟨tc, td, tdat, tsl⟩, ho, hc, tn, hd⟩ := tup
        simp only at hc hd
        subst hc; subst hd
        have up : (s.heap.push (bareS led)).get? l = some { cls := .type "tuple", dict := td, data := .seq its tn, slots := tsl } := Heap.get?_push_of_some _ ho
        have u1 := F.sub_tuple_set; have u2 := F.sub_tuple_frozenset
        have u3 : (Value.type "tuple" == Value.type "dict") = false := by decide
        have isT : (s.heap.push (bareS led)).IsTuple l its := ⟨_, up, rfl, tn, rfl⟩
        unfold Builtin.«set.__init__» noKeywords Builtin.Frozenset.updateFrom
        generalize hPI : pyIter = PI
        wp_walk
        subst hPI
        refine wpAny_pyIter_tuple isT (wpAny_bind (wpAny_runValue ?_))
        have low : l < s.heap.objs.size := Heap.lt_size ho
        have calm3 : A.in1.in1.in1.handled = none := by simp [calm]
        have apart : l ≠ (s.heap.push (bareS led)).objs.size := by rw [Heap.size_push]; exact Nat.ne_of_lt (Nat.lt_succ_of_lt low)
        have out : s.heap.objs.size ∉ [(s.heap.push (bareS led)).objs.size, l] := by
          rw [Heap.size_push]
          intro z
          rcases List.mem_cons.mp z with z | z
          · exact absurd z (Nat.ne_of_lt (Nat.lt_succ_self _))
          · exact absurd (List.mem_singleton.mp z) (Nat.ne_of_gt low)
        have sz : xs.length = its.size := by rw [← StrsAre.len_eq are, Array.length_toList]
        have W := (Walks.tuple (prog := P) (w := w) calm3 _ l apart its).toS
        rw [← sz] at W
        refine set_takes W out few (fun i v hv => SS.strs_at are i v (by rw [Array.getElem?_toList]; exact hv)) (xs.length - 0) 0 _ (by omega) (Nat.zero_le _) ⟨⟨_, Heap.get?_push_size _ rfl, rfl, rfl⟩, isT.push _⟩ ?start ?fin
        case start => exact PyProof.Rows.SetOf_congr ((PyProof.Rows.setObjOf_fresh (knd := PySem.strKind P w) led).setOf (Heap.get?_push_of_some _ new) (by unfold scanBound; omega)) (fun _ => rfl) rfl
        case fin =>
          rintro ⟨h', g', d', tk', os'⟩ mv q
          have e1 : g' = s.gens := mv.gens
          have e2 : d' = s.drawn := mv.drawn
          have e3 : os' = s.os := mv.os
          subst e1; subst e2; subst e3
          show wpAny _ _ (do let z ← ret Value.none; _) _ _ _
          refine wpAny_pure (wpAny_pure ⟨rfl, h', tk', rfl, q, fun b o hb e => ?_⟩)
          refine mv.heap b o (fun z => ?_) (Heap.get?_push_of_some _ (Heap.get?_push_of_some _ e))
          rcases List.mem_cons.mp z with z | z
          · exact absurd z (Nat.ne_of_lt hb)
          · rw [List.mem_singleton.mp z, Heap.size_push] at hb
            exact absurd hb (Nat.not_lt.mpr (Nat.le_succ _))
      · cases r2 with
        | error e => exact hr2
        | ok fl2 =>
          cases fl2 with
          | ret r =>
            obtain ⟨rfl, h', tk, rfl, q1, q2⟩ := hr2
            repeat (any_goals (first | assumption | wp_step))
            exact k _ _ q1 q2
          | _ => exact hr2.elim
    | _ => exact hr.elim
end
/-- len(set(x)), x a tuple of texts -/
def tLenTx (K : PySem.W.Frag) (ta : TE) : TE := fun σ H Q => ta σ H fun x H1 => ∃ (l : Addr) (xs : List Str), x = .ref l ∧ SqT K H1 l (xs.map V.str) ∧ xs.length ≤ 1000 ∧ Q (.int (cntS xs xs.length : Nat)) H1
theorem pe_lenTx {X : Cx} {a : Expr} {ta : TE} {p p2 q pos : Pos} (hc : X.calm = true) (hg : Gl X "len") (hm : X.mg "len" = none) (hg2 : Gl X "set") (hm2 : X.mg "set" = none) (ha : PE X a ta)
    (na : starEach [a] X.env = (false, eval a X.env) :: starEach [] X.env := by rfl) : PE X (.Call (.Name "len" p) [.Call (.Name "set" p2) [a] [] q] [] pos) (tLenTx X.K ta) := by
  refine ⟨fun pins s σ H Q I h => ?_⟩
  refine Call_ (ld_blt I hg hm boot_len (PyProof.Rows.callWith_builtin1 (PyProof.Rows.args_cons ?_ rfl) rfl rfl))
  refine Call_ (ld_blt I hg2 hm2 boot_set (PyProof.Rows.callWith_type1 (PyProof.Rows.args_cons (thn (ha.run pins s σ H _ I h) fun v s1 ⟨x, H1, I1, r1, l, xs, e1, hq, few, qq⟩ => PyProof.Rows.args_nil ?_) na) na rfl))
  subst e1
  obtain rfl : v = Value.ref l := r1
  obtain ⟨its, r, pl, hz⟩ := I1.tuple hq
  refine call_setTx (P := X.prog) (w := X.w) (xs := xs) (I1.ok.hd hc) pl (by simpa using L2.strsAre_of r) (by unfold scanBound; omega) fun h' tk hS hk => PyProof.Rows.args_nil ?_
  have := cntS_le xs xs.length
  obtain ⟨o, es, ep, t, ho, hex, hd, _, _, _, hf, hn⟩ := hS
  have I2 : Inv X pins σ H1 { s1 with heap := h', toks := tk } := I1.kept fun b o e => hk b o (Heap.lt_size e) e
  exact call_len_set ho hex hd hf (by rw [hn]; omega) ⟨.int (cntS xs xs.length : Nat), H1, I2.tok _, ⟨_, by rw [hn]⟩, qq⟩
/-! ### {k: v for x in ..}, k a tuple of ints and texts -/
/-- one turn's pair joins the dict at D: what follows -/
def PutT (D : Addr) (Nx : Hp → Prop) (y : V) : VK := fun z G =>
  ∃ (kvs : List (List Key × V)) (k : List Key) (b : Addr), y = .ref b ∧ G b = some (.tup (k.map kV)) ∧ G D = some (.dT kvs) ∧ kvs.length < sizeLine ∧ Nx (upd G D (.dT (putK kvs k z)))
def TurnDc (g : TG) (tt : TT) (tk tv : TE) (vs : List Nat) (σ : L2.St) (D : Addr) (Nx : Hp → Prop) : V → Hp → Prop := fun x G =>
  g x (wipe σ vs) G fun σ2 G2 => wipe σ2 vs = wipe σ vs ∧
    tt σ2 G2 fun b G3 => if b = true then tk σ2 G3 fun y G4 => tv σ2 G4 (PutT D Nx y) else Nx G3
def LoopDc (g : TG) (tt : TT) (tk tv : TE) (vs : List Nat) (σ : L2.St) (D : Addr) (J : L2.It) (H1 : Hp) (Qd : Hp → Prop) : Prop :=
  ∃ W : Nat → Nat → Hp → Prop, (∃ m, W 0 m (upd H1 D (.dT []))) ∧
    ∀ i m G, W i m G → (J.stop i G ∧ Qd G) ∨
      (J.go i G ∧ ∃ Nx : Hp → Prop, (∀ G', Nx G' → ∃ m', m' < m ∧ W (i + 1) m' G') ∧
        ∀ x G', J.yld i G x G' → TurnDc g tt tk tv vs σ D Nx x G')
def tDcT (wi : TI) (g : TG) (tt : TT) (tk tv : TE) (vs : List Nat) : TE := fun σ H Q =>
  wi σ H fun J H1 => ∀ D, H1 D = none → LoopDc g tt tk tv vs σ D J H1 (Q (.ref D))
section
variable {X : Cx}
theorem put_dict {pins : List (Addr × Obj)} {σ : L2.St} {G : Hp} {s : Shared} {D : Addr} {Nx : Hp → Prop} {y z : V} {u r : Value} {E : Value → Shared → Prop} {Q : Unit → Shared → Prop} (hu : X.A.units + 1 < cLine)
    (I : Inv X pins σ G s) (ry : RelV y u) (rz : RelV z r) (j : PutT D Nx y z G) (k : ∀ s' G', Inv X pins σ G' s' → Nx G' → Q () s') : wpAny (model X.prog X.w) X.A (dictSet D u r) Q E s := by
  obtain ⟨kvs, key, b, rfl, hb, hD, few, nx⟩ := j
  obtain rfl : u = Value.ref b := ry
  obtain ⟨hz, hs, xs, rel, dd⟩ := dt_of I.hok hD
  have lx : xs.length ≤ sizeLine := by rw [← Paired.length rel]; exact hz
  have lp : (putK kvs key z).length ≤ sizeLine := by have := length_putK kvs key z; omega
  refine wpAny_dictSet_heap (hsz := lx) (Nat.lt_of_succ_lt hu : X.A.units < cLine) (key_of I.hok hb) dd fun h' dd' sb => k _ _ ?_ nx
  obtain ⟨q, es, ep, hq, h2, h3, h4, _, h5⟩ := dd'
  refine d_write I (by rw [hD]; exact True.intro) sb ⟨q, hq⟩ ⟨lp, hs, _, (rel.put key hb rz).keeps fun c ys ec => ?_, q, es, ep, hq, h2, h3, h4, h5⟩
  rw [upd_ne (ne_of ec hD fun z => nomatch z)]
  exact ec
variable {kx vx tg iter : Expr} {ifs : List Expr} {scope : Scope} {own : List (PySem.Str × Nat)} {pos pos' : Pos} {wi : TI} {g : TG} {tt : TT} {tk tv : TE}
theorem dcT_core {pins : List (Addr × Obj)} {s : Shared} {σ : L2.St} {H : Hp} {Q : VK} {use : Option (Value → Sem Unit)} {Qf : Value → Shared → Prop}
    (hc : X.calm = true) (hN : X.N.Nodup) (I : Inv X pins σ H s) (hu : X.A.units + 1 < cLine)
    (hi : PI X tg iter wi) (ok : BlkOk X.N X.env.scope scope own)
    (hg : ∀ (s : Shared) (H : Hp) (C : Addr) (cl : List (PySem.Str × Addr)) (fp : List Addr),
      PG (X.blk s H scope (compEnvC scope cl C X.env) fp) tg g)
    (ht : ∀ (s : Shared) (H : Hp) (C : Addr) (cl : List (PySem.Str × Addr)) (fp : List Addr),
      PTs (X.blk s H scope (compEnvC scope cl C X.env) fp) ifs tt)
    (hk : ∀ (s : Shared) (H : Hp) (C : Addr) (cl : List (PySem.Str × Addr)) (fp : List Addr),
      PE (X.blk s H scope (compEnvC scope cl C X.env) fp) kx tk)
    (he : ∀ (s : Shared) (H : Hp) (C : Addr) (cl : List (PySem.Str × Addr)) (fp : List Addr),
      PE (X.blk s H scope (compEnvC scope cl C X.env) fp) vx tv)
    (hs : ∀ x, foldedSetIterable iter X.env x = pure x)
    (h : tDcT wi g tt tk tv (own.map (·.2)) σ H Q)
    (fin : ∀ D C s' m G, Inv X pins σ G s' → Q (.ref D) G → s'.heap.Ns C m → FpOk X pins G C →
      compPost (model X.prog X.w) X.A X.xe use Qf (.ref D) C (.ok .next) s') :
    wpAny (model X.prog X.w) X.A (comprehension (.DictComp kx vx [⟨tg, iter, ifs, 0⟩] scope pos) scope X.env pos'
      newDict false (eval iter X.env) use) Qf X.xe s := by
  have cellsOk : ∀ y ∈ scope.names, y.2 = .free → ∃ c, X.env.cells.lookup y.1 = some c := fun y hy e =>
    (ok.free y hy e).elim (fun k => I.ok.has _ (.inl k)) (fun k => I.ok.has _ (.inr k))
  refine wpAny_comprehension_free (use := use) rfl hs (closure_ok cellsOk) ok.kind (fun y hy e => by rw [ok.uniq y hy, e]) ?_
  refine thn (hi.run pins s σ H _ I h) fun xv s1 hx => thn hx ?_
  rintro itv s2 ⟨it, fp, tn, J, H2, rfl, I2, T, st2, f2, q⟩
  refine wpAny_newObj_type (newEnv_comp ?_)
  generalize hD : s2.heap.objs.size = D
  have free2 : H2 D = none := I2.hok.fresh (Nat.le_of_eq hD)
  obtain ⟨W, ⟨m0, w0⟩, turn⟩ := q D free2
  have I3 : Inv X pins σ (upd H2 D (.dT [])) { s2 with heap := s2.heap.push { cls := .type "dict", data := .dict #[] } } := by
    refine I2.laid (t' := s2.toks) (fun b o e => Heap.get?_push_of_some _ e) (Nat.le_of_eq hD) ?_
    subst hD
    exact dt_empty s2.heap I2.big
  generalize hs3 : ({ s2 with heap := s2.heap.push { cls := .type "dict", data := .dict #[] } } : Shared) = s3 at I3
  have h3 : s3.heap = s2.heap.push { cls := .type "dict", data := .dict #[] } := by rw [← hs3]
  have older : ∀ b ∈ fp, b < s2.heap.objs.size := fun b hb =>
    have ⟨_, e, _⟩ := T.obj _ _ st2 b hb
    Heap.lt_size e
  have f3 : ∀ b ∈ fp, FpOk X pins (upd H2 D (.dT [])) b ∧ b < s3.heap.objs.size := by
    intro b hb
    have lt := older b hb
    have ne : b ≠ D := by rw [← hD]; exact Nat.ne_of_lt lt
    refine ⟨⟨(upd_ne ne).trans (f2 b hb).1, (f2 b hb).2⟩, ?_⟩
    rw [h3, Heap.size_push]
    exact Nat.lt_succ_of_lt lt
  have st3 : tn 0 s3.heap := T.keep _ _ _ st2 fun b _ o e => by
    rw [h3]
    exact Heap.get?_push_of_some _ e
  have I4 := block_start I3 ok hN f3
  have pg := hg s3 (upd H2 D (.dT [])) s3.heap.objs.size (cellsFrom (s3.heap.objs.size + 1) scope.names (cloFrom X.env.cells scope.names [])) fp
  have pt := ht s3 (upd H2 D (.dT [])) s3.heap.objs.size (cellsFrom (s3.heap.objs.size + 1) scope.names (cloFrom X.env.cells scope.names [])) fp
  have pk := hk s3 (upd H2 D (.dT [])) s3.heap.objs.size (cellsFrom (s3.heap.objs.size + 1) scope.names (cloFrom X.env.cells scope.names [])) fp
  have pe := he s3 (upd H2 D (.dT [])) s3.heap.objs.size (cellsFrom (s3.heap.objs.size + 1) scope.names (cloFrom X.env.cells scope.names [])) fp
  show codeAny _ _ (.compStart (.DictComp kx vx [⟨tg, iter, ifs, 0⟩] scope pos) 0 (.ref it) (.ref D)
      (compEnvC scope (cellsFrom (s3.heap.objs.size + 1) scope.names (cloFrom X.env.cells scope.names [])) s3.heap.objs.size X.env))
    (compPost (model X.prog X.w) X.A X.xe use Qf (.ref D) s3.heap.objs.size)
    { s3 with heap := pushCells (s3.heap.push { cls := .type "dict", data := .dict #[] }) scope.names }
  have out3 : ∀ b ∈ fp, (upd H2 D (.dT [])) b = none := fun b hb => (f3 b hb).1.1
  generalize hce : compEnvC scope (cellsFrom (s3.heap.objs.size + 1) scope.names (cloFrom X.env.cells scope.names [])) s3.heap.objs.size X.env = ce at I4 pg pt pk pe ⊢
  have locC : ce.locals = s3.heap.objs.size := by subst hce; rfl
  generalize hH3 : upd H2 D (.dT []) = H3 at I3 I4 pg pt pk pe w0 out3 f3
  generalize hs4 : ({ s3 with heap := pushCells (s3.heap.push { cls := .type "dict", data := .dict #[] }) scope.names } : Shared) = s4 at I4 ⊢
  have st4 : tn 0 s4.heap := T.keep _ _ _ st3 fun b _ o e => by
    rw [← hs4]
    exact pushCells_keeps _ _ _ _ (Heap.get?_push_of_some _ e)
  have itOk : ∀ {σ' : L2.St} {G : Hp} {s' : Shared}, Inv (X.blk s3 H3 scope ce fp) [] σ' G s' → (∀ b ∈ fp, G b = none) →
      ∀ b ∈ fp, FpOk (X.blk s3 H3 scope ce fp) [] G b := fun {σ' G s'} I' out b hb =>
    ⟨out b hb, (I'.ok.exf b hb).1, I'.ok.exfs b hb, .inl hb, fun x c e => (I'.ok.exf b hb).2 x c e, fun p hp => nomatch (show p ∈ ([] : List (Addr × Obj)) from hp)⟩
  have loop : codeAny (model X.prog X.w) X.A (.compLoop (.DictComp kx vx [⟨tg, iter, ifs, 0⟩] scope pos) 0 (.ref it) (.ref D) ce)
      (compPost (model X.prog X.w) X.A X.xe use Qf (.ref D) s3.heap.objs.size) s4 := by
    refine compLoop_anyD (fun n s' => ∃ i G, Inv (X.blk s3 H3 scope ce fp) [] (wipe σ (own.map (·.2))) G s' ∧
      tn i s'.heap ∧ (∀ b ∈ fp, G b = none) ∧ W i n G) ?_ m0 ⟨0, H3, I4, st4, out3, w0⟩
    rintro n s5 ⟨i, G5, I5, st5, out5, w5⟩
    obtain ⟨stop, qq⟩ | ⟨go, Nx, hNx, step⟩ := turn i n G5 w5
    · have td := T.done (X.blk s3 H3 scope ce fp) rfl rfl rfl hc i [] s5 _ G5 (fun _ _ => False) I5 (itOk I5 out5) st5 stop
      refine thnF td ?_
      rintro r s6 ⟨rfl, I6⟩
      have I7 : Inv X pins σ G5 s6 := I3.call' (ch := fp) I6.os I6.base I6.hok I6.bare fun b hb =>
        have z := (f3 b hb).1
        ⟨z.2.2.2.1, z.2.1, z.2.2.2.2.1, z.2.2.2.2.2⟩
      have out : G5 s3.heap.objs.size = none := locC ▸ I6.free
      obtain ⟨m, hn, -⟩ := I6.loc
      have hn2 : s6.heap.Ns s3.heap.objs.size m := locC ▸ hn
      exact fin D s3.heap.objs.size s6 m G5 I7 qq hn2 (I3.fpOk (Nat.le_refl _) out)
    · have ti := T.item (X.blk s3 H3 scope ce fp) rfl rfl rfl hc i [] s5 _ G5 (fun _ _ => False) I5 (itOk I5 out5) st5 go
      refine thnF ti ?_
      rintro r s6 ⟨u, rfl, h6⟩
      refine thnF h6 ?_
      rintro _ s7 ⟨x, G7, I7, r7, y7, st7, out7⟩
      have I7' := I7.pinned (itOk I7 out7) (T.obj _ _ st7)
      refine thnF (pg.run _ s7 _ G7 x u _ I7' r7 (step x G7 y7)) ?_
      rintro _ s8 ⟨σ8, G8, I8, hw8, q8⟩
      refine thnF (pt.run _ s8 σ8 G8 _ I8 q8) ?_
      rintro b s9 ⟨G9, I9, q9⟩
      have again : ∀ {s' : Shared} {G : Hp}, Inv (X.blk s3 H3 scope ce fp) ([] ++ pinsAt fp s7.heap) σ8 G s' → Nx G →
          ∃ m, m < n ∧ ∃ i G, Inv (X.blk s3 H3 scope ce fp) [] (wipe σ (own.map (·.2))) G s' ∧ tn i s'.heap ∧ (∀ b ∈ fp, G b = none) ∧ W i m G := by
        intro s' G I' nx
        obtain ⟨m', lt, w'⟩ := hNx G nx
        have pinned : ∀ b ∈ fp, ∀ o, s7.heap.get? b = some o → s'.heap.get? b = some o ∧ G b = none := fun b hb o e =>
          have z := I'.pin (b, o) (List.mem_append_right _ (List.mem_append_right _ (mem_pinsAt hb e)))
          ⟨z.1, z.2.1⟩
        have hl : (wipe σ (own.map (·.2))).length = σ8.length := by rw [← hw8, wipe_length]
        refine ⟨m', lt, i + 1, G, (I'.unpinned (pins := [])).weak hl ?_, T.keep _ _ _ st7 fun b hb o e => (pinned b hb o e).1, ?_, w'⟩
        · intro j v e
          rw [← hw8] at e
          exact (wipe_some e).1
        · intro b hb
          obtain ⟨o, e, -⟩ := T.obj _ _ st7 b hb
          exact (pinned b hb o e).2
      cases b with
      | false =>
        rw [if_neg (by decide)] at q9 ⊢
        exact again I9 q9
      | true =>
        rw [if_pos rfl] at q9 ⊢
        refine thnF (pk.run _ s9 σ8 G9 _ I9 q9) ?_
        rintro zk s10 ⟨yk, G10, I10, r10, q10⟩
        refine thnF (pe.run _ s10 σ8 G10 _ I10 q10) ?_
        rintro zv s11 ⟨yv, G11, I11, r11, q11⟩
        exact put_dict (X := X.blk s3 H3 scope ce fp) hu I11 r10 r11 q11 fun s' G' I' nx => again I' nx
  exact codeAny_compStart_dict loop (T.self X.A 0 _ _ _ st4 loop)
theorem pe_dcT (hc : X.calm = true) (hN : X.N.Nodup) (hu : X.A.units + 1 < cLine) (hi : PI X tg iter wi) (ok : BlkOk X.N X.env.scope scope own)
    (hg : ∀ (s : Shared) (H : Hp) (C : Addr) (cl : List (PySem.Str × Addr)) (fp : List Addr),
      PG (X.blk s H scope (compEnvC scope cl C X.env) fp) tg g)
    (ht : ∀ (s : Shared) (H : Hp) (C : Addr) (cl : List (PySem.Str × Addr)) (fp : List Addr),
      PTs (X.blk s H scope (compEnvC scope cl C X.env) fp) ifs tt)
    (hk : ∀ (s : Shared) (H : Hp) (C : Addr) (cl : List (PySem.Str × Addr)) (fp : List Addr),
      PE (X.blk s H scope (compEnvC scope cl C X.env) fp) kx tk)
    (he : ∀ (s : Shared) (H : Hp) (C : Addr) (cl : List (PySem.Str × Addr)) (fp : List Addr),
      PE (X.blk s H scope (compEnvC scope cl C X.env) fp) vx tv)
    (hs : ∀ x, foldedSetIterable iter X.env x = pure x := by intro _; rfl) :
    PE X (.DictComp kx vx [⟨tg, iter, ifs, 0⟩] scope pos) (tDcT wi g tt tk tv (own.map (·.2))) := by
  refine ⟨fun pins s σ H Q I h => ?_⟩
  rw [arm_eval_DictComp]
  refine dcT_core hc hN I hu hi ok hg ht hk he hs h ?_
  intro D C s' m G I' q hn f
  refine ⟨m, hn, fun h'' sb => ?_⟩
  obtain ⟨f0, f1, f2, f3, f4, f5⟩ := f
  exact ⟨.ref D, G, I'.turned (t' := s'.toks) (fun b o hb e => (sb.2 b hb).trans e) f0 f1 f3 f4 f5, rfl, q⟩
end
/-! ### max(d.values()), d with tuple keys -/
section
variable {P : Program} {w : World}
theorem meets_vals {d : Addr} (hd : (d == sysModules) = false) : MeetsIn P w (Builtin.«dict.values» ⟨[.ref d], []⟩) (fun _ R s => s.TypeIs (.ref d) "dict" ∧
    R (.ok (.ret (.ref s.heap.objs.size))) { s with heap := s.heap.push (DSub.viewOb "dict_values" d) }) :=
  .of_wp fun A R s ⟨ht, h⟩ => by
    unfold Builtin.«dict.values»
    refine wpAny_bind ?_
    unfold Builtin.Dict.noArgs
    refine wpAny_bind (wpAny_notOrdered_dict ht ?_)
    show wpAny _ _ (pure d) _ _ s
    refine wpAny_pure ?_
    show wpAny _ _ (do let z ← Builtin.Dict.showsAll d; _) _ _ s
    unfold Builtin.Dict.showsAll
    rw [if_neg (by rw [hd]; exact Bool.false_ne_true)]
    refine wpAny_bind (wpAny_pure ?_)
    exact wpAny_bind (wpAny_newObj_type (wpAny_pure ⟨_, rfl, h⟩))
end
def tMaxVT (td : TE) : TE := fun σ H Q => td σ H fun x H1 => ∃ (a : Addr) (kvs : List (List Key × V)) (ns : List Int), x = .ref a ∧ H1 a = some (.dT kvs) ∧ kvs.map (·.2) = ns.map V.int ∧ 0 < ns.length ∧ ∀ m, m ∈ ns → (∀ j ∈ ns, j ≤ m) → Q (.int m) H1
theorem pe_maxVT {X : Cx} {o : Expr} {p pos apos mpos : Pos} {td : TE} (hc : X.calm = true) (hg : Gl X "max") (hm : X.mg "max" = none) (hd : PE X o td) (hbase : attributeBase o "values" X.env (eval o X.env) = eval o X.env := by rfl) (hline : (apos.endLine == mpos.line) = true := by rfl)
    (hse : starEach [Expr.Call (.Attribute o "values" apos) [] [] mpos] X.env = [(false, eval (Expr.Call (.Attribute o "values" apos) [] [] mpos) X.env)] := by rfl) :
    PE X (.Call (.Name "max" p) [.Call (.Attribute o "values" apos) [] [] mpos] [] pos) (tMaxVT td) := by
  refine ⟨fun pins s σ H Q I h => ?_⟩
  refine wpAny_Call_Name_kw (ld_blt I hg hm (u := .builtin "max") (by first | rfl | decide +kernel) ?_ (by first | decide +kernel | decide) (by first | decide +kernel | decide))
  rw [hse]
  refine PySem.callWith_builtin1 (wpAny_Call_method0_late hbase hline (thn (hd.run pins s σ H _ I h) fun v s1 ⟨x, H1, I1, r1, a, kvs, ns, ex, ha, hv, hne, q⟩ => ?_))
  subst ex
  obtain rfl : v = Value.ref a := r1
  obtain ⟨hz, hsys, xs, rel, ob, es, ep, ho, hx, hdat, hes, his, hnd⟩ := dt_of I1.hok ha
  have isD : s1.TypeIs (.ref a) "dict" := ⟨ob, ho, hx.1⟩
  refine ⟨"dict", "dict.values", F.plainAttrs_dict, F.slot_dict_values, F.type_dict_values, isD, fun b e => ?_, Calls.callWith_builtin rfl (PySem.evalArgs_none ?_)⟩
  · cases e
    exact ⟨ob, ho, hx.2.1⟩
  refine call_meetsIn F.slot_dict_values isD F.entry_dict_values (F.args_dict_values_1 _) (meets_vals hsys) ⟨isD, ?_⟩
  have l1 : kvs.length = ns.length := by
    have e := congrArg List.length hv
    rwa [List.length_map, List.length_map] at e
  have l2 : es.size = ns.length := by
    have e1 : es.size = xs.length := size_of_entries hes
    have e2 : kvs.length = xs.length := Paired.length rel
    omega
  have val : ∀ (i : Nat) (e : DictEntry), es[i]? = some e → ∃ t, e.val = Value.int (ns.getD i 0) t := fun i e he => by
    have li : i < es.size := (Array.getElem?_eq_some_iff.mp he).1
    have lk : i < kvs.length := by omega
    have ln : i < ns.length := by omega
    obtain ⟨b, hb, _, _, rb⟩ := paired_get rel (List.getElem?_eq_getElem lk)
    have e1 := entry_at hes i
    rw [hb, he] at e1
    have e2 : e.val = b.2.2 := by rw [Option.some.inj e1] <;> rfl
    have e3 : kvs[i].2 = V.int ns[i] := by
      have z : (kvs.map (·.2))[i]? = (ns.map V.int)[i]? := by rw [hv]
      rw [List.getElem?_map, List.getElem?_map, List.getElem?_eq_getElem lk, List.getElem?_eq_getElem ln] at z
      exact Option.some.inj z
    rw [e3] at rb
    obtain ⟨t, e4⟩ := rb
    exact ⟨t, by rw [e2, e4, List.getD_eq_getElem?_getD, List.getElem?_eq_getElem ln] <;> rfl⟩
  generalize hh : s1.heap.push (DSub.viewOb "dict_values" a) = h2
  have k1 : ∀ b u, s1.heap.get? b = some u → h2.get? b = some u := fun b u e => by rw [← hh]; exact Heap.get?_push_of_some _ e
  have hv2 : h2.get? s1.heap.objs.size = some (DSub.viewOb "dict_values" a) := by rw [← hh]; exact Heap.get?_push_size _ rfl
  have low : a < h2.objs.size := Heap.lt_size (k1 _ _ ho)
  refine call_max_walk (DSub.iter_vals (s := { s1 with heap := h2 }) hv2 (k1 _ _ ho) hdat ?_)
  refine ⟨h2.objs.size, [h2.objs.size, a], [h2.objs.size], es.size, fun i v => ∃ t, v = .int (ns.getD i 0) t, _, fun i j => decide (ns.getD i 0 > ns.getD j 0), rfl, DSub.walksVal (a := a) (show X.A.in1.handled = none from I.ok.hd hc) (Nat.ne_of_lt low) hdat val, ⟨Heap.get?_push_size _ rfl, Heap.get?_push_of_some _ (k1 _ _ ho)⟩, fun b hb => ?_, by omega,
    CmpOf.ints_gt (fun i => ns.getD i 0) (fun i v z => z), fun v h' tk hP hk => ?_⟩
  · show b < (h2.push _).objs.size
    rw [Heap.size_push]
    rcases List.mem_cons.mp hb with z | z
    · rw [z]
      exact Nat.lt_succ_self _
    · rw [List.mem_singleton.mp z]
      exact Nat.lt_succ_of_lt low
  · obtain ⟨t, rfl⟩ := hP
    obtain ⟨b1, b2⟩ := argBest_gt (fun i => ns.getD i 0) (es.size - 1)
    have l3 : es.size - 1 < ns.length := by omega
    have b1' : argBest (fun i j => decide (ns.getD i 0 > ns.getD j 0)) (es.size - 1) < ns.length := Nat.lt_of_le_of_lt b1 l3
    refine ⟨.int _, H1, I1.kept (t' := tk) fun b u e => hk b u (fun z => ?_) (Heap.get?_push_of_some _ (k1 b u e)), ⟨t, rfl⟩, q _ ?_ fun j hj => ?_⟩
    · have e1 : b = h2.objs.size := List.mem_singleton.mp z
      have e2 := Heap.lt_size (k1 b u e)
      rw [e1] at e2
      exact absurd e2 (Nat.lt_irrefl _)
    · rw [List.getD_eq_getElem?_getD, List.getElem?_eq_getElem b1']
      exact List.getElem_mem b1'
    · obtain ⟨i, hi, e⟩ := List.mem_iff_getElem.mp hj
      have e2 : ns.getD i 0 = j := by rw [List.getD_eq_getElem?_getD, List.getElem?_eq_getElem hi, ← e] <;> rfl
      rw [← e2]
      exact b2 i (by omega)
/-! ### over a tuple of keys; over the keys themselves -/
section
variable {α : Type} {K : PySem.W.Frag} {H : Hp} {Q : VK} {g : TG} {tt : TT} {te tk tv : TE} {vs : List Nat} {σ : St} {a : Addr} {xs : List V} {ds : List α} {key : α → List Key} {val : α → V}
/-- the tuple that is the key of y -/
def KeyAt (key : α → List Key) (H : Hp) (v : V) (y : α) : Prop := ∃ b, v = .ref b ∧ H b = some (.tup ((key y).map kV))
theorem KeyAt.ex {H H' : Hp} {v : V} {y : α} (e : Ex H H') (h : KeyAt key H v y) : KeyAt key H' v y := by
  obtain ⟨b, q, h⟩ := h
  exact ⟨b, q, e _ _ h⟩
theorem KeyAt.upd {H : Hp} {D : Addr} {o o' : HO} {v : V} {y : α} (hD : H D = some o) (n : ∀ zs, o ≠ .tup zs) (h : KeyAt key H v y) : KeyAt key (L2.upd H D o') v y := by
  obtain ⟨b, q, h⟩ := h
  refine ⟨b, q, ?_⟩
  rw [upd_ne fun z => by rw [z, hD] at h; exact n _ (Option.some.inj h)]
  exact h
theorem put_next {i : Nat} {d : α} (nd : (ds.map key).Nodup) (e : ds[i]? = some d) : putK ((ds.take i).map fun y => (key y, val y)) (key d) (val d) = (ds.take (i + 1)).map fun y => (key y, val y) := by
  have lt : i < ds.length := (List.getElem?_eq_some_iff.mp e).1
  have ed : ds[i] = d := (List.getElem?_eq_some_iff.mp e).2
  have no : (((ds.take i).map fun y => (key y, val y)).any fun kv => decide (kv.1 = key d)) = false := by
    refine Bool.eq_false_iff.mpr fun c => ?_
    obtain ⟨p, hp, ep⟩ := List.any_eq_true.mp c
    obtain ⟨y, hy, rfl⟩ := List.mem_map.mp hp
    obtain ⟨j, hj, ej⟩ := List.mem_take_iff_getElem.mp hy
    have q := List.pairwise_iff_getElem.mp nd j i (by rw [List.length_map]; omega) (by rw [List.length_map]; exact lt) (by omega)
    rw [List.getElem_map, List.getElem_map, ej, ed] at q
    exact q (of_decide_eq_true ep)
  unfold putK
  rw [no, if_neg (by decide), List.take_add_one, e, List.map_append]
  rfl
theorem g_dcTupI {tl : TE} (h : tl σ H fun x H1 => tDcT (iTup K fun _ H2 R => R x H2) g tt tk tv vs σ H1 Q) : tDcT (iTup K tl) g tt tk tv vs σ H Q := h
theorem g_dcTup (hx : SqT K H a xs) (hp : Paired (KeyAt key H) xs ds) (nd : (ds.map key).Nodup) (few : ds.length ≤ 1000)
    (step : ∀ d b H', Ex H H' → H' b = some (.tup ((key d).map kV)) → ∀ (R : Hp → Prop) (T : V → VK), (∀ H4, Ex H' H4 → T (.ref b) (val d) H4) →
      g (.ref b) (wipe σ vs) H' fun σ2 H2 => wipe σ2 vs = wipe σ vs ∧ tt σ2 H2 fun c H3 => if c = true then tk σ2 H3 fun y H4 => tv σ2 H4 (T y) else R H3)
    (last : ∀ D H', H D = none → Ex H H' → H' D = some (.dT (ds.map fun y => (key y, val y))) → Q (.ref D) H') :
    tDcT (iTup K fun _ H2 R => R (.ref a) H2) g tt tk tv vs σ H Q := by
  refine ⟨a, rfl, ⟨xs, hx⟩, fun D hD => ?_⟩
  have len := Paired.length hp
  refine ⟨fun i m H' => m = xs.length - i ∧ i ≤ xs.length ∧ Ex H H' ∧ H' D = some (.dT ((ds.take i).map fun y => (key y, val y))), ⟨xs.length, rfl, Nat.zero_le _, Evl.Ex.new hD, upd_same⟩, ?_⟩
  rintro i m H1 ⟨rfl, hi, e1, h1⟩
  by_cases lt : i < xs.length
  · have hxi := List.getElem?_eq_getElem lt
    refine .inr ⟨⟨xs, _, Evl.ex_t e1 hx, hxi⟩, fun H' => Ex H H' ∧ H' D = some (.dT ((ds.take (i + 1)).map fun y => (key y, val y))), fun H' h' => ⟨xs.length - (i + 1), by omega, rfl, lt, h'⟩, fun x H' y => ?_⟩
    obtain ⟨rfl, hy⟩ := y
    have ex := hy xs (Evl.ex_t e1 hx)
    obtain ⟨d, hd, kd⟩ := pd_get hp ex
    obtain ⟨b, rfl, hb⟩ := kd.ex e1
    refine step d b _ e1 hb _ (PutT D _) fun H4 e4 => ⟨_, key d, b, rfl, e4 _ _ hb, e4 _ _ h1, ?_, Evl.Ex.mut (e1.trans e4) hD, ?_⟩
    · rw [List.length_map]
      exact Nat.lt_of_le_of_lt (Nat.le_trans (List.length_take_le _ _) (Nat.le_trans (by omega) few)) (by decide)
    · rw [upd_same, put_next nd hd]
  · have e : i = xs.length := by omega
    subst e
    rw [len, List.take_length] at h1
    exact .inl ⟨⟨xs, Evl.ex_t e1 hx, Nat.le_refl _⟩, last D H1 hD e1 h1⟩
theorem g_lcKT {k : Nat} {d : Addr} (hk : σ[k]? = some (some (.ref d))) (hd : H d = some (.dT (ds.map fun y => (key y, val y)))) (few : ds.length ≤ 1000) (f : α → Bool)
    (step : ∀ y b od H', Ex (L2.upd H d (.frz od (.dT (ds.map fun y => (key y, val y))))) H' → y ∈ ds → H' b = some (.tup ((key y).map kV)) → ∀ (R : Hp → Prop) (S : VK), (f y = false → ∀ H3, Ex H' H3 → R H3) → (f y = true → ∀ H3, Ex H' H3 → S (.ref b) H3) →
      g (.ref b) (wipe σ vs) H' fun σ2 H2 => wipe σ2 vs = wipe σ vs ∧ tt σ2 H2 fun c H3 => if c = true then te σ2 H3 S else R H3)
    (last : ∀ D H' acc, Fr d H H' → H' D = some (.lst acc) → Paired (KeyAt key H') acc (ds.filter f) → Q (.ref D) H') :
    tLockE (tLc (iKeys (tVar k)) g tt te vs) σ H Q := by
  refine ⟨d, _, hd, True.intro, fun od => ?_⟩
  generalize hH1 : L2.upd H d (.frz od (.dT (ds.map fun y => (key y, val y)))) = H1
  have h1d : H1 d = some (.frz od (.dT (ds.map fun y => (key y, val y)))) := by rw [← hH1]; exact upd_same
  have fr1 : Fr d H H1 := by rw [← hH1]; exact Fr.upd
  refine ⟨.ref d, hk, d, od, rfl, .inr ⟨_, h1d, fun D hD => ?_⟩⟩
  have nD : D ≠ d := (ne_of_none h1d hD).symm
  have len : (ds.map fun y => (key y, val y)).length = ds.length := List.length_map _
  refine ⟨fun i m H' => m = ds.length - i ∧ i ≤ ds.length ∧ Ex H1 H' ∧ ∃ acc, H' D = some (.lst acc) ∧ Paired (KeyAt key H') acc ((ds.take i).filter f), ⟨ds.length, rfl, Nat.zero_le _, Evl.Ex.new hD, [], upd_same, .nil⟩, ?_⟩
  rintro i m H2 ⟨rfl, hi, e2, acc, ha, pa⟩
  by_cases lt : i < ds.length
  · have hy := List.getElem?_eq_getElem lt
    refine .inr ⟨⟨e2 _ _ h1d, by rw [len]; exact lt⟩, fun H' => Ex H1 H' ∧ ∃ acc, H' D = some (.lst acc) ∧ Paired (KeyAt key H') acc ((ds.take (i + 1)).filter f), fun H' h' => ⟨ds.length - (i + 1), by omega, rfl, lt, h'⟩, fun x H' yl => ?_⟩
    obtain ⟨rfl, kk, vv, b, hkv, rfl, hb⟩ := yl
    rw [List.getElem?_map, hy] at hkv
    obtain ⟨rfl, _⟩ := Prod.mk.inj (Option.some.inj hkv)
    have la : acc.length ≤ 1000 := by
      rw [Paired.length pa]
      exact Nat.le_trans (List.length_filter_le _ _) (Nat.le_trans (List.length_take_le _ _) (by omega))
    refine step ds[i] b od _ (by rw [hH1]; exact e2) (List.getElem_mem lt) hb _ _ (fun hf H3 e3 => ⟨e2.trans e3, acc, e3 _ _ ha, ?_⟩) fun hf H3 e3 => ⟨acc, e3 _ _ ha, Nat.lt_of_le_of_lt la (by decide), Evl.Ex.mut (e2.trans e3) hD, _, upd_same, ?_⟩
    · rw [take_filt hy, hf, if_neg (by decide), List.append_nil]
      exact L2.Paired.mapP pa fun _ _ q => q.ex e3
    · rw [take_filt hy, hf, if_pos rfl]
      exact pd_app (L2.Paired.mapP pa fun _ _ q => (q.ex e3).upd (e3 _ _ ha) fun _ z => nomatch z) (.cons (KeyAt.upd (e3 _ _ ha) (fun _ z => nomatch z) ⟨b, rfl, e3 _ _ hb⟩) .nil)
  · have e : i = ds.length := by omega
    subst e
    rw [List.take_length] at pa
    refine .inl ⟨⟨e2 _ _ h1d, by rw [len]; exact Nat.le_refl _⟩, e2 _ _ h1d, last D _ acc (fr1.trans ((Fr.of e2).trans Fr.upd)) ?_ (L2.Paired.mapP pa fun _ _ q => q.upd (e2 _ _ h1d) fun _ z => nomatch z)⟩
    rw [upd_ne nD]
    exact ha
end
section
variable {α : Type} {ds : List α} {key : α → List Key} {val : α → V}
theorem val_at : ∀ {ds : List α} {y : α}, (ds.map key).Nodup → y ∈ ds → valV (ds.map fun y => (key y, val y)) (key y) = some (val y)
  | d :: ds, y, nd, m => by
    rw [List.map_cons, List.nodup_cons] at nd
    rw [List.map_cons]
    by_cases e : key d = key y
    · rw [valV_pos e]
      rcases List.mem_cons.mp m with rfl | m
      · rfl
      · exact absurd (List.mem_map.mpr ⟨y, m, e.symm⟩) nd.1
    · rw [valV_neg e]
      rcases List.mem_cons.mp m with rfl | m
      · exact absurd rfl e
      · exact val_at nd.2 m
end
/-! ### what stands stays, lists apart -/
def TrO (H H' : Hp) : Prop := ∀ a o, H a = some o → (∀ xs, o ≠ .lst xs) → H' a = some o
theorem TrO.of {H H' : Hp} (e : Ex H H') : TrO H H' := fun a o h _ => e a o h
theorem TrO.upd {H : Hp} {r : Addr} {xs ys : List V} (hr : H r = some (.lst xs)) : TrO H (L2.upd H r (.lst ys)) := fun a o h n => by
  rw [upd_ne fun z => by rw [z, hr] at h; exact n xs (Option.some.inj h).symm]
  exact h
theorem runs_nilO {α : Type} {te : TE} {σ : L2.St} {H0 : Hp} {D : Addr} {G : Hp → V → α → Prop} {d : α} (hG : ∀ H1 H2 y d, TrO H1 H2 → G H1 y d → G H2 y d) (he : ∀ H (Q : VK), Ex H0 H → (∀ y H', Ex H H' → G H' y d → Q y H') → te σ H Q) : RunsN te [] σ H0 D G [d] := by
  intro H ds Nx hz ⟨n, e, acc, ha, pa⟩ k
  refine he H _ e fun y H' e' gy => ⟨acc, e' _ _ ha, Nat.lt_of_le_of_lt (by rw [Paired.length pa]; simp at hz; omega : acc.length ≤ 100000) (by decide), k _ ⟨n, Evl.Ex.mut (e.trans e') n, _, upd_same, ?_⟩⟩
  have u : TrO H' (L2.upd H' D (.lst (acc ++ [y]))) := TrO.upd (e' _ _ ha)
  exact pd_app (L2.Paired.mapP pa fun _ _ q => hG _ _ _ _ u (hG _ _ _ _ (TrO.of e') q)) (.cons (hG _ _ _ _ u gy) .nil)
/-- the scope of a comprehension's block -/
def cScope (e : Expr) : Scope := match e with
  | .ListComp _ _ sc _ => sc
  | _ => default
/-! ### a comprehension whose test draws from the row: some of the items stay -/
section
variable {α : Type} {K : PySem.W.Frag} {H : Hp} {Q : VK} {g : TG} {tt : TT} {te : TE} {vs : List Nat} {σ : St} {a : Addr} {ds : List α} {v : α → V} {ρ : Rw}
theorem g_lcRow (R0 : Row K H ρ) (ha : H a = some (.lst (ds.map v))) (ne : a ≠ ρ.1) (few : ds.length ≤ 1000)
    (step : ∀ d H', Fr ρ.1 H H' → Row K H' ρ → d ∈ ds → ∀ (R : Hp → Prop) (S : VK), (∀ H3, Fr ρ.1 H' H3 → Row K H3 ρ → R H3) → (∀ H3, Fr ρ.1 H' H3 → Row K H3 ρ → S (v d) H3) →
      g (v d) (wipe σ vs) H' fun σ2 H2 => wipe σ2 vs = wipe σ vs ∧ tt σ2 H2 fun b H3 => if b = true then te σ2 H3 S else R H3)
    (last : ∀ D H' sel, H D = none → Fr ρ.1 H H' → Row K H' ρ → H' D = some (.lst (sel.map v)) → List.Sublist sel ds → Q (.ref D) H') : tLcL K (.ref a) g tt te vs σ H Q := by
  refine ⟨a, rfl, ⟨_, SqL.of ha⟩, fun D hD => ?_⟩
  obtain ⟨xs0, q0⟩ := R0.lst
  have nD : D ≠ ρ.1 := (ne_of_none q0 hD).symm
  have len : (ds.map v).length = ds.length := List.length_map _
  refine ⟨fun i m H' => m = ds.length - i ∧ i ≤ ds.length ∧ Fr ρ.1 H H' ∧ Row K H' ρ ∧ ∃ sel, H' D = some (.lst (sel.map v)) ∧ List.Sublist sel (ds.take i), ⟨ds.length, rfl, Nat.zero_le _, Fr.of (Evl.Ex.new hD), Row.mut R0 R0 Fr.refl hD, [], upd_same, List.nil_sublist _⟩, ?_⟩
  rintro i m H1 ⟨rfl, hi, f1, R1, sel, h1, s1⟩
  have la := f1 _ _ ne ha
  by_cases lt : i < ds.length
  · have hy := List.getElem?_eq_getElem lt
    have hx : (ds.map v)[i]? = some (v ds[i]) := by rw [List.getElem?_map, hy] <;> rfl
    have st : ds.take (i + 1) = ds.take i ++ [ds[i]] := by rw [List.take_add_one, hy] <;> rfl
    have lsel : sel.length ≤ 1000 := Nat.le_trans s1.length_le (Nat.le_trans (List.length_take_le _ _) (by omega))
    refine .inr ⟨⟨_, _, SqL.of la, hx⟩, fun H' => Fr ρ.1 H H' ∧ Row K H' ρ ∧ ∃ sel, H' D = some (.lst (sel.map v)) ∧ List.Sublist sel (ds.take (i + 1)), fun H' h' => ⟨ds.length - (i + 1), by omega, rfl, lt, h'⟩, fun x H' y => ?_⟩
    obtain ⟨rfl, hy2⟩ := y
    have ex := hy2 _ (SqL.of la)
    rw [hx] at ex
    obtain rfl := Option.some.inj ex
    refine step ds[i] _ f1 R1 (List.getElem_mem lt) _ _ (fun H3 f3 R3 => ⟨f1.trans f3, R3, sel, f3 _ _ nD h1, by rw [st]; exact s1.trans (List.sublist_append_left _ _)⟩) fun H3 f3 R3 => ⟨_, f3 _ _ nD h1, ?_, Fr.mut (f1.trans f3) hD, Row.mut R0 R3 (f1.trans f3) hD, sel ++ [ds[i]], ?_, by rw [st]; exact s1.append_right _⟩
    · rw [List.length_map]
      exact Nat.lt_of_le_of_lt lsel (by decide)
    · rw [upd_same, List.map_append]
      rfl
  · have e : i = ds.length := by omega
    subst e
    rw [List.take_length] at s1
    exact .inl ⟨⟨_, SqL.of la, by rw [len]; exact Nat.le_refl _⟩, last D H1 sel hD f1 R1 h1 s1⟩
end
/-! ### a list of data against [] -/
section
variable {K : PySem.W.Frag} {H : Hp} {Q : VK} {a b : Addr} {xs : List V} {ds : List PyData}
theorem g_eqNilD (h1 : H a = some (.lst xs)) (hp : DpAll K H xs ds) (hs : ∀ d ∈ ds, sh 5 d) (h2 : H b = some (.lst [])) (k : Q (.bl ds.isEmpty) H) : rEqD K (.ref a) (.ref b) H Q := by
  refine ⟨.list ds, .list [], .lst (SqL.of h1) hp, .lst (SqL.of h2) .nil, sh_ok (n := 6) (sh_list hs) (by omega), sh_ok (n := 1) (sh_list (by simp)) (by omega), ?_⟩
  rw [show PyData.eqv (.list ds) (.list []) = ds.isEmpty from eqvAll_nil ds]
  exact k
theorem g_neNilD (h1 : H a = some (.lst xs)) (hp : DpAll K H xs ds) (hs : ∀ d ∈ ds, sh 5 d) (h2 : H b = some (.lst [])) (k : Q (.bl (!ds.isEmpty)) H) : rNeD K (.ref a) (.ref b) H Q := by
  refine ⟨.list ds, .list [], .lst (SqL.of h1) hp, .lst (SqL.of h2) .nil, sh_ok (n := 6) (sh_list hs) (by omega), sh_ok (n := 1) (sh_list (by simp)) (by omega), ?_⟩
  rw [show PyData.eqv (.list ds) (.list []) = ds.isEmpty from eqvAll_nil ds]
  exact k
end
local macro_rules | `(tactic| walk_at "m") => `(tactic| first
  | with_reducible refine g_m1 ?_
  | with_reducible refine g_isS ?_
  | with_reducible refine g_lcStr ?_
  | with_reducible refine g_join ?_
  | with_reducible refine g_js ?_
  | with_reducible refine g_jsN ?_
  | with_reducible refine g_fmt ?_
  | with_reducible refine g_callLam ?_
  | with_reducible refine g_revT ?_)

/-! ### all libraries -/
def wayL (w : Way) : List V := [.str (sumS w.ws), .str (sumS w.wo), .str (gapS w.gap), .str (foldS w.fold)]
theorem allWays_48 : allWays.length = 48 := by decide +kernel
def wayK (w : Way) : List Key := [.inr (sumS w.ws), .inr (sumS w.wo), .inr (gapS w.gap), .inr (foldS w.fold)]
theorem wayK_V (w : Way) : (wayK w).map kV = wayL w := rfl
theorem wayK_nodup : (allWays.map wayK).Nodup := by decide +kernel
theorem way_key {K : PySem.W.Frag} {H : Hp} {v : V} {w : Way} (h : KeyAt wayK H v w) : WayV K H v w := by
  obtain ⟨a, e, h⟩ := h
  exact ⟨a, e, SqT.of h⟩
theorem pd_way {K : PySem.W.Frag} {H : Hp} {xs : List V} {ws : List Way} (h : Paired (KeyAt wayK H) xs ws) : Paired (WayV K H) xs ws := L2.Paired.mapP h fun _ _ q => way_key q
section
variable {P : Program} {w : World} {K : PySem.W.Frag} {mg : Str → Option Value} {base : Heap}
def sp_all_libraries (K : PySem.W.Frag) : Sp := fun vs H Q _ => vs = [] ∧ ∀ p xs H', Ex H H' → SqT K H' p xs → Paired (KeyAt wayK H') xs allWays → Q (.ref p) H'
theorem ok_all_libraries (T : Txt w K mg) : FnOk P w K mg base CX0 1 T.f_all_libraries.f T.f_all_libraries.fd [] (sp_all_libraries K) := by
  refine T.f_all_libraries.F.ok sc_all_libraries (fun vs H Q E h => ?_) (fun cdv A outer s H vs Q E hr h => ?_)
  · obtain ⟨rfl, _⟩ := h
    rfl
  obtain ⟨rfl, k⟩ := h
  refine ⟨(tRet (tCB (r_tupleOf K) (tCons (tLcN (iTup K (tC (.ref T.a_SUMS))) (gName 0) tYes (tTup (tCons (tVar 0) (tCons (tVar 1) (tCons (tVar 2) (tCons (tVar 3) tNil))))) [0, 1, 2, 3] [⟨(iTup K (tC (.ref T.a_ORDERS))), (gName 1), tYes, [1, 2, 3]⟩, ⟨(iTup K (tC (.ref T.a_GAPS))), (gName 2), tYes, [2, 3]⟩, ⟨(iTup K (tC (.ref T.a_FOLDS))), (gName 3), tYes, [3]⟩]) tNil))),
    PSs.nox (pss_one (ps_ret (pe_callTy call_tuple_of (by rfl) T.z_tuple (by decide +kernel) (pa_cons (pe_lcN (own := [("sums", 0), ("order", 1), ("gap", 2), ("fold", 3)]) rfl sc_all_libraries.nd (pi_tup (pe_glob (by rfl) T.c_SUMS rfl)) (blkOk_by (own := [("sums", 0), ("order", 1), ("gap", 2), ("fold", 3)]) (N := ["sums", "order", "gap", "fold"]) (sc := defScope s_all_libraries) (by decide +kernel)) (fun _ _ _ _ _ => ⟨(pg_name (i := 0) sc_all_libraries.nd rfl (Or.inl rfl)), pts_nil, (Lvs.cons (pi_tup (pe_glob (by rfl) T.c_ORDERS rfl)) (pg_name (i := 1) sc_all_libraries.nd rfl (Or.inl rfl)) pts_nil (fun _ => rfl) (by exact (by decide : ∀ i ∈ ([1, 2, 3] : List Nat), i ∈ ([0, 1, 2, 3] : List Nat))) (Lvs.cons (pi_tup (pe_glob (by rfl) T.c_GAPS rfl)) (pg_name (i := 2) sc_all_libraries.nd rfl (Or.inl rfl)) pts_nil (fun _ => rfl) (by exact (by decide : ∀ i ∈ ([2, 3] : List Nat), i ∈ ([1, 2, 3] : List Nat))) (Lvs.cons (pi_tup (pe_glob (by rfl) T.c_FOLDS rfl)) (pg_name (i := 3) sc_all_libraries.nd rfl (Or.inl rfl)) pts_nil (fun _ => rfl) (by exact (by decide : ∀ i ∈ ([3] : List Nat), i ∈ ([2, 3] : List Nat))) Lvs.nil))), (pe_tup (pa_cons (pv 0) (pa_cons (pv 1) (pa_cons (pv 2) (pa_cons (pv 3) pa_nil)))))⟩)) pa_nil)))), ?_⟩
  walk_at "gg"
  refine g_lcNT (G := fun H v (d : List V) => ∃ a, v = .ref a ∧ H a = some (.tup d)) T.q_SUMS (fun x => ([.str "elapsed", .str "wall"] : List V).flatMap fun y => ([.str "keep", .str "refuse", .str "shift"] : List V).flatMap fun z =>
    ([.str "both", .str "first", .str "refuse", .str "second"] : List V).flatMap fun u => [[x, y, z, u]]) ?_ (fun _ => rfl) (by decide +kernel) fun D H1 acc n1 e1 h1 p1 => ?_
  · intro D x hx
    refine runs_tup T.q_ORDERS _ (fun y hy => ?_) (fun _ => rfl)
    refine runs_tup T.q_GAPS _ (fun z hz => ?_) (fun _ => rfl)
    refine runs_tup T.q_FOLDS _ (fun u hu => ?_) (fun _ => rfl)
    refine runs_nilO (fun _ _ _ _ e ⟨a, h1, h2⟩ => ⟨a, h1, e _ _ h2 fun _ z => nomatch z⟩) fun H2 Q2 e2 k2 => ?_
    walk_at "gg"
    exact g_newT (by simp) fun p H3 n3 e3 h3 => k2 _ _ e3 ⟨p, rfl, h3⟩
  · walk_at "gg"
    refine g_tupleOfL (SqL.of h1) fun p H2 n2 e2 h2 => k p acc H2 (e1.trans e2) (SqT.of h2) ?_
    have e : (([.str "elapsed", .str "wall"] : List V).flatMap fun x => ([.str "elapsed", .str "wall"] : List V).flatMap fun y => ([.str "keep", .str "refuse", .str "shift"] : List V).flatMap fun z =>
      ([.str "both", .str "first", .str "refuse", .str "second"] : List V).flatMap fun u => [[x, y, z, u]]) = allWays.map wayL := by decide +kernel
    rw [e] at p1
    have key : ∀ {xs : List V} {ws : List Way}, Paired (fun v d => ∃ a, v = .ref a ∧ H1 a = some (.tup d)) xs (ws.map wayL) → Paired (KeyAt wayK H2) xs ws := fun {xs ws} h => by
      induction ws generalizing xs with
      | nil => cases h; exact .nil
      | cons w ws ih =>
        cases h with
        | cons r t =>
          obtain ⟨a, r1, r2⟩ := r
          exact .cons ⟨a, r1, e2 _ _ r2⟩ (ih t)
    exact key p1
end
local macro_rules | `(tactic| walk_at "m") => `(tactic| first
  | with_reducible refine g_m1 ?_
  | with_reducible refine g_isS ?_
  | with_reducible refine g_lcStr ?_
  | with_reducible refine g_join ?_
  | with_reducible refine g_js ?_
  | with_reducible refine g_jsN ?_
  | with_reducible refine g_fmt ?_
  | with_reducible refine g_callLam ?_
  | with_reducible refine g_revT ?_)

/-- the rules that hold -/
def profR (w : Way) (kind : Str) : List Rule := allR.filter (holdsB w kind)
def partO (kind : Str) (one other : Rule) : Option Way := allWays.find? fun w => holdsB w kind one && !holdsB w kind other
def OWayV (K : PySem.W.Frag) (H : Hp) (v : V) : Option Way → Prop
  | none => v = .non
  | some w => WayV K H v w
section
variable {P : Program} {w : World} {K : PySem.W.Frag} {mg : Str → Option Value} {base : Heap}
def sp_rules (K : PySem.W.Frag) : Sp := fun vs H Q _ => vs = [] ∧ ∀ p H', H p = none → Ex H H' → H' p = some (.tup (allR.map RuleV)) → Q (.ref p) H'
def sp_profile (K : PySem.W.Frag) : Sp := fun vs H Q _ => ∃ (wv : V) (y : Way) (kind : Str), vs = [wv, .str kind] ∧ WayV K H wv y ∧ isKind kind ∧ ∀ p H', Ex H H' → SqT K H' p ((profR y kind).map RuleV) → Q (.ref p) H'
def sp_parting (K : PySem.W.Frag) : Sp := fun vs H Q _ => ∃ (kind : Str) (one other : Rule), vs = [.str kind, .str (ruleS one), .str (ruleS other)] ∧ isKind kind ∧ ∀ v H', Ex H H' → OWayV K H' v (partO kind one other) → Q v H'
def sp_implies (K : PySem.W.Frag) : Sp := fun vs H Q _ => ∃ (kind : Str) (one other : Rule), vs = [.str kind, .str (ruleS one), .str (ruleS other)] ∧ isKind kind ∧ ∀ H', Ex H H' → Q (.bl (partO kind one other).isNone) H'
theorem ok_rules (T : Txt w K mg) : FnOk P w K mg base CX0 1 T.f_rules.f T.f_rules.fd [] (sp_rules K) := by
  refine T.f_rules.F.ok sc_rules (fun vs H Q E h => ?_) (fun cdv A outer s H vs Q E hr h => ?_)
  · obtain ⟨rfl, _⟩ := h
    rfl
  obtain ⟨rfl, k⟩ := h
  refine ⟨(tRet (tCB (r_tupleK K w) (tCons (tC (.ref T.a_SHAPES)) tNil))),
    PSs.nox (pss_one (ps_ret (pe_callTy (call_tupleK rfl) (by rfl) T.z_tuple (by decide +kernel) (pa_cons (pe_glob (by rfl) T.c_SHAPES rfl) pa_nil)))), ?_⟩
  walk_at "gg"
  refine g_tupleK T.l_SHAPES fun p H1 n1 e1 h1 => ?_
  exact k p H1 n1 e1 h1
theorem ok_profile (T : Txt w K mg) : FnOk P w K mg base CX0 6 T.f_profile.f T.f_profile.fd ["library", "kind"] (sp_profile K) := by
  refine T.f_profile.F.ok sc_profile (fun vs H Q E h => ?_) (fun cdv A outer s H vs Q E hr h => ?_)
  · obtain ⟨wv, y, kind, rfl, _⟩ := h
    rfl
  obtain ⟨wv, y, kind, rfl, hw, hk, k⟩ := h
  refine ⟨(tSeq (tDrop (tCall (sp_check_library K) [] E0 (tCons (tVar 0) tNil))) (tSeq (tDrop (tCall (sp_check_kind K) [] E0 (tCons (tVar 1) tNil))) (tRet (tCB (r_tupleOf K) (tCons (tLc (iTup K (tCall (sp_rules K) [] E0 tNil)) (gName 2) (tB (tCall (sp_holds K) [] E0 (tCons (tVar 0) (tCons (tVar 1) (tCons (tVar 2) tNil))))) (tVar 2) [2]) tNil))))),
    PSs.nox (pss_cons (ps_expr (pe_call (ok_check_library T) (hr.mono (by decide)) (by rfl) T.f_check_library.g T.f_check_library.F.kp T.f_check_library.b .nil pass0 (pa_cons (pv 0) pa_nil))) (pss_cons (ps_expr (pe_call (ok_check_kind T) (hr.mono (by decide)) (by rfl) T.f_check_kind.g T.f_check_kind.F.kp T.f_check_kind.b .nil pass0 (pa_cons (pv 1) pa_nil))) (pss_one (ps_ret (pe_callTy call_tuple_of (by rfl) T.z_tuple (by decide +kernel) (pa_cons (pe_lc (own := [("rule", 2)]) rfl sc_profile.nd (pi_tup (pe_call0 (ok_rules T) (hr.mono (by decide)) (by rfl) T.f_rules.g T.f_rules.F.kp T.f_rules.b .nil pass0)) (blkOk_by (own := [("rule", 2)]) (N := ["library", "kind", "rule"]) (sc := (defScope s_profile)) (by decide +kernel)) (fun _ _ _ _ _ => (pg_name (i := 2) sc_profile.nd rfl (Or.inl rfl))) (fun _ _ _ _ _ => (pts_one (pt_val (pe_call (ok_holds T) (hr.mono (by decide)) (by rfl) T.f_holds.g T.f_holds.F.kp T.f_holds.b .nil pass0 (pa_cons (pv 0) (pa_cons (pv 1) (pa_cons (pv 2) pa_nil))))))) (fun _ _ _ _ _ => (pv 2))) pa_nil)))))), ?_⟩
  walk_at "gg"
  refine ⟨_, y, rfl, hw, ?_⟩
  walk_at "gg"
  refine ⟨_, rfl, hk, ?_⟩
  walk_at "gg"
  refine ⟨rfl, fun p1 H1 n1 e1 h1 => ?_⟩
  refine g_lcT (F := fun H v r => v = RuleV r) (SqT.of h1) (pd_maps allR fun _ _ => rfl) (by decide) (holdsB y kind) RuleV (fun _ _ _ _ h => h) ?_ ?_
  · rintro r x H2 e2 rfl R S hR hS
    walk_at "gg"
    refine ⟨rfl, ?_⟩
    walk_at "gg"
    refine ⟨_, y, kind, r, rfl, (hw.tr (TrT.of e1)).tr (TrT.of e2), hk, fun H3 e3 => ?_⟩
    refine ⟨_, rfl, ?_⟩
    cases c : holdsB y kind r with
    | true =>
      walk_at "gg"
      exact hS c _ e3
    | false =>
      walk_at "gg"
      exact hR c _ e3
  · intro D H2 n2 e2 h2
    walk_at "gg"
    exact g_tupleOfL (SqL.of h2) fun p3 H3 n3 e3 h3 => k p3 H3 ((e1.trans e2).trans e3) (SqT.of h3)
theorem ok_parting (T : Txt w K mg) : FnOk P w K mg base CX0 6 T.f_parting.f T.f_parting.fd ["kind", "one", "other"] (sp_parting K) := by
  refine T.f_parting.F.ok sc_parting (fun vs H Q E h => ?_) (fun cdv A outer s H vs Q E hr h => ?_)
  · obtain ⟨kind, one, other, rfl, _⟩ := h
    rfl
  obtain ⟨kind, one, other, rfl, hk, k⟩ := h
  refine ⟨(tSeq (tDrop (tCall (sp_check_kind K) [] E0 (tCons (tVar 0) tNil))) (tSeq (tDrop (tCall (sp_check_rule K) [] E0 (tCons (tVar 1) tNil))) (tSeq (tDrop (tCall (sp_check_rule K) [] E0 (tCons (tVar 2) tNil))) (tSeq (tFor (iTup K (tCall (sp_all_libraries K) [] E0 tNil)) (gName 3) (tIfS (tAnd (tB (tCall (sp_holds K) [] E0 (tCons (tVar 3) (tCons (tVar 0) (tCons (tVar 1) tNil))))) (tNot (tB (tCall (sp_holds K) [] E0 (tCons (tVar 3) (tCons (tVar 0) (tCons (tVar 2) tNil))))))) (tRet (tVar 3)) tNext)) (tRet (tC .non)))))),
    PSs.nox (pss_cons (ps_expr (pe_call (ok_check_kind T) (hr.mono (by decide)) (by rfl) T.f_check_kind.g T.f_check_kind.F.kp T.f_check_kind.b .nil pass0 (pa_cons (pv 0) pa_nil))) (pss_cons (ps_expr (pe_call (ok_check_rule T) (hr.mono (by decide)) (by rfl) T.f_check_rule.g T.f_check_rule.F.kp T.f_check_rule.b .nil pass0 (pa_cons (pv 1) pa_nil))) (pss_cons (ps_expr (pe_call (ok_check_rule T) (hr.mono (by decide)) (by rfl) T.f_check_rule.g T.f_check_rule.F.kp T.f_check_rule.b .nil pass0 (pa_cons (pv 2) pa_nil))) (pss_cons (ps_for PassesOwn.never rfl (pi_tup (pe_call0 (ok_all_libraries T) (hr.mono (by decide)) (by rfl) T.f_all_libraries.g T.f_all_libraries.F.kp T.f_all_libraries.b .nil pass0)) (pg_name (i := 3) sc_parting.nd rfl (Or.inl rfl)) (pss_one (ps_if (PW.pt (pw_and (pt_val (pe_call (ok_holds T) (hr.mono (by decide)) (by rfl) T.f_holds.g T.f_holds.F.kp T.f_holds.b .nil pass0 (pa_cons (pv 3) (pa_cons (pv 0) (pa_cons (pv 1) pa_nil))))) (pw_and1 (pt_not (pt_val (pe_call (ok_holds T) (hr.mono (by decide)) (by rfl) T.f_holds.g T.f_holds.F.kp T.f_holds.b .nil pass0 (pa_cons (pv 3) (pa_cons (pv 0) (pa_cons (pv 2) pa_nil))))))))) (pss_one (ps_ret (pv 3))) pss_nil))) (pss_one (ps_ret pe_non)))))), ?_⟩
  walk_at "gg"
  refine ⟨_, rfl, hk, ?_⟩
  walk_at "gg"
  refine ⟨one, rfl, ?_⟩
  walk_at "gg"
  refine ⟨other, rfl, ?_⟩
  walk_at "gg"
  refine ⟨rfl, fun p1 xs H1 e1 h1 pw => ?_⟩
  refine g_forT (F := WayV K) h1 (pd_way pw) (fun l σ' H' => Ex H1 H' ∧ (∃ x3, σ' = [some (.str kind), some (.str (ruleS one)), some (.str (ruleS other)), x3]) ∧ partO kind one other = l.find? fun w => holdsB w kind one && !holdsB w kind other) ⟨Evl.Ex.refl _, ⟨_, rfl⟩, rfl⟩ ?_ ?_ ?_
  · rintro l σ' H' ⟨e2, _, _⟩
    exact ⟨Evl.ex_t e2 h1, fun x d h => h.tr (TrT.of e2)⟩
  · rintro d l x σ' H2 ⟨e2, ⟨x3, rfl⟩, hp⟩ hx
    walk_at "gg"
    refine ⟨_, d, kind, one, rfl, hx, hk, fun H3 e3 => ?_⟩
    refine ⟨_, rfl, ?_⟩
    rw [List.find?_cons] at hp
    cases c1 : holdsB d kind one with
    | false =>
      rw [c1] at hp
      walk_at "gg"
      exact ⟨e2.trans e3, ⟨_, rfl⟩, hp⟩
    | true =>
      rw [c1] at hp
      walk_at "gg"
      refine ⟨_, d, kind, other, rfl, hx.tr (TrT.of e3), hk, fun H4 e4 => ?_⟩
      refine ⟨_, rfl, ?_⟩
      have e24 := (e2.trans e3).trans e4
      cases c2 : holdsB d kind other with
      | false =>
        rw [c2] at hp
        walk_at "gg"
        refine k _ _ (e1.trans e24) ?_
        rw [show partO kind one other = some d from hp]
        exact hx.tr (TrT.of (e3.trans e4))
      | true =>
        rw [c2] at hp
        walk_at "gg"
        exact ⟨e24, ⟨_, rfl⟩, hp⟩
  · rintro σ' H2 ⟨e2, ⟨x3, rfl⟩, hp⟩
    walk_at "gg"
    refine k _ _ (e1.trans e2) ?_
    rw [show partO kind one other = none from hp]
    rfl
theorem ok_implies (T : Txt w K mg) : FnOk P w K mg base CX0 7 T.f_implies.f T.f_implies.fd ["kind", "one", "other"] (sp_implies K) := by
  refine T.f_implies.F.ok sc_implies (fun vs H Q E h => ?_) (fun cdv A outer s H vs Q E hr h => ?_)
  · obtain ⟨kind, one, other, rfl, _⟩ := h
    rfl
  obtain ⟨kind, one, other, rfl, hk, k⟩ := h
  refine ⟨(tRet (tOp r_isN (tCall (sp_parting K) [] E0 (tCons (tVar 0) (tCons (tVar 1) (tCons (tVar 2) tNil)))) (tC .non))),
    PSs.nox (pss_one (ps_ret (pe_cmpR op_isN (pe_call (ok_parting T) (hr.mono (by decide)) (by rfl) T.f_parting.g T.f_parting.F.kp T.f_parting.b .nil pass0 (pa_cons (pv 0) (pa_cons (pv 1) (pa_cons (pv 2) pa_nil)))) pe_non (nomark _)))), ?_⟩
  walk_at "gg"
  refine ⟨kind, one, other, rfl, hk, fun v H1 e1 hv => ?_⟩
  cases c : partO kind one other with
  | none =>
    rw [c] at hv k
    cases (show v = V.non from hv)
    walk_at "gg"
    exact k _ e1
  | some w =>
    rw [c] at hv k
    obtain ⟨a, rfl, _⟩ := hv
    walk_at "gg"
    exact k _ e1
def sp_keeps_all (K : PySem.W.Frag) : Sp := fun vs H Q _ => ∃ (wv : V) (y : Way) (kind : Str) (a : Addr) (rs : List Rule), vs = [wv, .str kind, .ref a] ∧ WayV K H wv y ∧ isKind kind ∧ SqT K H a (rs.map RuleV) ∧ rs.length ≤ 1000 ∧
  ∀ H', Ex H H' → Q (.bl (rs.all (holdsB y kind))) H'
theorem pd_rules {rs : List Rule} : Paired (fun v r => v = RuleV r) (rs.map RuleV) rs := by
  induction rs with
  | nil => exact .nil
  | cons r t ih => exact .cons rfl ih
theorem ok_keeps_all (T : Txt w K mg) : FnOk P w K mg base CX0 6 T.f_keeps_all.f T.f_keeps_all.fd ["library", "kind", "wanted"] (sp_keeps_all K) := by
  refine T.f_keeps_all.F.ok sc_keeps_all (fun vs H Q E h => ?_) (fun cdv A outer s H vs Q E hr h => ?_)
  · obtain ⟨wv, y, kind, a, rs, rfl, _⟩ := h
    rfl
  obtain ⟨wv, y, kind, a, rs, rfl, hw, hk, ha, few, k⟩ := h
  refine ⟨(tRet (tCB (rAll K) (tCons (tLc (iTup K (tVar 2)) (gName 3) tYes (tCall (sp_holds K) [] E0 (tCons (tVar 0) (tCons (tVar 1) (tCons (tVar 3) tNil)))) [3]) tNil))),
    PSs.nox (pss_one (ps_ret (pe_callB (cr_all rfl) (by rfl) T.z_all (by decide +kernel) (pa_cons (pe_lc (own := [("rule", 3)]) rfl sc_keeps_all.nd (pi_tup (pv 2)) (blkOk_by (own := [("rule", 3)]) (N := ["library", "kind", "wanted", "rule"]) (sc := (defScope s_keeps_all)) (by decide +kernel)) (fun _ _ _ _ _ => (pg_name (i := 3) sc_keeps_all.nd rfl (Or.inl rfl))) (fun _ _ _ _ _ => pts_nil) (fun _ _ _ _ _ => (pe_call (ok_holds T) (hr.mono (by decide)) (by rfl) T.f_holds.g T.f_holds.F.kp T.f_holds.b .nil pass0 (pa_cons (pv 0) (pa_cons (pv 1) (pa_cons (pv 3) pa_nil)))))) pa_nil)))), ?_⟩
  walk_at "gg"
  refine g_lcT (F := fun H v r => v = RuleV r) ha pd_rules (by omega) (fun _ => true) (fun r => .bl (holdsB y kind r)) (fun _ _ _ _ h => h) ?_ ?_
  · rintro r x H2 e2 rfl R S hR hS
    walk_at "gg"
    refine ⟨rfl, ?_⟩
    walk_at "gg"
    exact ⟨_, y, kind, r, rfl, hw.tr (TrT.of e2), hk, fun H3 e3 => hS rfl _ e3⟩
  · intro D H2 n2 e2 h2
    rw [filt_all] at h2
    walk_at "gg"
    refine g_allL (bs := rs.map (holdsB y kind)) (by rw [h2, List.map_map]; rfl) ?_
    rw [List.all_map]
    exact k _ e2
end
local macro_rules | `(tactic| walk_at "m") => `(tactic| first
  | with_reducible refine g_m1 ?_
  | with_reducible refine g_isS ?_
  | with_reducible refine g_lcStr ?_
  | with_reducible refine g_join ?_
  | with_reducible refine g_js ?_
  | with_reducible refine g_jsN ?_
  | with_reducible refine g_fmt ?_
  | with_reducible refine g_callLam ?_
  | with_reducible refine g_revT ?_)

section
variable {P : Program} {w : World} {K : PySem.W.Frag} {mg : Str → Option Value} {base : Heap}
theorem pd_ruleV {rs : List Rule} : Paired (fun v r => v = RuleV r) (rs.map RuleV) rs := pd_rules
def sp_law_profile (K : PySem.W.Frag) : Sp := fun vs H Q _ => ∃ (wv : V) (y : Way) (kind : Str), vs = [wv, .str kind] ∧ WayV K H wv y ∧ isKind kind ∧ ∀ p H', Ex H H' → SqT K H' p ((profR y kind).map RuleV) → Q (.ref p) H'
end
local macro_rules | `(tactic| walk_at "m") => `(tactic| first
  | with_reducible refine g_m1 ?_
  | with_reducible refine g_isS ?_
  | with_reducible refine g_lcStr ?_
  | with_reducible refine g_join ?_
  | with_reducible refine g_js ?_
  | with_reducible refine g_jsN ?_
  | with_reducible refine g_fmt ?_
  | with_reducible refine g_callLam ?_
  | with_reducible refine g_revT ?_)

theorem rules_V (rs : List Rule) : rs.map RuleV = (rs.map ruleS).map V.str := by
  rw [List.map_map]
  rfl
theorem rules_nodup {rs : List Rule} (h : rs.Nodup) : (rs.map ruleS).Nodup := List.pairwise_map.mpr (h.imp fun n e => n (ruleS_inj e))
/-- in how many rules a library is true to -/
def cntR (kind : Str) (w : Way) : Int := ((profR w kind).length : Nat)
def TopR (kind : Str) (m : Int) : Prop := m ∈ allWays.map (cntR kind) ∧ ∀ y ∈ allWays.map (cntR kind), y ≤ m
theorem TopR.one {kind : Str} {m n : Int} (a : TopR kind m) (b : TopR kind n) : m = n := Int.le_antisymm (b.2 m a.1) (a.2 n b.1)
def withR (kind : Str) (rs : List Rule) : List Way := allWays.filter fun w => rs.all (holdsB w kind)
def bestR (kind : Str) (m : Int) : List Way := allWays.filter fun w => decide (cntR kind w = m)
section
variable {P : Program} {w : World} {K : PySem.W.Frag} {mg : Str → Option Value} {base : Heap}
def sp_check_rules (K : PySem.W.Frag) : Sp := fun vs H Q _ => ∃ (a : Addr) (rs : List Rule), vs = [.ref a] ∧ SqT K H a (rs.map RuleV) ∧ rs.Nodup ∧ rs.length ≤ 1000 ∧ ∀ H', Ex H H' → Q .non H'
def sp_libraries_with (K : PySem.W.Frag) : Sp := fun vs H Q _ => ∃ (kind : Str) (a : Addr) (rs : List Rule), vs = [.str kind, .ref a] ∧ isKind kind ∧ SqT K H a (rs.map RuleV) ∧ rs.Nodup ∧ rs.length ≤ 1000 ∧
  ∀ p xs H', Ex H H' → SqT K H' p xs → Paired (WayV K H') xs (withR kind rs) → Q (.ref p) H'
def sp_most_rules (K : PySem.W.Frag) : Sp := fun vs H Q _ => ∃ kind : Str, vs = [.str kind] ∧ isKind kind ∧ ∀ m p xs H', TopR kind m → Ex H H' → SqT K H' p xs → Paired (WayV K H') xs (bestR kind m) → Q (.ref p) H'
theorem ok_check_rules (T : Txt w K mg) : FnOk P w K mg base CX0 2 T.f_check_rules.f T.f_check_rules.fd ["value"] (sp_check_rules K) := by
  refine T.f_check_rules.F.ok sc_check_rules (fun vs H Q E h => ?_) (fun cdv A outer s H vs Q E hr h => ?_)
  · obtain ⟨a, rs, rfl, _⟩ := h
    rfl
  obtain ⟨a, rs, rfl, ha, nd, few, k⟩ := h
  refine ⟨(tSeq (tIfS (tOr (tNot (tB (tCB (rIsi K) (tCons (tVar 0) (tCons (tC (.ty "tuple")) tNil))))) (tNot (tB (tCB (rAll K) (tCons (tLc (iTup K (tVar 0)) (gName 1) tYes (tCall (sp_is_rule K) [] E0 (tCons (tVar 1) tNil)) [1]) tNil))))) tNever tNext) (tIfS (tTest (tOp (rI0 fun i j => .bl (decide (i < j))) (tLenTx K (tVar 0)) (tCB (Evl.rLenS K) (tCons (tVar 0) tNil)))) tNever tNext)),
    PSs.nox (pss_cons (ps_if (PW.pt (pw_or (pt_not (pt_val (pe_callB call_isi (by rfl) T.z_isinstance (by decide +kernel) (pa_cons (pv 0) (pa_cons (pe_bltn (by rfl) T.z_tuple (by decide +kernel) rfl) pa_nil))))) (pw_or1 (pt_not (pt_val (pe_callB (cr_all rfl) (by rfl) T.z_all (by decide +kernel) (pa_cons (pe_lc (own := [("item", 1)]) rfl sc_check_rules.nd (pi_tup (pv 0)) (blkOk_by (own := [("item", 1)]) (N := ["value", "item"]) (sc := (defScope s_check_rules)) (by decide +kernel)) (fun _ _ _ _ _ => (pg_name (i := 1) sc_check_rules.nd rfl (Or.inl rfl))) (fun _ _ _ _ _ => pts_nil) (fun _ _ _ _ _ => (pe_call (ok_is_rule T) (hr.mono (by decide)) (by rfl) T.f_is_rule.g T.f_is_rule.F.kp T.f_is_rule.b .nil pass0 (pa_cons (pv 1) pa_nil)))) pa_nil))))))) (pss_one ps_never) pss_nil) (pss_one (ps_if (pt_cmpR op_lt (pe_lenTx rfl (by rfl) T.z_len (by rfl) T.z_set (pv 0)) (pe_callB call_len_seq (by rfl) T.z_len (by decide +kernel) (pa_cons (pv 0) pa_nil)) (nomark _)) (pss_one ps_never) pss_nil))), ?_⟩
  walk_at "gg"
  refine g_isi (ty_tup ha) (by decide +kernel : kitB "tuple" "tuple" = some true) ?_
  walk_at "gg"
  refine g_lcT (F := fun H v r => v = RuleV r) ha pd_rules (by omega) (fun _ => true) (fun _ => .bl true) (fun _ _ _ _ h => h) ?_ ?_
  · rintro r x H2 e2 rfl R S hR hS
    walk_at "gg"
    refine ⟨rfl, ?_⟩
    walk_at "gg"
    exact ⟨r, rfl, hS rfl _ (Evl.Ex.refl _)⟩
  · intro D H2 n2 e2 h2
    rw [filt_all] at h2
    walk_at "gg"
    refine g_allL (bs := rs.map fun _ => true) (by rw [h2, List.map_map]; rfl) ?_
    rw [show (rs.map fun _ => true).all id = true from by rw [List.all_map]; exact List.all_eq_true.mpr fun _ _ => rfl]
    walk_at "gg"
    have ha2 := Evl.ex_t e2 ha
    refine ⟨_, rfl, a, rs.map ruleS, rfl, by rw [← rules_V]; exact ha2, by rw [List.length_map]; exact few, ?_⟩
    rw [cntS_nodup (rules_nodup nd) _ (Nat.le_refl _), List.length_map]
    walk_at "gg"
    refine g_lenT ha2 ?_
    rw [List.length_map]
    walk_at "gg"
    rw [decide_eq_false (Int.lt_irrefl _)]
    walk_at "gg"
    exact k _ e2
theorem ok_libraries_with (T : Txt w K mg) : FnOk P w K mg base CX0 7 T.f_libraries_with.f T.f_libraries_with.fd ["kind", "wanted"] (sp_libraries_with K) := by
  refine T.f_libraries_with.F.ok sc_libraries_with (fun vs H Q E h => ?_) (fun cdv A outer s H vs Q E hr h => ?_)
  · obtain ⟨kind, a, rs, rfl, _⟩ := h
    rfl
  obtain ⟨kind, a, rs, rfl, hk, ha, nd, few, k⟩ := h
  refine ⟨(tSeq (tDrop (tCall (sp_check_kind K) [] E0 (tCons (tVar 0) tNil))) (tSeq (tDrop (tCall (sp_check_rules K) [] E0 (tCons (tVar 1) tNil))) (tRet (tCB (r_tupleOf K) (tCons (tLc (iTup K (tCall (sp_all_libraries K) [] E0 tNil)) (gName 2) (tB (tCall (sp_keeps_all K) [] E0 (tCons (tVar 2) (tCons (tVar 0) (tCons (tVar 1) tNil))))) (tVar 2) [2]) tNil))))),
    PSs.nox (pss_cons (ps_expr (pe_call (ok_check_kind T) (hr.mono (by decide)) (by rfl) T.f_check_kind.g T.f_check_kind.F.kp T.f_check_kind.b .nil pass0 (pa_cons (pv 0) pa_nil))) (pss_cons (ps_expr (pe_call (ok_check_rules T) (hr.mono (by decide)) (by rfl) T.f_check_rules.g T.f_check_rules.F.kp T.f_check_rules.b .nil pass0 (pa_cons (pv 1) pa_nil))) (pss_one (ps_ret (pe_callTy call_tuple_of (by rfl) T.z_tuple (by decide +kernel) (pa_cons (pe_lc (own := [("library", 2)]) rfl sc_libraries_with.nd (pi_tup (pe_call0 (ok_all_libraries T) (hr.mono (by decide)) (by rfl) T.f_all_libraries.g T.f_all_libraries.F.kp T.f_all_libraries.b .nil pass0)) (blkOk_by (own := [("library", 2)]) (N := ["kind", "wanted", "library"]) (sc := (defScope s_libraries_with)) (by decide +kernel)) (fun _ _ _ _ _ => (pg_name (i := 2) sc_libraries_with.nd rfl (Or.inl rfl))) (fun _ _ _ _ _ => (pts_one (pt_val (pe_call (ok_keeps_all T) (hr.mono (by decide)) (by rfl) T.f_keeps_all.g T.f_keeps_all.F.kp T.f_keeps_all.b .nil pass0 (pa_cons (pv 2) (pa_cons (pv 0) (pa_cons (pv 1) pa_nil))))))) (fun _ _ _ _ _ => (pv 2))) pa_nil)))))), ?_⟩
  walk_at "gg"
  refine ⟨_, rfl, hk, ?_⟩
  walk_at "gg"
  refine ⟨_, rs, rfl, ha, nd, few, fun H1 e1 => ?_⟩
  walk_at "gg"
  refine ⟨rfl, fun p xs H2 e2 h2 pw => ?_⟩
  refine g_lcTR (F := WayV K) (G := WayV K) h2 (pd_way pw) (by rw [allWays_48]; omega) (fun y => rs.all (holdsB y kind)) (fun _ _ _ e h => h.tr (TrT.of e)) (fun _ _ _ _ t h => h.tr t) ?_ ?_
  · intro y x H3 e3 hy R S hR hS
    walk_at "gg"
    refine ⟨rfl, ?_⟩
    walk_at "gg"
    refine ⟨_, y, kind, _, rs, rfl, hy, hk, Evl.ex_t ((e1.trans e2).trans e3) ha, few, fun H4 e4 => ?_⟩
    refine ⟨_, rfl, ?_⟩
    cases c : rs.all (holdsB y kind) with
    | true =>
      walk_at "gg"
      exact hS c _ _ e4 (hy.tr (TrT.of e4))
    | false =>
      walk_at "gg"
      exact hR c _ e4
  · intro D H3 ys n3 e3 h3 py
    walk_at "gg"
    exact g_tupleOfL (SqL.of h3) fun p4 H4 n4 e4 h4 => k p4 _ H4 (((e1.trans e2).trans e3).trans e4) (SqT.of h4) (L2.Paired.mapP py fun _ _ q => q.tr (TrT.of e4))
theorem ok_most_rules (T : Txt w K mg) : FnOk P w K mg base CX0 7 T.f_most_rules.f T.f_most_rules.fd ["kind"] (sp_most_rules K) := by
  refine T.f_most_rules.F.ok sc_most_rules (fun vs H Q E h => ?_) (fun cdv A outer s H vs Q E hr h => ?_)
  · obtain ⟨kind, rfl, _⟩ := h
    rfl
  obtain ⟨kind, rfl, hk, k⟩ := h
  refine ⟨(tSeq (tDrop (tCall (sp_check_kind K) [] E0 (tCons (tVar 0) tNil))) (tSeq (tAsg (tDcT (iTup K (tCall (sp_all_libraries K) [] E0 tNil)) (gName 3) tYes (tVar 3) (tCB (Evl.rLenS K) (tCons (tCall (sp_profile K) [] E0 (tCons (tVar 3) (tCons (tVar 0) tNil))) tNil)) [3]) (gName 1)) (tSeq (tAsg (tMaxVT (tVar 1)) (gName 2)) (tRet (tCB (r_tupleOf K) (tCons (tLockE (tLc (iKeys (tVar 1)) (gName 3) (tTest (tOp rEq (tDGet (tVar 1) (tVar 3)) (tVar 2))) (tVar 3) [3])) tNil)))))),
    PSs.nox (pss_cons (ps_expr (pe_call (ok_check_kind T) (hr.mono (by decide)) (by rfl) T.f_check_kind.g T.f_check_kind.F.kp T.f_check_kind.b .nil pass0 (pa_cons (pv 0) pa_nil))) (pss_cons (ps_set (i := 1) sc_most_rules.nd rfl (Or.inr rfl) (pe_dcT (own := [("library", 3)]) rfl sc_most_rules.nd (hu_of hr) (pi_tup (pe_call0 (ok_all_libraries T) (hr.mono (by decide)) (by rfl) T.f_all_libraries.g T.f_all_libraries.F.kp T.f_all_libraries.b .nil pass0)) (blkOk_by (own := [("library", 3)]) (N := ["kind", "counts", "most", "library"]) (sc := defScope s_most_rules) (by decide +kernel)) (fun _ _ _ _ _ => (pg_name (i := 3) sc_most_rules.nd rfl (Or.inl rfl))) (fun _ _ _ _ _ => pts_nil) (fun _ _ _ _ _ => (pv 3)) (fun _ _ _ _ _ => (pe_callB call_len_seq (by rfl) T.z_len (by decide +kernel) (pa_cons (pe_call (ok_profile T) (hr.mono (by decide)) (by rfl) T.f_profile.g T.f_profile.F.kp T.f_profile.b .nil pass0 (pa_cons (pv 3) (pa_cons (pv 0) pa_nil))) pa_nil))))) (pss_cons (ps_set (i := 2) sc_most_rules.nd rfl (Or.inr rfl) (pe_maxVT rfl (by rfl) T.z_max (pv 1))) (pss_one (ps_ret (pe_callTy call_tuple_of (by rfl) T.z_tuple (by decide +kernel) (pa_cons (pe_lock (pe_lc (own := [("library", 3)]) rfl sc_most_rules.nd (pi_keys (pv 1)) (blkOk_by (own := [("library", 3)]) (N := ["kind", "counts", "most", "library"]) (sc := (defScope s_most_rules)) (by decide +kernel)) (fun _ _ _ _ _ => (pg_name (i := 3) sc_most_rules.nd rfl (Or.inl rfl))) (fun _ _ _ _ _ => (pts_one (pt_cmpR op_eq (pe_dget (hu_of hr) (pv 1) (pv 3) (fun _ _ => rfl)) (pv 2) (nomark _)))) (fun _ _ _ _ _ => (pv 3)))) pa_nil))))))), ?_⟩
  walk_at "gg"
  refine ⟨_, rfl, hk, ?_⟩
  walk_at "gg"
  refine g_dcTupI ?_
  walk_at "gg"
  refine ⟨rfl, fun p1 xs H1 e1 h1 pw => ?_⟩
  refine g_dcTup (key := wayK) (val := fun y => .int (cntR kind y)) h1 pw wayK_nodup (by rw [allWays_48]; omega) ?_ ?_
  · intro y b H2 e2 hb R S hS
    walk_at "gg"
    refine ⟨rfl, ?_⟩
    walk_at "gg"
    refine ⟨_, y, kind, rfl, ⟨b, rfl, SqT.of hb⟩, hk, fun p3 H3 e3 h3 => ?_⟩
    refine g_lenT h3 ?_
    rw [List.length_map]
    exact hS _ e3
  · intro D H2 n2 e2 h2
    walk_at "gg"
    refine ⟨_, rfl, D, _, allWays.map (cntR kind), rfl, h2, by rw [List.map_map, List.map_map]; rfl, by rw [List.length_map, allWays_48]; omega, fun m m1 m2 => ?_⟩
    walk_at "gg"
    refine g_lcKT (key := wayK) (val := fun y => .int (cntR kind y)) rfl h2 (by rw [allWays_48]; omega) (fun y => decide (cntR kind y = m)) ?_ ?_
    · intro y b od H3 e3 my hb R S hR hS
      walk_at "gg"
      refine ⟨rfl, ?_⟩
      walk_at "gg"
      refine g_dgetS ?_
      walk_at "gg"
      refine ⟨D, .int (cntR kind y), rfl, .inr ⟨_, wayK y, b, .inr ⟨od, e3 _ _ upd_same⟩, rfl, hb, (val_at (val := fun y => V.int (cntR kind y)) wayK_nodup my).symm⟩, ?_⟩
      walk_at "gg"
      refine if_d (fun c => ?_) (fun c => ?_)
      · walk_at "gg"
        exact hS (decide_eq_true c) _ (Evl.Ex.refl _)
      · exact hR (decide_eq_false c) _ (Evl.Ex.refl _)
    · intro L H3 acc f3 h3 pa
      walk_at "gg"
      refine g_tupleOfL (SqL.of h3) fun p4 H4 n4 e4 h4 => k m p4 _ H4 ⟨m1, m2⟩ ?_ (SqT.of h4) (L2.Paired.mapP pa fun _ _ q => (way_key q).tr (TrT.of e4))
      exact (ex_fr (e1.trans e2) (Evl.fresh_back e1 n2) f3).trans e4
end
local macro_rules | `(tactic| walk_at "m") => `(tactic| first
  | with_reducible refine g_m1 ?_
  | with_reducible refine g_isS ?_
  | with_reducible refine g_lcStr ?_
  | with_reducible refine g_join ?_
  | with_reducible refine g_js ?_
  | with_reducible refine g_jsN ?_
  | with_reducible refine g_fmt ?_
  | with_reducible refine g_callLam ?_
  | with_reducible refine g_revT ?_)

/-! ### the walk over the changes to a gap -/
def gapGo (rd : Int) : Int → List (Int × Int) → Option Int
  | _, [] => none
  | b, p :: r => if p.1 + b ≤ rd ∧ rd < p.1 + p.2 then some b else gapGo rd p.2 r
theorem gapGo_some {rd x : Int} : ∀ {b e : Int} {cs : List (Int × Int)}, okGo b e cs = true → gapGo rd b cs = some x →
    ∃ q, e ≤ q ∧ q + x ≤ rd ∧ rd < q + offGo q b cs ∧ offGo (q - 1) b cs = x
  | b, e, [], _, h => by cases h
  | b, e, p :: r, o, h => by
    have a := okGo_after o p (by simp)
    rw [okGo_cons, Bool.and_eq_true] at o
    unfold gapGo at h
    split at h
    · next c =>
      cases h
      refine ⟨p.1, a, c.1, ?_, ?_⟩
      · rw [offGo_cons, if_neg (by omega), offGo_before o.2 (by omega)]
        exact c.2
      · rw [offGo_cons, if_pos (by omega)]
    · obtain ⟨q, q1, q2, q3, q4⟩ := gapGo_some o.2 h
      refine ⟨q, by omega, q2, ?_, ?_⟩
      · rw [offGo_cons, if_neg (by omega)]
        exact q3
      · rw [offGo_cons, if_neg (by omega)]
        exact q4
theorem gapGo_hit {rd s : Int} : ∀ {b e : Int} {cs : List (Int × Int)}, okGo b e cs = true → s + offGo (s - 1) b cs ≤ rd → rd < s + offGo s b cs → gapGo rd b cs ≠ none
  | b, e, [], _, h1, h2 => by
    have e1 : offGo (s - 1) b [] = b := rfl
    have e2 : offGo s b [] = b := rfl
    omega
  | b, e, p :: r, o, h1, h2 => by
    rw [okGo_cons, Bool.and_eq_true] at o
    unfold gapGo
    split
    · exact fun q => nomatch q
    · next c =>
      by_cases c1 : p.1 > s
      · rw [offGo_cons, if_pos (by omega)] at h1 h2
        omega
      · by_cases c2 : p.1 = s
        · rw [offGo_cons, if_pos (by omega)] at h1
          rw [offGo_cons, if_neg (by omega), offGo_before o.2 (by omega)] at h2
          exact (c ⟨by omega, by omega⟩).elim
        · rw [offGo_cons, if_neg (by omega)] at h1 h2
          exact gapGo_hit o.2 h1 h2
theorem gapGo_before {z : Zone} (h : OkZ z) {rd : Int} (e : insts z rd = []) : gapGo rd z.1 z.2 = some (before z rd) := by
  obtain ⟨s, a, b, G⟩ := h.gap e
  have b1 := G.bef (s - 1) (by omega) (by omega)
  have a1 := G.aft s (by omega) (by omega)
  have g1 := G.lo
  have g2 := G.hi
  cases q : gapGo rd z.1 z.2 with
  | none => exact (gapGo_hit h.go (s := s) (by unfold off at b1; omega) (by unfold off at a1; omega) q).elim
  | some x =>
    obtain ⟨p, p1, p2, p3, p4⟩ := gapGo_some h.go q
    have p3 : rd < p + off z p := p3
    have p4 : off z (p - 1) = x := p4
    have l1 : p - 1 < s := gap_earlier h G (by omega)
    have es : p = s := by
      by_cases c : p < s
      · have l2 := h.back (t := p) (u := s - 1)
        by_cases c2 : p < s - 1
        · have l3 := l2 c2 (by omega)
          have := G.bef p (by omega) c
          omega
        · have : p = s - 1 := by omega
          subst this
          omega
      · omega
    subst es
    rw [G.bf, ← p4, b1]
theorem insts2 {z : Zone} (hz : OkZ z) {ns : List Int} {t : Int} (r : ns.Pairwise (· < ·)) (m : ∀ k, k ∈ ns ↔ k + off z k = t) : ns = insts z t := rise_ext r (insts_rise z t) fun k => by rw [m, insts_mem hz]
theorem emp_false {α : Type} {xs : List α} (c : xs ≠ []) : (!xs.isEmpty) = true := by
  cases xs with
  | nil => exact (c rfl).elim
  | cons _ _ => rfl
instance decTm {w : Way} {z : Zone} {t : Tm} : Decidable (IsTm w z t) := inferInstanceAs (Decidable (t ∈ times w z t.1))
theorem tm_in {w : Way} {z : Zone} {t : Tm} (c : t.2 = 0 ∨ t.2 = 1) : inV (.int t.2) ((times w z t.1).map fun x => V.int x.2) = decide (IsTm w z t) := by
  have e : ∀ xs : List Tm, (∀ x ∈ xs, x.1 = t.1) → inV (.int t.2) (xs.map fun x => V.int x.2) = decide (t ∈ xs) := by
    intro xs
    induction xs with
    | nil => intro _; exact (decide_eq_false (by simp)).symm
    | cons x xs ih =>
      intro h
      have i := ih fun y hy => h y (by simp [hy])
      have hx := h x (by simp)
      show (eqV (.int x.2) (.int t.2) || inV (.int t.2) (xs.map fun x => V.int x.2)) = _
      rw [i]
      have e1 : eqV (.int x.2) (.int t.2) = decide (t = x) := by
        show (x.2 == t.2) = decide (t = x)
        rw [show (x.2 == t.2) = decide (x.2 = t.2) from rfl]
        exact decide_eq_decide.mpr ⟨fun e => Prod.ext hx.symm e.symm, fun e => by rw [e]⟩
      rw [e1, ← Bool.decide_or]
      exact decide_eq_decide.mpr List.mem_cons.symm
  exact e _ fun x hx => times_rd hx
/-! ### promises -/
def sp_offset_before_gap (K : PySem.W.Frag) : Sp := fun vs H Q _ => ∃ (zv : V) (z : Zone) (t : Int), vs = [zv, .int t] ∧ ZV K H zv z ∧ OkZ z ∧ insts z t = [] ∧ ∀ H', Ex H H' → Q (.int (before z t)) H'
def sp_instant_of_time (K : PySem.W.Frag) : Sp := fun vs H Q _ => ∃ (wv zv tv : V) (w : Way) (z : Zone) (t : Tm), vs = [wv, zv, tv] ∧ WayV K H wv w ∧ ZV K H zv z ∧ OkZ z ∧ PV K H tv t ∧ IsTm w z t ∧ ∀ H', Ex H H' → Q (.int (inst w z t)) H'
def sp_time_at (K : PySem.W.Frag) : Sp := fun vs H Q _ => ∃ (wv zv : V) (w : Way) (z : Zone) (t : Int), vs = [wv, zv, .int t] ∧ WayV K H wv w ∧ ZV K H zv z ∧ OkZ z ∧ ∀ v H', Ex H H' → TV K H' v (at_ w z t) → Q v H'
def sp_time_read (K : PySem.W.Frag) : Sp := fun vs H Q _ => ∃ (wv zv : V) (w : Way) (z : Zone) (t : Int), vs = [wv, zv, .int t] ∧ WayV K H wv w ∧ ZV K H zv z ∧ OkZ z ∧ ∀ v H', Ex H H' → TV K H' v (read_ w z t) → Q v H'
def sp_is_time (K : PySem.W.Frag) : Sp := fun vs H Q _ => ∃ (wv zv tv : V) (w : Way) (z : Zone) (t : Tm), vs = [wv, zv, tv] ∧ WayV K H wv w ∧ ZV K H zv z ∧ okZ z = true ∧ PV K H tv t ∧ -90000 ≤ t.1 ∧ t.1 ≤ 90000 ∧ (t.2 = 0 ∨ t.2 = 1) ∧
  ∀ H', Ex H H' → Q (.bl (decide (IsTm w z t))) H'
def sp_place_of (K : PySem.W.Frag) : Sp := fun vs H Q _ => ∃ (wv zv tv : V) (b : Bool) (w : Way) (z : Zone) (t : Tm), vs = [.str (sumS b), wv, zv, tv] ∧ WayV K H wv w ∧ ZV K H zv z ∧ OkZ z ∧ PV K H tv t ∧ IsTm w z t ∧
  ∀ H', Ex H H' → Q (.int (if b then t.1 else inst w z t)) H'
def sp_time_after (K : PySem.W.Frag) : Sp := fun vs H Q _ => ∃ (wv zv tv : V) (w : Way) (z : Zone) (t : Tm) (d : Int), vs = [wv, zv, tv, .int d] ∧ WayV K H wv w ∧ ZV K H zv z ∧ OkZ z ∧ PV K H tv t ∧ IsTm w z t ∧
  ∀ v H', Ex H H' → TV K H' v (addT w z (some t) d) → Q v H'
def sp_hours_between (K : PySem.W.Frag) : Sp := fun vs H Q _ => ∃ (wv zv av bv : V) (w : Way) (z : Zone) (a b : Tm), vs = [wv, zv, av, bv] ∧ WayV K H wv w ∧ ZV K H zv z ∧ OkZ z ∧ PV K H av a ∧ PV K H bv b ∧ IsTm w z a ∧ IsTm w z b ∧
  ∀ H', Ex H H' → Q (.int (less_ w z a b)) H'
def sp_order_of (K : PySem.W.Frag) : Sp := fun vs H Q _ => ∃ (wv zv av bv : V) (w : Way) (z : Zone) (a b : Tm), vs = [wv, zv, av, bv] ∧ WayV K H wv w ∧ ZV K H zv z ∧ OkZ z ∧ PV K H av a ∧ PV K H bv b ∧ IsTm w z a ∧ IsTm w z b ∧
  ∀ H', Ex H H' → Q (.int (cmp (key w z a) (key w z b))) H'
section
variable {P : Program} {w : World} {K : PySem.W.Frag} {mg : Str → Option Value} {base : Heap}
theorem ok_offset_before_gap (T : Txt w K mg) : FnOk P w K mg base CX0 1 T.f_offset_before_gap.f T.f_offset_before_gap.fd ["zone", "reading"] (sp_offset_before_gap K) := by
  refine T.f_offset_before_gap.F.ok sc_offset_before_gap (fun vs H Q E h => ?_) (fun cdv A outer s H vs Q E hr h => ?_)
  · obtain ⟨zv, z, t, rfl, _⟩ := h
    rfl
  obtain ⟨zv, z, t, rfl, ⟨a, c, rfl, ha, b, xs, rfl, hb, hp⟩, hz, he, k⟩ := h
  have g0 := gapGo_before hz he
  refine ⟨(tSeq (tAsg (tVar 0) (gTup K 2 (gCons (gName 2) (gCons (gName 3) gNil)))) (tSeq (tFor (iTup K (tVar 3)) (gTup K 2 (gCons (gName 4) (gCons (gName 5) gNil))) (tSeq (tIfS (tTest (tChain (rI0 fun i j => .bl (decide (i ≤ j))) (rI0 fun i j => .bl (decide (i < j))) (tOp (rI0 fun i j => .int (i + j)) (tVar 4) (tVar 2)) (tVar 1) (tOp (rI0 fun i j => .int (i + j)) (tVar 4) (tVar 5)))) (tRet (tVar 2)) tNext) (tAsg (tVar 5) (gName 2)))) (tRet (tC .non)))),
    PSs.nox (pss_cons (ps_asg (pv 0) (pg_tup rfl (pgs_cons (pg_name (i := 2) sc_offset_before_gap.nd rfl (Or.inl rfl)) (pgs_cons (pg_name (i := 3) sc_offset_before_gap.nd rfl (Or.inl rfl)) pgs_nil)))) (pss_cons (ps_for PassesOwn.never rfl (pi_tup (pv 3)) (pg_tup rfl (pgs_cons (pg_name (i := 4) sc_offset_before_gap.nd rfl (Or.inl rfl)) (pgs_cons (pg_name (i := 5) sc_offset_before_gap.nd rfl (Or.inl rfl)) pgs_nil))) (pss_cons (ps_if (pt_chain op_le op_lt (pe_op op_add (pv 4) (pv 2)) (pv 1) (pe_op op_add (pv 4) (pv 5))) (pss_one (ps_ret (pv 2))) pss_nil) (pss_one (ps_set (i := 2) sc_offset_before_gap.nd rfl (Or.inl rfl) (pv 5))))) (pss_one (ps_ret pe_non)))), ?_⟩
  walk_at "gg"
  refine g_forT (F := PV K) hb hp (fun l σ' H' => Ex H H' ∧ ∃ cur s0 a0, gapGo t cur l = some (before z t) ∧ σ' = [some (.ref a), some (.int t), some (.int cur), some (.ref b), s0, a0])
    ⟨Evl.Ex.refl _, _, _, _, g0, rfl⟩ (fun _ _ _ q => ⟨Evl.ex_t q.1 hb, fun _ _ h => h.tr (TrT.of q.1)⟩) ?_ ?_
  · rintro p l x σ' H' ⟨e, cur, s0, a0, q, rfl⟩ ⟨y, rfl, hy⟩
    unfold gapGo at q
    walk_at "gg"
    refine if_d (fun c => ?_) (fun c => ?_)
    · walk_at "gg"
      refine if_d (fun c2 => ?_) (fun c2 => ?_)
      · walk_at "gg"
        rw [if_pos ⟨c, c2⟩] at q
        rw [Option.some.inj q]
        exact k _ e
      · walk_at "gg"
        rw [if_neg fun h => c2 h.2] at q
        exact ⟨e, _, _, _, q, rfl⟩
    · walk_at "gg"
      rw [if_neg fun h => c h.1] at q
      exact ⟨e, _, _, _, q, rfl⟩
  · rintro σ' H' ⟨e, cur, s0, a0, q, rfl⟩
    cases q
theorem ok_instant_of_time (T : Txt w K mg) : FnOk P w K mg base CX0 3 T.f_instant_of_time.f T.f_instant_of_time.fd ["library", "zone", "time"] (sp_instant_of_time K) := by
  refine T.f_instant_of_time.F.ok sc_instant_of_time (fun vs H Q E h => ?_) (fun cdv A outer s H vs Q E hr h => ?_)
  · obtain ⟨wv, zv, tv, w, z, t, rfl, _⟩ := h
    rfl
  obtain ⟨wv, zv, tv, w, z, t, rfl, ⟨wa, rfl, hw⟩, hv, hz, ⟨ta, rfl, ht⟩, hi, k⟩ := h
  unfold inst at k
  refine ⟨(tSeq (tAsg (tVar 2) (gTup K 2 (gCons (gName 3) (gCons (gName 4) gNil)))) (tSeq (tAsg (tCall (sp_instants_with K) [] E0 (tCons (tVar 1) (tCons (tVar 3) tNil))) (gName 5)) (tSeq (tIfS (tNot (tTru K (tVar 5))) (tRet (tOp (rI0 fun i j => .int (i - j)) (tVar 3) (tCall (sp_offset_before_gap K) [] E0 (tCons (tVar 1) (tCons (tVar 3) tNil))))) tNext) (tSeq (tIfS (tAnd (tTest (tOp rEq (tCB (Evl.rLenS K) (tCons (tVar 5) tNil)) (tC (.int 2)))) (tTest (tOp rEq (tOp (rIxT K) (tVar 0) (tC (.int 3))) (tC (.str "second"))))) (tRet (tOp (rIxT K) (tVar 5) (tC (.int 1)))) tNext) (tRet (tOp (rIxT K) (tVar 5) (tVar 4))))))),
    PSs.nox (pss_cons (ps_asg (pv 2) (pg_tup rfl (pgs_cons (pg_name (i := 3) sc_instant_of_time.nd rfl (Or.inl rfl)) (pgs_cons (pg_name (i := 4) sc_instant_of_time.nd rfl (Or.inl rfl)) pgs_nil)))) (pss_cons (ps_set (i := 5) sc_instant_of_time.nd rfl (Or.inl rfl) (pe_call (ok_instants_with T) (hr.mono (by decide)) (by rfl) T.f_instants_with.g T.f_instants_with.F.kp T.f_instants_with.b .nil pass0 (pa_cons (pv 1) (pa_cons (pv 3) pa_nil)))) (pss_cons (ps_if (pt_not (pt_tru (pv 5))) (pss_one (ps_ret (pe_op op_sub (pv 3) (pe_call (ok_offset_before_gap T) (hr.mono (by decide)) (by rfl) T.f_offset_before_gap.g T.f_offset_before_gap.F.kp T.f_offset_before_gap.b .nil pass0 (pa_cons (pv 1) (pa_cons (pv 3) pa_nil)))))) pss_nil) (pss_cons (ps_if (PW.pt (pw_and (pt_cmpR op_eq (pe_callB call_len_seq (by rfl) T.z_len (by decide +kernel) (pa_cons (pv 5) pa_nil)) pe_int (nomark _)) (pw_and1 (pt_cmpR op_eq (pe_ix ix_tup (pv 0) pe_int (fun _ _ => rfl)) pe_str (nomark _))))) (pss_one (ps_ret (pe_ix ix_tup (pv 5) pe_int (fun _ _ => rfl)))) pss_nil) (pss_one (ps_ret (pe_ix ix_tup (pv 5) (pv 4) (fun _ _ => rfl)))))))), ?_⟩
  walk_at "gg"
  refine ⟨_, z, _, rfl, hv, hz.len, fun p1 H1 ns n1 e1 h1 r1 m1 => ?_⟩
  have en := insts2 hz r1 m1
  subst en
  walk_at "gg"
  refine g_tru ?_
  walk_at "gg"
  refine g_truT h1.sq ?_
  by_cases c : insts z t.1 = []
  · rw [if_pos c] at k
    rw [show ((insts z t.1).map V.int).isEmpty = true by rw [c] <;> rfl]
    walk_at "gg"
    refine ⟨_, z, _, rfl, hv.tr (TrT.of e1), hz, c, fun H2 e2 => ?_⟩
    walk_at "gg"
    exact k _ (e1.trans e2)
  · rw [if_neg c] at k
    have l0 : 0 < (insts z t.1).length := List.length_pos_iff.mpr c
    rw [show ((insts z t.1).map V.int).isEmpty = false by
      cases q : insts z t.1 with
      | nil => exact (c q).elim
      | cons _ _ => rfl]
    walk_at "gg"
    refine g_lenT h1.sq ?_
    rw [List.length_map]
    walk_at "gg"
    have last : ∀ Q' : VK, Q' (.int ((insts z t.1)[t.2.toNat]?.getD 0)) H1 → rIxT K (.ref p1) (.int t.2) H1 Q' := by
      intro Q' k'
      have lt : t.2.toNat < (insts z t.1).length := by
        rcases hi.pass with p | p
        · rw [p]; exact l0
        · rw [p.1, p.2.2]; decide
      have p0 : 0 ≤ t.2 := by rcases hi.pass with p | p <;> omega
      rw [List.getElem?_eq_getElem lt] at k'
      refine g_ixT h1.sq (v := .int ((insts z t.1)[t.2.toNat])) (atI_of p0 ?_) k'
      rw [List.getElem?_map, List.getElem?_eq_getElem lt]
      rfl
    refine if_d (fun c2 => ?_) (fun c2 => ?_)
    · walk_at "gg"
      rw [fold_second]
      refine if_d (fun c3 => ?_) (fun c3 => ?_)
      · rw [if_pos c3] at k
        walk_at "gg"
        have c2 : (insts z t.1).length = 2 := by omega
        obtain ⟨A, B, eAB⟩ : ∃ A B, insts z t.1 = [A, B] := by
          match q : insts z t.1, c2 with
          | [A, B], _ => exact ⟨A, B, rfl⟩
        rw [eAB] at k h1
        refine g_ixT h1.sq (v := .int B) rfl ?_
        exact k _ e1
      · rw [if_neg c3] at k
        walk_at "gg"
        exact last _ (k _ e1)
    · walk_at "gg"
      have nb : w.fold ≠ .second ∨ (insts z t.1).length ≠ 2 := .inr (by omega)
      refine last _ ?_
      by_cases c3 : w.fold = .second
      · rw [if_pos c3] at k
        have p0 : t.2 = 0 := by
          rcases hi.pass with p | p
          · exact p
          · rw [p.2.1] at c3; cases c3
        have l2 := hz.le2 t.1
        obtain ⟨A, eA⟩ : ∃ A, insts z t.1 = [A] := by
          match q : insts z t.1 with
          | [] => exact (c q).elim
          | [A] => exact ⟨A, rfl⟩
          | A :: B :: r =>
            rw [q] at c2 l2
            simp only [List.length_cons] at c2 l2
            omega
        rw [eA] at k ⊢
        rw [p0]
        exact k _ e1
      · rw [if_neg c3] at k
        exact k _ e1
theorem ok_time_at (T : Txt w K mg) : FnOk P w K mg base CX0 3 T.f_time_at.f T.f_time_at.fd ["library", "zone", "instant"] (sp_time_at K) := by
  refine T.f_time_at.F.ok sc_time_at (fun vs H Q E h => ?_) (fun cdv A outer s H vs Q E hr h => ?_)
  · obtain ⟨wv, zv, w, z, t, rfl, _⟩ := h
    rfl
  obtain ⟨wv, zv, w, z, t, rfl, ⟨wa, rfl, hw⟩, hv, hz, k⟩ := h
  unfold at_ at k
  refine ⟨(tSeq (tAsg (tOp (rI0 fun i j => .int (i + j)) (tVar 2) (tCall (sp_offset_in_force K) [] E0 (tCons (tVar 1) (tCons (tVar 2) tNil)))) (gName 3)) (tSeq (tAsg (tCall (sp_instants_with K) [] E0 (tCons (tVar 1) (tCons (tVar 3) tNil))) (gName 4)) (tSeq (tIfS (tAnd (tTest (tOp rEq (tCB (Evl.rLenS K) (tCons (tVar 4) tNil)) (tC (.int 2)))) (tTest (tOp rEq (tOp (rIxT K) (tVar 0) (tC (.int 3))) (tC (.str "refuse"))))) (tRet (tC (.str "refused"))) tNext) (tSeq (tIfS (tAnd (tTest (tOp rEq (tCB (Evl.rLenS K) (tCons (tVar 4) tNil)) (tC (.int 2)))) (tTest (tOp rEq (tOp (rIxT K) (tVar 0) (tC (.int 3))) (tC (.str "both"))))) (tRet (tTup (tCons (tVar 3) (tCons (tBMT (rTupIx K) (tVar 4) (tCons (tVar 2) tNil)) tNil)))) tNext) (tRet (tTup (tCons (tVar 3) (tCons (tC (.int 0)) tNil)))))))),
    PSs.nox (pss_cons (ps_set (i := 3) sc_time_at.nd rfl (Or.inl rfl) (pe_op op_add (pv 2) (pe_call (ok_offset_in_force T) (hr.mono (by decide)) (by rfl) T.f_offset_in_force.g T.f_offset_in_force.F.kp T.f_offset_in_force.b .nil pass0 (pa_cons (pv 1) (pa_cons (pv 2) pa_nil))))) (pss_cons (ps_set (i := 4) sc_time_at.nd rfl (Or.inl rfl) (pe_call (ok_instants_with T) (hr.mono (by decide)) (by rfl) T.f_instants_with.g T.f_instants_with.F.kp T.f_instants_with.b .nil pass0 (pa_cons (pv 1) (pa_cons (pv 3) pa_nil)))) (pss_cons (ps_if (PW.pt (pw_and (pt_cmpR op_eq (pe_callB call_len_seq (by rfl) T.z_len (by decide +kernel) (pa_cons (pv 4) pa_nil)) pe_int (nomark _)) (pw_and1 (pt_cmpR op_eq (pe_ix ix_tup (pv 0) pe_int (fun _ _ => rfl)) pe_str (nomark _))))) (pss_one (ps_ret (pe_glob (by rfl) T.c_REFUSED ⟨_, rfl⟩))) pss_nil) (pss_cons (ps_if (PW.pt (pw_and (pt_cmpR op_eq (pe_callB call_len_seq (by rfl) T.z_len (by decide +kernel) (pa_cons (pv 4) pa_nil)) pe_int (nomark _)) (pw_and1 (pt_cmpR op_eq (pe_ix ix_tup (pv 0) pe_int (fun _ _ => rfl)) pe_str (nomark _))))) (pss_one (ps_ret (pe_tup (pa_cons (pv 3) (pa_cons (pe_bmT PySem.F.plainAttrs_tuple PySem.F.slot_tuple_index PySem.F.type_tuple_index mt_tupIx (pv 4) (pa_cons (pv 2) pa_nil)) pa_nil))))) pss_nil) (pss_one (ps_ret (pe_tup (pa_cons (pv 3) (pa_cons pe_int pa_nil))))))))), ?_⟩
  walk_at "gg"
  refine ⟨_, z, _, rfl, hv, fun H1 e1 => ?_⟩
  walk_at "gg"
  refine ⟨_, z, _, rfl, hv.tr (TrT.of e1), hz.len, fun p2 H2 ns n2 e2 h2 r2 m2 => ?_⟩
  have en := insts2 hz r2 m2
  subst en
  have e12 := e1.trans e2
  walk_at "gg"
  refine g_lenT h2.sq ?_
  rw [List.length_map]
  walk_at "gg"
  have plain : ∀ j : Int, j = (if w.fold = .both ∧ t ≠ (insts z (t + off z t)).head?.getD 0 then 1 else 0) → ¬ ((insts z (t + off z t)).length = 2 ∧ w.fold = .refuse) →
      ∀ p H3, Ex H2 H3 → H3 p = some (.tup [.int (t + off z t), .int j]) → Q (.ref p) H3 := by
    intro j ej c p H3 e3 h3
    rw [if_neg c] at k
    subst ej
    exact k _ _ (e12.trans e3) ⟨p, rfl, SqT.of h3⟩
  have hs := insts_self hz t
  refine if_d (fun c => ?_) (fun c => ?_)
  · have c' : (insts z (t + off z t)).length = 2 := by omega
    obtain ⟨A, B, eAB⟩ : ∃ A B, insts z (t + off z t) = [A, B] := by
      match q : insts z (t + off z t), c' with
      | [A, B], _ => exact ⟨A, B, rfl⟩
    have rs := insts_rise z (t + off z t)
    rw [eAB] at rs hs plain h2
    have lt : A < B := by
      rw [List.pairwise_cons] at rs
      exact rs.1 B (by simp)
    walk_at "gg"
    rw [fold_refuse]
    refine if_d (fun c2 => ?_) (fun c2 => ?_)
    · walk_at "gg"
      rw [if_pos ⟨c', c2⟩] at k
      exact k _ _ e12 rfl
    · walk_at "gg"
      refine g_lenT h2.sq ?_
      walk_at "gg"
      rw [fold_both]
      refine if_d (fun c3 => ?_) (fun c3 => ?_)
      · walk_at "gg"
        refine g_bmT rfl h2 ?_
        walk_at "gg"
        have ix : ∃ j : Nat, [A, B][j]? = some t ∧ (∀ m, m < j → [A, B][m]? ≠ some t) ∧ (j : Int) = (if w.fold = .both ∧ t ≠ A then 1 else 0) := by
          simp only [List.mem_cons, List.not_mem_nil, or_false] at hs
          rcases hs with rfl | rfl
          · refine ⟨0, rfl, fun m hm => absurd hm (by omega), ?_⟩
            rw [if_neg fun h => h.2 rfl]
            rfl
          · refine ⟨1, rfl, fun m hm => ?_, ?_⟩
            · have : m = 0 := by omega
              subst this
              show some A ≠ some t
              intro q
              have := Option.some.inj q
              omega
            · rw [if_pos ⟨c3, by omega⟩]
              rfl
        obtain ⟨j, j1, j2, j3⟩ := ix
        refine ⟨_, _, _, j, rfl, rfl, h2.sq, j1, j2, ?_⟩
        walk_at "gg"
        refine g_newT (by simp) fun p3 H3 n3 e3 h3 => ?_
        exact plain _ j3 (fun h => c2 h.2) p3 H3 e3 h3
      · walk_at "gg"
        refine g_newT (by simp) fun p3 H3 n3 e3 h3 => ?_
        exact plain _ (by rw [if_neg fun h => c3 h.1]) (fun h => c2 h.2) p3 H3 e3 h3
  · walk_at "gg"
    refine g_lenT h2.sq ?_
    rw [List.length_map]
    walk_at "gg"
    refine if_f (decide_eq_false c) ?_
    walk_at "gg"
    refine g_newT (by simp) fun p3 H3 n3 e3 h3 => ?_
    have l2 := hz.le2 (t + off z t)
    obtain ⟨A, eA⟩ : ∃ A, insts z (t + off z t) = [A] := by
      match q : insts z (t + off z t) with
      | [] => rw [q] at hs; cases hs
      | [A] => exact ⟨A, rfl⟩
      | A :: B :: r =>
        rw [q] at c l2
        simp only [List.length_cons] at c l2
        omega
    refine plain _ ?_ (fun h => by rw [eA] at h; cases h.1) p3 H3 e3 h3
    rw [eA] at hs ⊢
    rw [if_neg]
    rintro ⟨_, q⟩
    exact q (List.mem_singleton.mp hs)
theorem ok_time_read (T : Txt w K mg) : FnOk P w K mg base CX0 4 T.f_time_read.f T.f_time_read.fd ["library", "zone", "reading"] (sp_time_read K) := by
  refine T.f_time_read.F.ok sc_time_read (fun vs H Q E h => ?_) (fun cdv A outer s H vs Q E hr h => ?_)
  · obtain ⟨wv, zv, y, z, t, rfl, _⟩ := h
    rfl
  obtain ⟨wv, zv, y, z, t, rfl, ⟨a, rfl, hw⟩, hv, hz, k⟩ := h
  unfold read_ at k
  refine ⟨(tSeq (tAsg (tSl (rSlT K) (tVar 0) (tPart (tC (.int 2))) tNoPart) (gTup K 2 (gCons (gName 3) (gCons (gName 4) gNil)))) (tSeq (tAsg (tCB (Evl.rLenS K) (tCons (tCall (sp_instants_with K) [] E0 (tCons (tVar 1) (tCons (tVar 2) tNil))) tNil)) (gName 5)) (tSeq (tIfS (tAnd (tTest (tOp rEq (tVar 5) (tC (.int 0)))) (tTest (tOp rEq (tVar 3) (tC (.str "shift"))))) (tRet (tCall (sp_time_at K) [] E0 (tCons (tVar 0) (tCons (tVar 1) (tCons (tOp (rI0 fun i j => .int (i - j)) (tVar 2) (tCall (sp_offset_before_gap K) [] E0 (tCons (tVar 1) (tCons (tVar 2) tNil)))) tNil))))) tNext) (tSeq (tIfS (tAnd (tTest (tOp rEq (tVar 5) (tC (.int 0)))) (tTest (tOp rEq (tVar 3) (tC (.str "refuse"))))) (tRet (tC (.str "refused"))) tNext) (tSeq (tIfS (tAnd (tTest (tOp rEq (tVar 5) (tC (.int 2)))) (tTest (tOp rEq (tVar 4) (tC (.str "refuse"))))) (tRet (tC (.str "refused"))) tNext) (tRet (tTup (tCons (tVar 2) (tCons (tC (.int 0)) tNil))))))))),
    PSs.nox (pss_cons (ps_asg (pe_slice sl_tup (pv 0) (po_some pe_int) po_none) (pg_tup rfl (pgs_cons (pg_name (i := 3) sc_time_read.nd rfl (Or.inl rfl)) (pgs_cons (pg_name (i := 4) sc_time_read.nd rfl (Or.inl rfl)) pgs_nil)))) (pss_cons (ps_set (i := 5) sc_time_read.nd rfl (Or.inl rfl) (pe_callB call_len_seq (by rfl) T.z_len (by decide +kernel) (pa_cons (pe_call (ok_instants_with T) (hr.mono (by decide)) (by rfl) T.f_instants_with.g T.f_instants_with.F.kp T.f_instants_with.b .nil pass0 (pa_cons (pv 1) (pa_cons (pv 2) pa_nil))) pa_nil))) (pss_cons (ps_if (PW.pt (pw_and (pt_cmpR op_eq (pv 5) pe_int (nomark _)) (pw_and1 (pt_cmpR op_eq (pv 3) pe_str (nomark _))))) (pss_one (ps_ret (pe_call (ok_time_at T) (hr.mono (by decide)) (by rfl) T.f_time_at.g T.f_time_at.F.kp T.f_time_at.b .nil pass0 (pa_cons (pv 0) (pa_cons (pv 1) (pa_cons (pe_op op_sub (pv 2) (pe_call (ok_offset_before_gap T) (hr.mono (by decide)) (by rfl) T.f_offset_before_gap.g T.f_offset_before_gap.F.kp T.f_offset_before_gap.b .nil pass0 (pa_cons (pv 1) (pa_cons (pv 2) pa_nil)))) pa_nil)))))) pss_nil) (pss_cons (ps_if (PW.pt (pw_and (pt_cmpR op_eq (pv 5) pe_int (nomark _)) (pw_and1 (pt_cmpR op_eq (pv 3) pe_str (nomark _))))) (pss_one (ps_ret (pe_glob (by rfl) T.c_REFUSED ⟨_, rfl⟩))) pss_nil) (pss_cons (ps_if (PW.pt (pw_and (pt_cmpR op_eq (pv 5) pe_int (nomark _)) (pw_and1 (pt_cmpR op_eq (pv 4) pe_str (nomark _))))) (pss_one (ps_ret (pe_glob (by rfl) T.c_REFUSED ⟨_, rfl⟩))) pss_nil) (pss_one (ps_ret (pe_tup (pa_cons (pv 2) (pa_cons pe_int pa_nil)))))))))), ?_⟩
  walk_at "gg"
  refine g_slice ?_
  walk_at "gg"
  refine g_slT (k := 2) (ys := [.str (gapS y.gap), .str (foldS y.fold)]) hw (by decide) (by simp) rfl fun p1 H1 n1 e1 h1 => ?_
  walk_at "gg"
  refine ⟨_, z, _, rfl, hv.tr (TrT.of e1), hz.len, fun p2 H2 ns n2 e2 h2 r2 m2 => ?_⟩
  have en := insts2 hz r2 m2
  subst en
  have e12 := e1.trans e2
  walk_at "gg"
  refine g_lenT h2.sq ?_
  rw [List.length_map]
  walk_at "gg"
  have hw2 : WayV K H2 (.ref a) y := ⟨a, rfl, Evl.ex_t e12 hw⟩
  have plain : (∀ v H', Ex H H' → TV K H' v (some (t, 0)) → Q v H') → ∀ p H3, Ex H2 H3 → H3 p = some (.tup [.int t, .int 0]) → Q (.ref p) H3 :=
    fun q p H3 e3 h3 => q _ _ (e12.trans e3) ⟨p, rfl, SqT.of h3⟩
  refine if_d (fun c => ?_) (fun c => ?_)
  · have c' : insts z t = [] := List.length_eq_zero_iff.mp (by omega)
    rw [if_pos c'] at k
    walk_at "gg"
    rw [gap_shift]
    refine if_d (fun c2 => ?_) (fun c2 => ?_)
    · walk_at "gg"
      rw [c2] at k
      refine ⟨_, z, _, rfl, hv.tr (TrT.of e12), hz, c', fun H3 e3 => ?_⟩
      walk_at "gg"
      exact ⟨_, _, y, z, _, rfl, hw2.tr (TrT.of e3), hv.tr (TrT.of (e12.trans e3)), hz, fun v H4 e4 => k v H4 ((e12.trans e3).trans e4)⟩
    · walk_at "gg"
      refine if_t (decide_eq_true c) ?_
      walk_at "gg"
      rw [gap_refuse]
      refine if_d (fun c3 => ?_) (fun c3 => ?_)
      · walk_at "gg"
        rw [c3] at k
        exact k _ _ e12 rfl
      · walk_at "gg"
        refine if_f (decide_eq_false (by omega)) ?_
        walk_at "gg"
        refine g_newT (by simp) fun p3 H3 n3 e3 h3 => ?_
        have : y.gap = .keep := by
          cases q : y.gap
          · rfl
          · exact (c3 q).elim
          · exact (c2 q).elim
        rw [this] at k
        exact plain k p3 H3 e3 h3
  · have c' : insts z t ≠ [] := fun q => c (by rw [q]; rfl)
    rw [if_neg c'] at k
    walk_at "gg"
    refine if_f (decide_eq_false c) ?_
    walk_at "gg"
    refine if_d (fun c2 => ?_) (fun c2 => ?_)
    · walk_at "gg"
      rw [fold_refuse]
      refine if_d (fun c3 => ?_) (fun c3 => ?_)
      · walk_at "gg"
        rw [if_pos ⟨c3, by omega⟩] at k
        exact k _ _ e12 rfl
      · walk_at "gg"
        refine g_newT (by simp) fun p3 H3 n3 e3 h3 => ?_
        rw [if_neg fun h => c3 h.1] at k
        exact plain k p3 H3 e3 h3
    · walk_at "gg"
      refine g_newT (by simp) fun p3 H3 n3 e3 h3 => ?_
      rw [if_neg fun h => c2 (by omega)] at k
      exact plain k p3 H3 e3 h3
theorem ok_is_time (T : Txt w K mg) : FnOk P w K mg base CX0 6 T.f_is_time.f T.f_is_time.fd ["library", "zone", "value"] (sp_is_time K) := by
  refine T.f_is_time.F.ok sc_is_time (fun vs H Q E h => ?_) (fun cdv A outer s H vs Q E hr h => ?_)
  · obtain ⟨wv, zv, tv, w, z, t, rfl, _⟩ := h
    rfl
  obtain ⟨wv, zv, tv, w, z, t, rfl, hwv, hv, ho, ⟨ta, rfl, ht⟩, b1, b2, b3, k⟩ := h
  have hz := OkZ.of ho
  refine ⟨(tSeq (tDrop (tCall (sp_check_library K) [] E0 (tCons (tVar 0) tNil))) (tSeq (tDrop (tCall (sp_check_zone K) [] E0 (tCons (tVar 1) tNil))) (tSeq (tIfS (tNot (tB (tCall (sp_is_tuple_of K) [] E0 (tCons (tC (.int 2)) (tCons (tVar 2) tNil))))) (tRet (tC (.bl false))) tNext) (tSeq (tAsg (tVar 2) (gTup K 2 (gCons (gName 3) (gCons (gName 4) gNil)))) (tSeq (tIfS (tOr (tNot (tB (tCall (sp_is_reading K) [] E0 (tCons (tVar 3) tNil)))) (tNot (tB (tCall (sp_is_between K) [] E0 (tCons (tVar 4) (tCons (tC (.int 0)) (tCons (tC (.int 1)) tNil))))))) (tRet (tC (.bl false))) tNext) (tRet (tOp (rIn K false) (tVar 4) (tCall (sp_passes_at K) [] E0 (tCons (tVar 0) (tCons (tVar 1) (tCons (tVar 3) tNil))))))))))),
    PSs.nox (pss_cons (ps_expr (pe_call (ok_check_library T) (hr.mono (by decide)) (by rfl) T.f_check_library.g T.f_check_library.F.kp T.f_check_library.b .nil pass0 (pa_cons (pv 0) pa_nil))) (pss_cons (ps_expr (pe_call (ok_check_zone T) (hr.mono (by decide)) (by rfl) T.f_check_zone.g T.f_check_zone.F.kp T.f_check_zone.b .nil pass0 (pa_cons (pv 1) pa_nil))) (pss_cons (ps_if (pt_not (pt_val (pe_call (ok_is_tuple_of T) (hr.mono (by decide)) (by rfl) T.f_is_tuple_of.g T.f_is_tuple_of.F.kp T.f_is_tuple_of.b .nil pass0 (pa_cons pe_int (pa_cons (pv 2) pa_nil))))) (pss_one (ps_ret pe_bl)) pss_nil) (pss_cons (ps_asg (pv 2) (pg_tup rfl (pgs_cons (pg_name (i := 3) sc_is_time.nd rfl (Or.inl rfl)) (pgs_cons (pg_name (i := 4) sc_is_time.nd rfl (Or.inl rfl)) pgs_nil)))) (pss_cons (ps_if (PW.pt (pw_or (pt_not (pt_val (pe_call (ok_is_reading T) (hr.mono (by decide)) (by rfl) T.f_is_reading.g T.f_is_reading.F.kp T.f_is_reading.b .nil pass0 (pa_cons (pv 3) pa_nil)))) (pw_or1 (pt_not (pt_val (pe_call (ok_is_between T) (hr.mono (by decide)) (by rfl) T.f_is_between.g T.f_is_between.F.kp T.f_is_between.b .nil pass0 (pa_cons (pv 4) (pa_cons pe_int (pa_cons pe_int pa_nil))))))))) (pss_one (ps_ret pe_bl)) pss_nil) (pss_one (ps_ret (pe_cmpR op_in_seq (pv 4) (pe_call (ok_passes_at T) (hr.mono (by decide)) (by rfl) T.f_passes_at.g T.f_passes_at.F.kp T.f_passes_at.b .nil pass0 (pa_cons (pv 0) (pa_cons (pv 1) (pa_cons (pv 3) pa_nil)))) (by rfl))))))))), ?_⟩
  walk_at "gg"
  refine ⟨_, w, rfl, hwv, ?_⟩
  walk_at "gg"
  refine ⟨_, z, rfl, hv, ho, ?_⟩
  walk_at "gg"
  refine ⟨_, _, _, rfl, ht, ?_⟩
  walk_at "gg"
  refine ⟨_, rfl, ?_⟩
  rw [decide_eq_true (⟨b1, b2⟩ : -90000 ≤ t.1 ∧ t.1 ≤ 90000)]
  walk_at "gg"
  refine ⟨_, _, _, rfl, ?_⟩
  rw [decide_eq_true (⟨by omega, by omega⟩ : 0 ≤ t.2 ∧ t.2 ≤ 1)]
  walk_at "gg"
  refine ⟨_, _, w, z, _, rfl, hwv, hv, hz, hz.le2 _, fun p H1 e1 h1 => ?_⟩
  refine g_inTu h1 rfl ?_ ?_
  · rw [List.all_map]
    exact List.all_eq_true.mpr fun _ _ => rfl
  · rw [tm_in b3]
    exact k _ e1
theorem ok_place_of (T : Txt w K mg) : FnOk P w K mg base CX0 4 T.f_place_of.f T.f_place_of.fd ["way", "library", "zone", "time"] (sp_place_of K) := by
  refine T.f_place_of.F.ok sc_place_of (fun vs H Q E h => ?_) (fun cdv A outer s H vs Q E hr h => ?_)
  · obtain ⟨wv, zv, tv, b, w, z, t, rfl, _⟩ := h
    rfl
  obtain ⟨wv, zv, tv, b, w, z, t, rfl, hwv, hv, hz, ht, hi, k⟩ := h
  obtain ⟨ta, rfl, ht'⟩ := id ht
  refine ⟨(tSeq (tIfS (tTest (tOp rEq (tVar 0) (tC (.str "wall")))) (tRet (tOp (rIxT K) (tVar 3) (tC (.int 0)))) tNext) (tRet (tCall (sp_instant_of_time K) [] E0 (tCons (tVar 1) (tCons (tVar 2) (tCons (tVar 3) tNil)))))),
    PSs.nox (pss_cons (ps_if (pt_cmpR op_eq (pv 0) pe_str (nomark _)) (pss_one (ps_ret (pe_ix ix_tup (pv 3) pe_int (fun _ _ => rfl)))) pss_nil) (pss_one (ps_ret (pe_call (ok_instant_of_time T) (hr.mono (by decide)) (by rfl) T.f_instant_of_time.g T.f_instant_of_time.F.kp T.f_instant_of_time.b .nil pass0 (pa_cons (pv 1) (pa_cons (pv 2) (pa_cons (pv 3) pa_nil))))))), ?_⟩
  walk_at "gg"
  rw [sum_wall]
  cases b with
  | true =>
    walk_at "gg"
    exact k _ (Evl.Ex.refl _)
  | false =>
    walk_at "gg"
    exact ⟨_, _, _, w, z, t, rfl, hwv, hv, hz, ht, hi, k⟩
theorem ok_time_after (T : Txt w K mg) : FnOk P w K mg base CX0 5 T.f_time_after.f T.f_time_after.fd ["library", "zone", "time", "duration"] (sp_time_after K) := by
  refine T.f_time_after.F.ok sc_time_after (fun vs H Q E h => ?_) (fun cdv A outer s H vs Q E hr h => ?_)
  · obtain ⟨wv, zv, tv, w, z, t, d, rfl, _⟩ := h
    rfl
  obtain ⟨wv, zv, tv, w, z, t, d, rfl, hwv, hv, hz, ht, hi, k⟩ := h
  obtain ⟨wa, rfl, hw⟩ := id hwv
  unfold addT at k
  simp only at k
  refine ⟨(tSeq (tAsg (tOp (rIxT K) (tVar 0) (tC (.int 0))) (gName 4)) (tSeq (tAsg (tOp (rI0 fun i j => .int (i + j)) (tCall (sp_place_of K) [] E0 (tCons (tVar 4) (tCons (tVar 0) (tCons (tVar 1) (tCons (tVar 2) tNil))))) (tVar 3)) (gName 5)) (tSeq (tIfS (tTest (tOp rEq (tVar 4) (tC (.str "wall")))) (tRet (tCall (sp_time_read K) [] E0 (tCons (tVar 0) (tCons (tVar 1) (tCons (tVar 5) tNil))))) tNext) (tRet (tCall (sp_time_at K) [] E0 (tCons (tVar 0) (tCons (tVar 1) (tCons (tVar 5) tNil)))))))),
    PSs.nox (pss_cons (ps_set (i := 4) sc_time_after.nd rfl (Or.inl rfl) (pe_ix ix_tup (pv 0) pe_int (fun _ _ => rfl))) (pss_cons (ps_set (i := 5) sc_time_after.nd rfl (Or.inl rfl) (pe_op op_add (pe_call (ok_place_of T) (hr.mono (by decide)) (by rfl) T.f_place_of.g T.f_place_of.F.kp T.f_place_of.b .nil pass0 (pa_cons (pv 4) (pa_cons (pv 0) (pa_cons (pv 1) (pa_cons (pv 2) pa_nil))))) (pv 3))) (pss_cons (ps_if (pt_cmpR op_eq (pv 4) pe_str (nomark _)) (pss_one (ps_ret (pe_call (ok_time_read T) (hr.mono (by decide)) (by rfl) T.f_time_read.g T.f_time_read.F.kp T.f_time_read.b .nil pass0 (pa_cons (pv 0) (pa_cons (pv 1) (pa_cons (pv 5) pa_nil)))))) pss_nil) (pss_one (ps_ret (pe_call (ok_time_at T) (hr.mono (by decide)) (by rfl) T.f_time_at.g T.f_time_at.F.kp T.f_time_at.b .nil pass0 (pa_cons (pv 0) (pa_cons (pv 1) (pa_cons (pv 5) pa_nil))))))))), ?_⟩
  walk_at "gg"
  refine ⟨_, _, _, w.ws, w, z, t, rfl, hwv, hv, hz, ht, hi, fun H1 e1 => ?_⟩
  walk_at "gg"
  rw [sum_wall]
  cases hs : w.ws with
  | true =>
    rw [hs, if_pos rfl] at k
    walk_at "gg"
    exact ⟨_, _, w, z, _, rfl, hwv.tr (TrT.of e1), hv.tr (TrT.of e1), hz, fun v H2 e2 => k v H2 (e1.trans e2)⟩
  | false =>
    rw [hs, if_neg (by decide)] at k
    walk_at "gg"
    exact ⟨_, _, w, z, _, rfl, hwv.tr (TrT.of e1), hv.tr (TrT.of e1), hz, fun v H2 e2 => k v H2 (e1.trans e2)⟩
theorem ok_hours_between (T : Txt w K mg) : FnOk P w K mg base CX0 5 T.f_hours_between.f T.f_hours_between.fd ["library", "zone", "one", "other"] (sp_hours_between K) := by
  refine T.f_hours_between.F.ok sc_hours_between (fun vs H Q E h => ?_) (fun cdv A outer s H vs Q E hr h => ?_)
  · obtain ⟨wv, zv, av, bv, w, z, a, b, rfl, _⟩ := h
    rfl
  obtain ⟨wv, zv, av, bv, w, z, a, b, rfl, hwv, hv, hz, ha, hb, ia, ib, k⟩ := h
  obtain ⟨wa, rfl, hw⟩ := id hwv
  refine ⟨(tSeq (tAsg (tOp (rIxT K) (tVar 0) (tC (.int 0))) (gName 4)) (tRet (tOp (rI0 fun i j => .int (i - j)) (tCall (sp_place_of K) [] E0 (tCons (tVar 4) (tCons (tVar 0) (tCons (tVar 1) (tCons (tVar 2) tNil))))) (tCall (sp_place_of K) [] E0 (tCons (tVar 4) (tCons (tVar 0) (tCons (tVar 1) (tCons (tVar 3) tNil)))))))),
    PSs.nox (pss_cons (ps_set (i := 4) sc_hours_between.nd rfl (Or.inl rfl) (pe_ix ix_tup (pv 0) pe_int (fun _ _ => rfl))) (pss_one (ps_ret (pe_op op_sub (pe_call (ok_place_of T) (hr.mono (by decide)) (by rfl) T.f_place_of.g T.f_place_of.F.kp T.f_place_of.b .nil pass0 (pa_cons (pv 4) (pa_cons (pv 0) (pa_cons (pv 1) (pa_cons (pv 2) pa_nil))))) (pe_call (ok_place_of T) (hr.mono (by decide)) (by rfl) T.f_place_of.g T.f_place_of.F.kp T.f_place_of.b .nil pass0 (pa_cons (pv 4) (pa_cons (pv 0) (pa_cons (pv 1) (pa_cons (pv 3) pa_nil))))))))), ?_⟩
  walk_at "gg"
  refine ⟨_, _, _, w.ws, w, z, a, rfl, hwv, hv, hz, ha, ia, fun H1 e1 => ?_⟩
  walk_at "gg"
  refine ⟨_, _, _, w.ws, w, z, b, rfl, hwv.tr (TrT.of e1), hv.tr (TrT.of e1), hz, hb.tr (TrT.of e1), ib, fun H2 e2 => ?_⟩
  walk_at "gg"
  have q := k _ (e1.trans e2)
  unfold less_ at q
  cases hs : w.ws with
  | true => rw [hs] at q; exact q
  | false => rw [hs] at q; exact q
theorem ok_order_of (T : Txt w K mg) : FnOk P w K mg base CX0 5 T.f_order_of.f T.f_order_of.fd ["library", "zone", "one", "other"] (sp_order_of K) := by
  refine T.f_order_of.F.ok sc_order_of (fun vs H Q E h => ?_) (fun cdv A outer s H vs Q E hr h => ?_)
  · obtain ⟨wv, zv, av, bv, w, z, a, b, rfl, _⟩ := h
    rfl
  obtain ⟨wv, zv, av, bv, w, z, a, b, rfl, hwv, hv, hz, ha, hb, ia, ib, k⟩ := h
  obtain ⟨wa, rfl, hw⟩ := id hwv
  refine ⟨(tSeq (tAsg (tOp (rIxT K) (tVar 0) (tC (.int 1))) (gName 4)) (tSeq (tAsg (tCall (sp_place_of K) [] E0 (tCons (tVar 4) (tCons (tVar 0) (tCons (tVar 1) (tCons (tVar 2) tNil))))) (gName 5)) (tSeq (tAsg (tCall (sp_place_of K) [] E0 (tCons (tVar 4) (tCons (tVar 0) (tCons (tVar 1) (tCons (tVar 3) tNil))))) (gName 6)) (tSeq (tIfS (tTest (tOp rEq (tVar 5) (tVar 6))) (tRet (tC (.int 0))) tNext) (tRet (tIf (tTest (tOp (rI0 fun i j => .bl (decide (i < j))) (tVar 5) (tVar 6))) (tUn (rU fun i => .int (-i)) (tC (.int 1))) (tC (.int 1)))))))),
    PSs.nox (pss_cons (ps_set (i := 4) sc_order_of.nd rfl (Or.inl rfl) (pe_ix ix_tup (pv 0) pe_int (fun _ _ => rfl))) (pss_cons (ps_set (i := 5) sc_order_of.nd rfl (Or.inl rfl) (pe_call (ok_place_of T) (hr.mono (by decide)) (by rfl) T.f_place_of.g T.f_place_of.F.kp T.f_place_of.b .nil pass0 (pa_cons (pv 4) (pa_cons (pv 0) (pa_cons (pv 1) (pa_cons (pv 2) pa_nil)))))) (pss_cons (ps_set (i := 6) sc_order_of.nd rfl (Or.inl rfl) (pe_call (ok_place_of T) (hr.mono (by decide)) (by rfl) T.f_place_of.g T.f_place_of.F.kp T.f_place_of.b .nil pass0 (pa_cons (pv 4) (pa_cons (pv 0) (pa_cons (pv 1) (pa_cons (pv 3) pa_nil)))))) (pss_cons (ps_if (pt_cmpR op_eq (pv 5) (pv 6) (nomark _)) (pss_one (ps_ret pe_int)) pss_nil) (pss_one (ps_ret (pe_ifExp (pt_cmpR op_lt (pv 5) (pv 6) (nomark _)) (pe_un un_neg pe_int) pe_int))))))), ?_⟩
  walk_at "gg"
  refine ⟨_, _, _, w.wo, w, z, a, rfl, hwv, hv, hz, ha, ia, fun H1 e1 => ?_⟩
  walk_at "gg"
  refine ⟨_, _, _, w.wo, w, z, b, rfl, hwv.tr (TrT.of e1), hv.tr (TrT.of e1), hz, hb.tr (TrT.of e1), ib, fun H2 e2 => ?_⟩
  walk_at "gg"
  have q := k _ (e1.trans e2)
  have e3 : cmp (key w z a) (key w z b) = cmp (if w.wo = true then a.1 else inst w z a) (if w.wo = true then b.1 else inst w z b) := rfl
  rw [e3] at q
  generalize (if w.wo = true then a.1 else inst w z a) = x at q ⊢
  generalize (if w.wo = true then b.1 else inst w z b) = y at q ⊢
  unfold cmp at q
  refine if_d (fun c => ?_) (fun c => ?_)
  · walk_at "gg"
    rw [if_neg (by omega), if_pos c] at q
    exact q
  · walk_at "gg"
    refine if_d (fun c2 => ?_) (fun c2 => ?_)
    · walk_at "gg"
      rw [if_pos c2] at q
      exact q
    · walk_at "gg"
      rw [if_neg c2, if_neg c] at q
      exact q
end
local macro_rules | `(tactic| walk_at "m") => `(tactic| first
  | with_reducible refine g_m1 ?_
  | with_reducible refine g_isS ?_
  | with_reducible refine g_lcStr ?_
  | with_reducible refine g_join ?_
  | with_reducible refine g_js ?_
  | with_reducible refine g_jsN ?_
  | with_reducible refine g_fmt ?_
  | with_reducible refine g_callLam ?_
  | with_reducible refine g_revT ?_)

/-! ### promises -/
def sp_is_duration (K : PySem.W.Frag) : Sp := fun vs H Q _ => ∃ v : Int, vs = [.int v] ∧ Q (.bl (decide (-9000 ≤ v ∧ v ≤ 9000))) H
def sp_check_duration (K : PySem.W.Frag) : Sp := fun vs H Q _ => ∃ v : Int, vs = [.int v] ∧ -9000 ≤ v ∧ v ≤ 9000 ∧ Q .non H
/-- a time as an argument -/
structure ArgT (K : PySem.W.Frag) (H : Hp) (w : Way) (z : Zone) (v : V) (t : Tm) : Prop where
  pv_ : PV K H v t
  lo : -90000 ≤ t.1
  hi : t.1 ≤ 90000
  ok : IsTm w z t
theorem ArgT.tr {K : PySem.W.Frag} {H H' : Hp} {w : Way} {z : Zone} {v : V} {t : Tm} (e : TrT K H H') (h : ArgT K H w z v t) : ArgT K H' w z v t := ⟨h.pv_.tr e, h.lo, h.hi, h.ok⟩
theorem IsTm.turn {w : Way} {z : Zone} {t : Tm} (q : IsTm w z t) : t.2 = 0 ∨ t.2 = 1 := by
  rcases q.pass with p | p
  · exact .inl p
  · exact .inr p.1
def sp_check_time (K : PySem.W.Frag) : Sp := fun vs H Q _ => ∃ (wv zv tv : V) (w : Way) (z : Zone) (t : Tm), vs = [wv, zv, tv] ∧ WayV K H wv w ∧ ZV K H zv z ∧ okZ z = true ∧ ArgT K H w z tv t ∧ ∀ H', Ex H H' → Q .non H'
def sp_to_instant (K : PySem.W.Frag) : Sp := fun vs H Q _ => ∃ (wv zv tv : V) (w : Way) (z : Zone) (t : Tm), vs = [wv, zv, tv] ∧ WayV K H wv w ∧ ZV K H zv z ∧ okZ z = true ∧ ArgT K H w z tv t ∧ ∀ H', Ex H H' → Q (.int (inst w z t)) H'
def sp_from_instant (K : PySem.W.Frag) : Sp := fun vs H Q _ => ∃ (wv zv : V) (w : Way) (z : Zone) (t : Int), vs = [wv, zv, .int t] ∧ WayV K H wv w ∧ ZV K H zv z ∧ okZ z = true ∧ -100000 ≤ t ∧ t ≤ 100000 ∧ ∀ v H', Ex H H' → TV K H' v (at_ w z t) → Q v H'
def sp_read (K : PySem.W.Frag) : Sp := fun vs H Q _ => ∃ (wv zv : V) (w : Way) (z : Zone) (t : Int), vs = [wv, zv, .int t] ∧ WayV K H wv w ∧ ZV K H zv z ∧ okZ z = true ∧ -90000 ≤ t ∧ t ≤ 90000 ∧ ∀ v H', Ex H H' → TV K H' v (read_ w z t) → Q v H'
def sp_add (K : PySem.W.Frag) : Sp := fun vs H Q _ => ∃ (wv zv tv : V) (w : Way) (z : Zone) (t : Tm) (d : Int), vs = [wv, zv, tv, .int d] ∧ WayV K H wv w ∧ ZV K H zv z ∧ okZ z = true ∧ ArgT K H w z tv t ∧ -9000 ≤ d ∧ d ≤ 9000 ∧ ∀ v H', Ex H H' → TV K H' v (addT w z (some t) d) → Q v H'
def sp_subtract (K : PySem.W.Frag) : Sp := fun vs H Q _ => ∃ (wv zv av bv : V) (w : Way) (z : Zone) (a b : Tm), vs = [wv, zv, av, bv] ∧ WayV K H wv w ∧ ZV K H zv z ∧ okZ z = true ∧ ArgT K H w z av a ∧ ArgT K H w z bv b ∧ ∀ H', Ex H H' → Q (.int (less_ w z a b)) H'
def sp_compare (K : PySem.W.Frag) : Sp := fun vs H Q _ => ∃ (wv zv av bv : V) (w : Way) (z : Zone) (a b : Tm), vs = [wv, zv, av, bv] ∧ WayV K H wv w ∧ ZV K H zv z ∧ okZ z = true ∧ ArgT K H w z av a ∧ ArgT K H w z bv b ∧ ∀ H', Ex H H' → Q (.int (cmp (key w z a) (key w z b))) H'
section
variable {P : Program} {w : World} {K : PySem.W.Frag} {mg : Str → Option Value} {base : Heap}
theorem ok_is_duration (T : Txt w K mg) : FnOk P w K mg base CX0 2 T.f_is_duration.f T.f_is_duration.fd ["value"] (sp_is_duration K) := by
  refine T.f_is_duration.F.ok sc_is_duration (fun vs H Q E h => ?_) (fun cdv A outer s H vs Q E hr h => ?_)
  · obtain ⟨v, rfl, _⟩ := h
    rfl
  obtain ⟨v, rfl, k⟩ := h
  refine ⟨(tRet (tCall (sp_is_between K) [] E0 (tCons (tVar 0) (tCons (tUn (rU fun i => .int (-i)) (tC (.int 9000))) (tCons (tC (.int 9000)) tNil))))),
    PSs.nox (pss_one (ps_ret (pe_call (ok_is_between T) (hr.mono (by decide)) (by rfl) T.f_is_between.g T.f_is_between.F.kp T.f_is_between.b .nil pass0 (pa_cons (pv 0) (pa_cons (pe_un un_neg (pe_glob (by rfl) T.c_MOST_DURATION ⟨_, rfl⟩)) (pa_cons (pe_glob (by rfl) T.c_MOST_DURATION ⟨_, rfl⟩) pa_nil)))))), ?_⟩
  walk_at "gg"
  exact ⟨_, _, _, rfl, k⟩
theorem ok_check_duration (T : Txt w K mg) : FnOk P w K mg base CX0 3 T.f_check_duration.f T.f_check_duration.fd ["value"] (sp_check_duration K) := by
  refine T.f_check_duration.F.ok sc_check_duration (fun vs H Q E h => ?_) (fun cdv A outer s H vs Q E hr h => ?_)
  · obtain ⟨v, rfl, _⟩ := h
    rfl
  obtain ⟨v, rfl, b1, b2, k⟩ := h
  refine ⟨(tIfS (tNot (tB (tCall (sp_is_duration K) [] E0 (tCons (tVar 0) tNil)))) tNever tNext),
    PSs.nox (pss_one (ps_if (pt_not (pt_val (pe_call (ok_is_duration T) (hr.mono (by decide)) (by rfl) T.f_is_duration.g T.f_is_duration.F.kp T.f_is_duration.b .nil pass0 (pa_cons (pv 0) pa_nil)))) (pss_one ps_never) pss_nil)), ?_⟩
  walk_at "gg"
  refine ⟨_, rfl, ?_⟩
  rw [decide_eq_true (⟨b1, b2⟩ : -9000 ≤ v ∧ v ≤ 9000)]
  walk_at "gg"
  exact k
theorem ok_check_time (T : Txt w K mg) : FnOk P w K mg base CX0 7 T.f_check_time.f T.f_check_time.fd ["library", "zone", "value"] (sp_check_time K) := by
  refine T.f_check_time.F.ok sc_check_time (fun vs H Q E h => ?_) (fun cdv A outer s H vs Q E hr h => ?_)
  · obtain ⟨wv, zv, tv, y, z, t, rfl, _⟩ := h
    rfl
  obtain ⟨wv, zv, tv, y, z, t, rfl, hw, hv, ho, ht, k⟩ := h
  refine ⟨(tIfS (tNot (tB (tCall (sp_is_time K) [] E0 (tCons (tVar 0) (tCons (tVar 1) (tCons (tVar 2) tNil)))))) tNever tNext),
    PSs.nox (pss_one (ps_if (pt_not (pt_val (pe_call (ok_is_time T) (hr.mono (by decide)) (by rfl) T.f_is_time.g T.f_is_time.F.kp T.f_is_time.b .nil pass0 (pa_cons (pv 0) (pa_cons (pv 1) (pa_cons (pv 2) pa_nil)))))) (pss_one ps_never) pss_nil)), ?_⟩
  walk_at "gg"
  refine ⟨_, _, _, y, z, t, rfl, hw, hv, ho, ht.pv_, ht.lo, ht.hi, ht.ok.turn, fun H1 e1 => ?_⟩
  rw [decide_eq_true ht.ok]
  walk_at "gg"
  exact k _ e1
theorem ok_to_instant (T : Txt w K mg) : FnOk P w K mg base CX0 8 T.f_to_instant.f T.f_to_instant.fd ["library", "zone", "time"] (sp_to_instant K) := by
  refine T.f_to_instant.F.ok sc_to_instant (fun vs H Q E h => ?_) (fun cdv A outer s H vs Q E hr h => ?_)
  · obtain ⟨wv, zv, tv, y, z, t, rfl, _⟩ := h
    rfl
  obtain ⟨wv, zv, tv, y, z, t, rfl, hw, hv, ho, ht, k⟩ := h
  refine ⟨(tSeq (tDrop (tCall (sp_check_time K) [] E0 (tCons (tVar 0) (tCons (tVar 1) (tCons (tVar 2) tNil))))) (tRet (tCall (sp_instant_of_time K) [] E0 (tCons (tVar 0) (tCons (tVar 1) (tCons (tVar 2) tNil)))))),
    PSs.nox (pss_cons (ps_expr (pe_call (ok_check_time T) (hr.mono (by decide)) (by rfl) T.f_check_time.g T.f_check_time.F.kp T.f_check_time.b .nil pass0 (pa_cons (pv 0) (pa_cons (pv 1) (pa_cons (pv 2) pa_nil))))) (pss_one (ps_ret (pe_call (ok_instant_of_time T) (hr.mono (by decide)) (by rfl) T.f_instant_of_time.g T.f_instant_of_time.F.kp T.f_instant_of_time.b .nil pass0 (pa_cons (pv 0) (pa_cons (pv 1) (pa_cons (pv 2) pa_nil))))))), ?_⟩
  walk_at "gg"
  refine ⟨_, _, _, y, z, t, rfl, hw, hv, ho, ht, fun H1 e1 => ?_⟩
  walk_at "gg"
  have t1 := TrT.of (K := K) e1
  exact ⟨_, _, _, y, z, t, rfl, hw.tr t1, hv.tr t1, OkZ.of ho, ht.pv_.tr t1, ht.ok, fun H2 e2 => k _ (e1.trans e2)⟩
theorem ok_from_instant (T : Txt w K mg) : FnOk P w K mg base CX0 6 T.f_from_instant.f T.f_from_instant.fd ["library", "zone", "instant"] (sp_from_instant K) := by
  refine T.f_from_instant.F.ok sc_from_instant (fun vs H Q E h => ?_) (fun cdv A outer s H vs Q E hr h => ?_)
  · obtain ⟨wv, zv, y, z, t, rfl, _⟩ := h
    rfl
  obtain ⟨wv, zv, y, z, t, rfl, hw, hv, ho, b1, b2, k⟩ := h
  refine ⟨(tSeq (tDrop (tCall (sp_check_library K) [] E0 (tCons (tVar 0) tNil))) (tSeq (tDrop (tCall (sp_check_zone K) [] E0 (tCons (tVar 1) tNil))) (tSeq (tDrop (tCall (sp_check_instant K) [] E0 (tCons (tVar 2) tNil))) (tRet (tCall (sp_time_at K) [] E0 (tCons (tVar 0) (tCons (tVar 1) (tCons (tVar 2) tNil)))))))),
    PSs.nox (pss_cons (ps_expr (pe_call (ok_check_library T) (hr.mono (by decide)) (by rfl) T.f_check_library.g T.f_check_library.F.kp T.f_check_library.b .nil pass0 (pa_cons (pv 0) pa_nil))) (pss_cons (ps_expr (pe_call (ok_check_zone T) (hr.mono (by decide)) (by rfl) T.f_check_zone.g T.f_check_zone.F.kp T.f_check_zone.b .nil pass0 (pa_cons (pv 1) pa_nil))) (pss_cons (ps_expr (pe_call (ok_check_instant T) (hr.mono (by decide)) (by rfl) T.f_check_instant.g T.f_check_instant.F.kp T.f_check_instant.b .nil pass0 (pa_cons (pv 2) pa_nil))) (pss_one (ps_ret (pe_call (ok_time_at T) (hr.mono (by decide)) (by rfl) T.f_time_at.g T.f_time_at.F.kp T.f_time_at.b .nil pass0 (pa_cons (pv 0) (pa_cons (pv 1) (pa_cons (pv 2) pa_nil))))))))), ?_⟩
  walk_at "gg"
  refine ⟨_, y, rfl, hw, ?_⟩
  walk_at "gg"
  refine ⟨_, z, rfl, hv, ho, ?_⟩
  walk_at "gg"
  refine ⟨_, rfl, b1, b2, ?_⟩
  walk_at "gg"
  exact ⟨_, _, y, z, _, rfl, hw, hv, OkZ.of ho, k⟩
theorem ok_read (T : Txt w K mg) : FnOk P w K mg base CX0 6 T.f_read.f T.f_read.fd ["library", "zone", "reading"] (sp_read K) := by
  refine T.f_read.F.ok sc_read (fun vs H Q E h => ?_) (fun cdv A outer s H vs Q E hr h => ?_)
  · obtain ⟨wv, zv, y, z, t, rfl, _⟩ := h
    rfl
  obtain ⟨wv, zv, y, z, t, rfl, hw, hv, ho, b1, b2, k⟩ := h
  refine ⟨(tSeq (tDrop (tCall (sp_check_library K) [] E0 (tCons (tVar 0) tNil))) (tSeq (tDrop (tCall (sp_check_zone K) [] E0 (tCons (tVar 1) tNil))) (tSeq (tDrop (tCall (sp_check_reading K) [] E0 (tCons (tVar 2) tNil))) (tRet (tCall (sp_time_read K) [] E0 (tCons (tVar 0) (tCons (tVar 1) (tCons (tVar 2) tNil)))))))),
    PSs.nox (pss_cons (ps_expr (pe_call (ok_check_library T) (hr.mono (by decide)) (by rfl) T.f_check_library.g T.f_check_library.F.kp T.f_check_library.b .nil pass0 (pa_cons (pv 0) pa_nil))) (pss_cons (ps_expr (pe_call (ok_check_zone T) (hr.mono (by decide)) (by rfl) T.f_check_zone.g T.f_check_zone.F.kp T.f_check_zone.b .nil pass0 (pa_cons (pv 1) pa_nil))) (pss_cons (ps_expr (pe_call (ok_check_reading T) (hr.mono (by decide)) (by rfl) T.f_check_reading.g T.f_check_reading.F.kp T.f_check_reading.b .nil pass0 (pa_cons (pv 2) pa_nil))) (pss_one (ps_ret (pe_call (ok_time_read T) (hr.mono (by decide)) (by rfl) T.f_time_read.g T.f_time_read.F.kp T.f_time_read.b .nil pass0 (pa_cons (pv 0) (pa_cons (pv 1) (pa_cons (pv 2) pa_nil))))))))), ?_⟩
  walk_at "gg"
  refine ⟨_, y, rfl, hw, ?_⟩
  walk_at "gg"
  refine ⟨_, z, rfl, hv, ho, ?_⟩
  walk_at "gg"
  refine ⟨_, rfl, b1, b2, ?_⟩
  walk_at "gg"
  exact ⟨_, _, y, z, _, rfl, hw, hv, OkZ.of ho, k⟩
theorem ok_add (T : Txt w K mg) : FnOk P w K mg base CX0 8 T.f_add.f T.f_add.fd ["library", "zone", "time", "duration"] (sp_add K) := by
  refine T.f_add.F.ok sc_add (fun vs H Q E h => ?_) (fun cdv A outer s H vs Q E hr h => ?_)
  · obtain ⟨wv, zv, tv, y, z, t, d, rfl, _⟩ := h
    rfl
  obtain ⟨wv, zv, tv, y, z, t, d, rfl, hw, hv, ho, ht, b1, b2, k⟩ := h
  refine ⟨(tSeq (tDrop (tCall (sp_check_time K) [] E0 (tCons (tVar 0) (tCons (tVar 1) (tCons (tVar 2) tNil))))) (tSeq (tDrop (tCall (sp_check_duration K) [] E0 (tCons (tVar 3) tNil))) (tRet (tCall (sp_time_after K) [] E0 (tCons (tVar 0) (tCons (tVar 1) (tCons (tVar 2) (tCons (tVar 3) tNil)))))))),
    PSs.nox (pss_cons (ps_expr (pe_call (ok_check_time T) (hr.mono (by decide)) (by rfl) T.f_check_time.g T.f_check_time.F.kp T.f_check_time.b .nil pass0 (pa_cons (pv 0) (pa_cons (pv 1) (pa_cons (pv 2) pa_nil))))) (pss_cons (ps_expr (pe_call (ok_check_duration T) (hr.mono (by decide)) (by rfl) T.f_check_duration.g T.f_check_duration.F.kp T.f_check_duration.b .nil pass0 (pa_cons (pv 3) pa_nil))) (pss_one (ps_ret (pe_call (ok_time_after T) (hr.mono (by decide)) (by rfl) T.f_time_after.g T.f_time_after.F.kp T.f_time_after.b .nil pass0 (pa_cons (pv 0) (pa_cons (pv 1) (pa_cons (pv 2) (pa_cons (pv 3) pa_nil))))))))), ?_⟩
  walk_at "gg"
  refine ⟨_, _, _, y, z, t, rfl, hw, hv, ho, ht, fun H1 e1 => ?_⟩
  walk_at "gg"
  have t1 := TrT.of (K := K) e1
  refine ⟨_, rfl, b1, b2, ?_⟩
  walk_at "gg"
  exact ⟨_, _, _, y, z, t, d, rfl, hw.tr t1, hv.tr t1, OkZ.of ho, ht.pv_.tr t1, ht.ok, fun v H2 e2 => k v H2 (e1.trans e2)⟩
theorem ok_subtract (T : Txt w K mg) : FnOk P w K mg base CX0 8 T.f_subtract.f T.f_subtract.fd ["library", "zone", "one", "other"] (sp_subtract K) := by
  refine T.f_subtract.F.ok sc_subtract (fun vs H Q E h => ?_) (fun cdv A outer s H vs Q E hr h => ?_)
  · obtain ⟨wv, zv, av, bv, y, z, a, b, rfl, _⟩ := h
    rfl
  obtain ⟨wv, zv, av, bv, y, z, a, b, rfl, hw, hv, ho, ha, hb, k⟩ := h
  refine ⟨(tSeq (tDrop (tCall (sp_check_time K) [] E0 (tCons (tVar 0) (tCons (tVar 1) (tCons (tVar 2) tNil))))) (tSeq (tDrop (tCall (sp_check_time K) [] E0 (tCons (tVar 0) (tCons (tVar 1) (tCons (tVar 3) tNil))))) (tRet (tCall (sp_hours_between K) [] E0 (tCons (tVar 0) (tCons (tVar 1) (tCons (tVar 2) (tCons (tVar 3) tNil)))))))),
    PSs.nox (pss_cons (ps_expr (pe_call (ok_check_time T) (hr.mono (by decide)) (by rfl) T.f_check_time.g T.f_check_time.F.kp T.f_check_time.b .nil pass0 (pa_cons (pv 0) (pa_cons (pv 1) (pa_cons (pv 2) pa_nil))))) (pss_cons (ps_expr (pe_call (ok_check_time T) (hr.mono (by decide)) (by rfl) T.f_check_time.g T.f_check_time.F.kp T.f_check_time.b .nil pass0 (pa_cons (pv 0) (pa_cons (pv 1) (pa_cons (pv 3) pa_nil))))) (pss_one (ps_ret (pe_call (ok_hours_between T) (hr.mono (by decide)) (by rfl) T.f_hours_between.g T.f_hours_between.F.kp T.f_hours_between.b .nil pass0 (pa_cons (pv 0) (pa_cons (pv 1) (pa_cons (pv 2) (pa_cons (pv 3) pa_nil))))))))), ?_⟩
  walk_at "gg"
  refine ⟨_, _, _, y, z, a, rfl, hw, hv, ho, ha, fun H1 e1 => ?_⟩
  walk_at "gg"
  have t1 := TrT.of (K := K) e1
  refine ⟨_, _, _, y, z, b, rfl, hw.tr t1, hv.tr t1, ho, hb.tr t1, fun H2 e2 => ?_⟩
  walk_at "gg"
  have t2 := TrT.of (K := K) (e1.trans e2)
  exact ⟨_, _, _, _, y, z, a, b, rfl, hw.tr t2, hv.tr t2, OkZ.of ho, ha.pv_.tr t2, hb.pv_.tr t2, ha.ok, hb.ok, fun H3 e3 => k _ ((e1.trans e2).trans e3)⟩
theorem ok_compare (T : Txt w K mg) : FnOk P w K mg base CX0 8 T.f_compare.f T.f_compare.fd ["library", "zone", "one", "other"] (sp_compare K) := by
  refine T.f_compare.F.ok sc_compare (fun vs H Q E h => ?_) (fun cdv A outer s H vs Q E hr h => ?_)
  · obtain ⟨wv, zv, av, bv, y, z, a, b, rfl, _⟩ := h
    rfl
  obtain ⟨wv, zv, av, bv, y, z, a, b, rfl, hw, hv, ho, ha, hb, k⟩ := h
  refine ⟨(tSeq (tDrop (tCall (sp_check_time K) [] E0 (tCons (tVar 0) (tCons (tVar 1) (tCons (tVar 2) tNil))))) (tSeq (tDrop (tCall (sp_check_time K) [] E0 (tCons (tVar 0) (tCons (tVar 1) (tCons (tVar 3) tNil))))) (tRet (tCall (sp_order_of K) [] E0 (tCons (tVar 0) (tCons (tVar 1) (tCons (tVar 2) (tCons (tVar 3) tNil)))))))),
    PSs.nox (pss_cons (ps_expr (pe_call (ok_check_time T) (hr.mono (by decide)) (by rfl) T.f_check_time.g T.f_check_time.F.kp T.f_check_time.b .nil pass0 (pa_cons (pv 0) (pa_cons (pv 1) (pa_cons (pv 2) pa_nil))))) (pss_cons (ps_expr (pe_call (ok_check_time T) (hr.mono (by decide)) (by rfl) T.f_check_time.g T.f_check_time.F.kp T.f_check_time.b .nil pass0 (pa_cons (pv 0) (pa_cons (pv 1) (pa_cons (pv 3) pa_nil))))) (pss_one (ps_ret (pe_call (ok_order_of T) (hr.mono (by decide)) (by rfl) T.f_order_of.g T.f_order_of.F.kp T.f_order_of.b .nil pass0 (pa_cons (pv 0) (pa_cons (pv 1) (pa_cons (pv 2) (pa_cons (pv 3) pa_nil))))))))), ?_⟩
  walk_at "gg"
  refine ⟨_, _, _, y, z, a, rfl, hw, hv, ho, ha, fun H1 e1 => ?_⟩
  walk_at "gg"
  have t1 := TrT.of (K := K) e1
  refine ⟨_, _, _, y, z, b, rfl, hw.tr t1, hv.tr t1, ho, hb.tr t1, fun H2 e2 => ?_⟩
  walk_at "gg"
  have t2 := TrT.of (K := K) (e1.trans e2)
  exact ⟨_, _, _, _, y, z, a, b, rfl, hw.tr t2, hv.tr t2, OkZ.of ho, ha.pv_.tr t2, hb.pv_.tr t2, ha.ok, hb.ok, fun H3 e3 => k _ ((e1.trans e2).trans e3)⟩
end
local macro_rules | `(tactic| walk_at "m") => `(tactic| first
  | with_reducible refine g_m1 ?_
  | with_reducible refine g_isS ?_
  | with_reducible refine g_lcStr ?_
  | with_reducible refine g_join ?_
  | with_reducible refine g_js ?_
  | with_reducible refine g_jsN ?_
  | with_reducible refine g_fmt ?_
  | with_reducible refine g_callLam ?_
  | with_reducible refine g_revT ?_)

section
variable {K : PySem.W.Frag} {H : Hp} {w : Way} {z : Zone} {xs : List V} {its : List It}
theorem inv_nu {s : Str} (c : s ≠ "time") (p : Paired (ItV K H) xs its) (o : Paired (ItOk w z) [s] its) : ∃ n, xs = [.int n] ∧ its = [.i n] := by
  rcases o with _ | ⟨a, _ | _⟩
  obtain ⟨n, rfl, _⟩ := a.nu c
  rcases p with _ | ⟨b, _ | _⟩
  cases (show _ = V.int n from b)
  exact ⟨n, rfl, rfl⟩
theorem inv_tm (p : Paired (ItV K H) xs its) (o : Paired (ItOk w z) (["time"] : List Str) its) : ∃ x t, xs = [x] ∧ its = [.t t] ∧ PV K H x t ∧ IsTm w z t := by
  rcases o with _ | ⟨a, _ | _⟩
  obtain ⟨t, rfl, q, _⟩ := a.tm
  rcases p with _ | ⟨b, _ | _⟩
  exact ⟨_, t, rfl, rfl, b, q⟩
theorem inv_td (p : Paired (ItV K H) xs its) (o : Paired (ItOk w z) (["time", "duration"] : List Str) its) : ∃ x t d, xs = [x, .int d] ∧ its = [.t t, .i d] ∧ PV K H x t ∧ IsTm w z t := by
  rcases o with _ | ⟨a, _ | ⟨a2, _ | _⟩⟩
  obtain ⟨t, rfl, q, _⟩ := a.tm
  obtain ⟨d, rfl, _⟩ := a2.du
  rcases p with _ | ⟨b, _ | ⟨b2, _ | _⟩⟩
  cases (show _ = V.int d from b2)
  exact ⟨_, t, d, rfl, rfl, b, q⟩
theorem inv_tdd (p : Paired (ItV K H) xs its) (o : Paired (ItOk w z) (["time", "duration", "duration"] : List Str) its) : ∃ x t d e, xs = [x, .int d, .int e] ∧ its = [.t t, .i d, .i e] ∧ PV K H x t ∧ IsTm w z t := by
  rcases o with _ | ⟨a, _ | ⟨a2, _ | ⟨a3, _ | _⟩⟩⟩
  obtain ⟨t, rfl, q, _⟩ := a.tm
  obtain ⟨d, rfl, _⟩ := a2.du
  obtain ⟨e, rfl, _⟩ := a3.du
  rcases p with _ | ⟨b, _ | ⟨b2, _ | ⟨b3, _ | _⟩⟩⟩
  cases (show _ = V.int d from b2)
  cases (show _ = V.int e from b3)
  exact ⟨_, t, d, e, rfl, rfl, b, q⟩
theorem inv_tu (p : Paired (ItV K H) xs its) (o : Paired (ItOk w z) (["time", "time"] : List Str) its) : ∃ x t y u, xs = [x, y] ∧ its = [.t t, .t u] ∧ PV K H x t ∧ IsTm w z t ∧ PV K H y u ∧ IsTm w z u := by
  rcases o with _ | ⟨a, _ | ⟨a2, _ | _⟩⟩
  obtain ⟨t, rfl, q, _⟩ := a.tm
  obtain ⟨u, rfl, q2, _⟩ := a2.tm
  rcases p with _ | ⟨b, _ | ⟨b2, _ | _⟩⟩
  exact ⟨_, t, _, u, rfl, rfl, b, q, b2, q2⟩
theorem inv_tud (p : Paired (ItV K H) xs its) (o : Paired (ItOk w z) (["time", "time", "duration"] : List Str) its) : ∃ x t y u d, xs = [x, y, .int d] ∧ its = [.t t, .t u, .i d] ∧ PV K H x t ∧ IsTm w z t ∧ PV K H y u ∧ IsTm w z u := by
  rcases o with _ | ⟨a, _ | ⟨a2, _ | ⟨a3, _ | _⟩⟩⟩
  obtain ⟨t, rfl, q, _⟩ := a.tm
  obtain ⟨u, rfl, q2, _⟩ := a2.tm
  obtain ⟨d, rfl, _⟩ := a3.du
  rcases p with _ | ⟨b, _ | ⟨b2, _ | ⟨b3, _ | _⟩⟩⟩
  cases (show _ = V.int d from b3)
  exact ⟨_, t, _, u, d, rfl, rfl, b, q, b2, q2⟩
end
/-- what a statement's def promises: its rule's truth for the arguments -/
def sp_st (r : Rule) (K : PySem.W.Frag) : Sp := fun vs H Q _ => ∃ (wv zv : V) (w : Way) (z : Zone) (xs : List V) (its : List It), vs = wv :: zv :: xs ∧ WayV K H wv w ∧ ZV K H zv z ∧ OkZ z ∧ Paired (ItV K H) xs its ∧ Paired (ItOk w z) (shapeR r) its ∧
  ∀ H', Ex H H' → Q (.bl (fitsI w z r its)) H'
theorem st_len {r : Rule} {K : PySem.W.Frag} {vs : List V} {H : Hp} {Q : VK} {E : XK} (h : sp_st r K vs H Q E) : vs.length = (shapeR r).length + 2 := by
  obtain ⟨wv, zv, w, z, xs, its, rfl, _, _, _, p, o, _⟩ := h
  have e1 := pd_len p
  have e2 := pd_len o
  rw [List.length_cons, List.length_cons, e1, ← e2]
def sp_have_one_instant (K : PySem.W.Frag) : Sp := fun vs H Q _ => ∃ (wv zv av bv : V) (w : Way) (z : Zone) (a b : Tm), vs = [wv, zv, av, bv] ∧ WayV K H wv w ∧ ZV K H zv z ∧ OkZ z ∧ PV K H av a ∧ PV K H bv b ∧ IsTm w z a ∧ IsTm w z b ∧
  ∀ H', Ex H H' → Q (.bl (decide (inst w z a = inst w z b))) H'
def sp_are_sums_in_order (K : PySem.W.Frag) : Sp := fun vs H Q _ => ∃ (n : Int) (wv zv av bv : V) (w : Way) (z : Zone) (a b : Tm) (d : Int), vs = [.int n, wv, zv, av, bv, .int d] ∧ WayV K H wv w ∧ ZV K H zv z ∧ OkZ z ∧ PV K H av a ∧ PV K H bv b ∧ IsTm w z a ∧ IsTm w z b ∧
  ∀ H', Ex H H' → Q (.bl (decide (order w z (addT w z (some a) d) (addT w z (some b) d) = some n))) H'
theorem TV.ref {K : PySem.W.Frag} {H : Hp} {v : V} {t : Tm} (h : TV K H v (some t)) : PV K H v t := h
theorem tvN {K : PySem.W.Frag} {H : Hp} : TV K H (.str "refused") none := rfl
theorem some_int {a b : Int} : decide (some a = some b) = decide (a = b) := decide_eq_decide.mpr ⟨fun e => Option.some.inj e, fun e => by rw [e]⟩
section
variable {P : Program} {w : World} {K : PySem.W.Frag} {mg : Str → Option Value} {base : Heap}
theorem ok_from_universal_and_back (T : Txt w K mg) : FnOk P w K mg base CX0 4 T.f_from_universal_and_back.f T.f_from_universal_and_back.fd ["library", "zone", "instant"] (sp_st .fromU K) := by
  refine T.f_from_universal_and_back.F.ok sc_from_universal_and_back (fun vs H Q E h => st_len h) (fun cdv A outer s H vs Q E hr h => ?_)
  obtain ⟨wv, zv, y, z, xs, its, rfl, hw, hv, hz, p, o, k⟩ := h
  obtain ⟨n, rfl, rfl⟩ := inv_nu (by decide +kernel) p o
  have k : ∀ H', Ex H H' → Q (.bl (fFrom y z n)) H' := k
  unfold fFrom at k
  refine ⟨(tSeq (tAsg (tCall (sp_time_at K) [] E0 (tCons (tVar 0) (tCons (tVar 1) (tCons (tVar 2) tNil)))) (gName 3)) (tRet (tAndV (tOp (rNeD K) (tVar 3) (tC (.str "refused"))) (tOp rEq (tCall (sp_instant_of_time K) [] E0 (tCons (tVar 0) (tCons (tVar 1) (tCons (tVar 3) tNil)))) (tVar 2))))),
    PSs.nox (pss_cons (ps_set (i := 3) sc_from_universal_and_back.nd rfl (Or.inl rfl) (pe_call (ok_time_at T) (hr.mono (by decide)) (by rfl) T.f_time_at.g T.f_time_at.F.kp T.f_time_at.b .nil pass0 (pa_cons (pv 0) (pa_cons (pv 1) (pa_cons (pv 2) pa_nil))))) (pss_one (ps_ret (pe_and (pe_cmpR (op_neD hr.units) (pv 3) (pe_glob (by rfl) T.c_REFUSED ⟨_, rfl⟩) (nomark _)) (pe_one (pe_cmpR op_eq (pe_call (ok_instant_of_time T) (hr.mono (by decide)) (by rfl) T.f_instant_of_time.g T.f_instant_of_time.F.kp T.f_instant_of_time.b .nil pass0 (pa_cons (pv 0) (pa_cons (pv 1) (pa_cons (pv 3) pa_nil)))) (pv 2) (nomark _))))))), ?_⟩
  walk_at "gg"
  refine ⟨_, _, y, z, _, rfl, hw, hv, hz, fun v H1 e1 hv1 => ?_⟩
  walk_at "gg"
  refine g_neT hv1 tvN ?_
  walk_at "gg"
  cases ho : at_ y z n with
  | none =>
    rw [ho] at k
    refine if_f (by decide +kernel) ?_
    exact k _ e1
  | some t =>
    rw [ho] at k hv1
    refine if_t rfl ?_
    walk_at "gg"
    refine ⟨_, _, _, y, z, t, rfl, hw.tr (TrT.of e1), hv.tr (TrT.of e1), hz, hv1.ref, (at_valid hz ho).1, fun H2 e2 => ?_⟩
    walk_at "gg"
    exact k _ (e1.trans e2)
theorem ok_to_universal_and_back (T : Txt w K mg) : FnOk P w K mg base CX0 4 T.f_to_universal_and_back.f T.f_to_universal_and_back.fd ["library", "zone", "time"] (sp_st .toU K) := by
  refine T.f_to_universal_and_back.F.ok sc_to_universal_and_back (fun vs H Q E h => st_len h) (fun cdv A outer s H vs Q E hr h => ?_)
  obtain ⟨wv, zv, y, z, xs, its, rfl, hw, hv, hz, p, o, k⟩ := h
  obtain ⟨x, t, rfl, rfl, ht, it⟩ := inv_tm p o
  have k : ∀ H', Ex H H' → Q (.bl (fTo y z t)) H' := k
  unfold fTo at k
  refine ⟨(tRet (tOp (rEqD K) (tCall (sp_time_at K) [] E0 (tCons (tVar 0) (tCons (tVar 1) (tCons (tCall (sp_instant_of_time K) [] E0 (tCons (tVar 0) (tCons (tVar 1) (tCons (tVar 2) tNil)))) tNil)))) (tVar 2))),
    PSs.nox (pss_one (ps_ret (pe_cmpR (op_eqD hr.units) (pe_call (ok_time_at T) (hr.mono (by decide)) (by rfl) T.f_time_at.g T.f_time_at.F.kp T.f_time_at.b .nil pass0 (pa_cons (pv 0) (pa_cons (pv 1) (pa_cons (pe_call (ok_instant_of_time T) (hr.mono (by decide)) (by rfl) T.f_instant_of_time.g T.f_instant_of_time.F.kp T.f_instant_of_time.b .nil pass0 (pa_cons (pv 0) (pa_cons (pv 1) (pa_cons (pv 2) pa_nil)))) pa_nil)))) (pv 2) (nomark _)))), ?_⟩
  walk_at "gg"
  refine ⟨_, _, _, y, z, t, rfl, hw, hv, hz, ht, it, fun H1 e1 => ?_⟩
  walk_at "gg"
  refine ⟨_, _, y, z, _, rfl, hw.tr (TrT.of e1), hv.tr (TrT.of e1), hz, fun v H2 e2 hv2 => ?_⟩
  walk_at "gg"
  exact g_eqT hv2 (show TV K H2 x (some t) from ht.tr (TrT.of (e1.trans e2))) (k _ (e1.trans e2))
theorem ok_every_reading (T : Txt w K mg) : FnOk P w K mg base CX0 5 T.f_every_reading.f T.f_every_reading.fd ["library", "zone", "reading"] (sp_st .every K) := by
  refine T.f_every_reading.F.ok sc_every_reading (fun vs H Q E h => st_len h) (fun cdv A outer s H vs Q E hr h => ?_)
  obtain ⟨wv, zv, y, z, xs, its, rfl, hw, hv, hz, p, o, k⟩ := h
  obtain ⟨n, rfl, rfl⟩ := inv_nu (by decide +kernel) p o
  have k : ∀ H', Ex H H' → Q (.bl (fEvery y z n)) H' := k
  unfold fEvery at k
  refine ⟨(tSeq (tAsg (tCall (sp_time_read K) [] E0 (tCons (tVar 0) (tCons (tVar 1) (tCons (tVar 2) tNil)))) (gName 3)) (tRet (tAndV (tOp (rNeD K) (tVar 3) (tC (.str "refused"))) (tOp rEq (tOp (rIxT K) (tVar 3) (tC (.int 0))) (tVar 2))))),
    PSs.nox (pss_cons (ps_set (i := 3) sc_every_reading.nd rfl (Or.inl rfl) (pe_call (ok_time_read T) (hr.mono (by decide)) (by rfl) T.f_time_read.g T.f_time_read.F.kp T.f_time_read.b .nil pass0 (pa_cons (pv 0) (pa_cons (pv 1) (pa_cons (pv 2) pa_nil))))) (pss_one (ps_ret (pe_and (pe_cmpR (op_neD hr.units) (pv 3) (pe_glob (by rfl) T.c_REFUSED ⟨_, rfl⟩) (nomark _)) (pe_one (pe_cmpR op_eq (pe_ix ix_tup (pv 3) pe_int (fun _ _ => rfl)) (pv 2) (nomark _))))))), ?_⟩
  walk_at "gg"
  refine ⟨_, _, y, z, _, rfl, hw, hv, hz, fun v H1 e1 hv1 => ?_⟩
  walk_at "gg"
  refine g_neT hv1 tvN ?_
  walk_at "gg"
  cases ho : read_ y z n with
  | none =>
    rw [ho] at k
    refine if_f (by decide +kernel) ?_
    exact k _ e1
  | some t =>
    rw [ho] at k hv1
    obtain ⟨ta, rfl, hta⟩ := hv1.ref
    refine if_t rfl ?_
    walk_at "gg"
    exact k _ e1
theorem ok_some_reading (T : Txt w K mg) : FnOk P w K mg base CX0 5 T.f_some_reading.f T.f_some_reading.fd ["library", "zone", "reading"] (sp_st .someR K) := by
  refine T.f_some_reading.F.ok sc_some_reading (fun vs H Q E h => st_len h) (fun cdv A outer s H vs Q E hr h => ?_)
  obtain ⟨wv, zv, y, z, xs, its, rfl, hw, hv, hz, p, o, k⟩ := h
  obtain ⟨n, rfl, rfl⟩ := inv_nu (by decide +kernel) p o
  have k : ∀ H', Ex H H' → Q (.bl (fSome y z n)) H' := k
  unfold fSome at k
  refine ⟨(tRet (tOp (rNeD K) (tCall (sp_time_read K) [] E0 (tCons (tVar 0) (tCons (tVar 1) (tCons (tVar 2) tNil)))) (tC (.str "refused")))),
    PSs.nox (pss_one (ps_ret (pe_cmpR (op_neD hr.units) (pe_call (ok_time_read T) (hr.mono (by decide)) (by rfl) T.f_time_read.g T.f_time_read.F.kp T.f_time_read.b .nil pass0 (pa_cons (pv 0) (pa_cons (pv 1) (pa_cons (pv 2) pa_nil)))) (pe_glob (by rfl) T.c_REFUSED ⟨_, rfl⟩) (nomark _)))), ?_⟩
  walk_at "gg"
  refine ⟨_, _, y, z, _, rfl, hw, hv, hz, fun v H1 e1 hv1 => ?_⟩
  walk_at "gg"
  refine g_neT hv1 tvN ?_
  have k := k _ e1
  cases ho : read_ y z n with
  | none => rw [ho] at k; exact k
  | some t => rw [ho] at k; exact k
theorem ok_there_and_back (T : Txt w K mg) : FnOk P w K mg base CX0 6 T.f_there_and_back.f T.f_there_and_back.fd ["library", "zone", "time", "duration"] (sp_st .there K) := by
  refine T.f_there_and_back.F.ok sc_there_and_back (fun vs H Q E h => st_len h) (fun cdv A outer s H vs Q E hr h => ?_)
  obtain ⟨wv, zv, y, z, xs, its, rfl, hw, hv, hz, p, o, k⟩ := h
  obtain ⟨x, t, d, rfl, rfl, ht, it⟩ := inv_td p o
  have k : ∀ H', Ex H H' → Q (.bl (fMoved y z .there t d d)) H' := k
  unfold fMoved at k
  refine ⟨(tSeq (tAsg (tCall (sp_time_after K) [] E0 (tCons (tVar 0) (tCons (tVar 1) (tCons (tVar 2) (tCons (tVar 3) tNil))))) (gName 4)) (tRet (tAndV (tOp (rNeD K) (tVar 4) (tC (.str "refused"))) (tOp (rEqD K) (tCall (sp_time_after K) [] E0 (tCons (tVar 0) (tCons (tVar 1) (tCons (tVar 4) (tCons (tUn (rU fun i => .int (-i)) (tVar 3)) tNil))))) (tVar 2))))),
    PSs.nox (pss_cons (ps_set (i := 4) sc_there_and_back.nd rfl (Or.inl rfl) (pe_call (ok_time_after T) (hr.mono (by decide)) (by rfl) T.f_time_after.g T.f_time_after.F.kp T.f_time_after.b .nil pass0 (pa_cons (pv 0) (pa_cons (pv 1) (pa_cons (pv 2) (pa_cons (pv 3) pa_nil)))))) (pss_one (ps_ret (pe_and (pe_cmpR (op_neD hr.units) (pv 4) (pe_glob (by rfl) T.c_REFUSED ⟨_, rfl⟩) (nomark _)) (pe_one (pe_cmpR (op_eqD hr.units) (pe_call (ok_time_after T) (hr.mono (by decide)) (by rfl) T.f_time_after.g T.f_time_after.F.kp T.f_time_after.b .nil pass0 (pa_cons (pv 0) (pa_cons (pv 1) (pa_cons (pv 4) (pa_cons (pe_un un_neg (pv 3)) pa_nil))))) (pv 2) (nomark _))))))), ?_⟩
  walk_at "gg"
  refine ⟨_, _, _, y, z, t, d, rfl, hw, hv, hz, ht, it, fun v H1 e1 hv1 => ?_⟩
  walk_at "gg"
  refine g_neT hv1 tvN ?_
  walk_at "gg"
  cases ho : addT y z (some t) d with
  | none =>
    rw [ho] at k
    refine if_f (by decide +kernel) ?_
    exact k _ e1
  | some a =>
    rw [ho] at k hv1
    refine if_t rfl ?_
    walk_at "gg"
    refine ⟨_, _, _, y, z, a, _, rfl, hw.tr (TrT.of e1), hv.tr (TrT.of e1), hz, hv1.ref, add_valid hz ho, fun v2 H2 e2 hv2 => ?_⟩
    walk_at "gg"
    have k := k _ (e1.trans e2)
    simp only [Int.zero_sub] at k
    exact g_eqT hv2 (show TV K H2 x (some t) from ht.tr (TrT.of (e1.trans e2))) k
theorem ok_sum_of_durations (T : Txt w K mg) : FnOk P w K mg base CX0 6 T.f_sum_of_durations.f T.f_sum_of_durations.fd ["library", "zone", "time", "duration", "more"] (sp_st .sumD K) := by
  refine T.f_sum_of_durations.F.ok sc_sum_of_durations (fun vs H Q E h => st_len h) (fun cdv A outer s H vs Q E hr h => ?_)
  obtain ⟨wv, zv, y, z, xs, its, rfl, hw, hv, hz, p, o, k⟩ := h
  obtain ⟨x, t, d, e, rfl, rfl, ht, it⟩ := inv_tdd p o
  have k : ∀ H', Ex H H' → Q (.bl (fMoved y z .sumD t d e)) H' := k
  unfold fMoved at k
  refine ⟨(tSeq (tAsg (tCall (sp_time_after K) [] E0 (tCons (tVar 0) (tCons (tVar 1) (tCons (tVar 2) (tCons (tVar 3) tNil))))) (gName 5)) (tSeq (tIfS (tTest (tOp (rEqD K) (tVar 5) (tC (.str "refused")))) (tRet (tC (.bl false))) tNext) (tSeq (tAsg (tCall (sp_time_after K) [] E0 (tCons (tVar 0) (tCons (tVar 1) (tCons (tVar 5) (tCons (tVar 4) tNil))))) (gName 6)) (tRet (tAndV (tOp (rNeD K) (tVar 6) (tC (.str "refused"))) (tOp (rEqD K) (tVar 6) (tCall (sp_time_after K) [] E0 (tCons (tVar 0) (tCons (tVar 1) (tCons (tVar 2) (tCons (tOp (rI0 fun i j => .int (i + j)) (tVar 3) (tVar 4)) tNil))))))))))),
    PSs.nox (pss_cons (ps_set (i := 5) sc_sum_of_durations.nd rfl (Or.inl rfl) (pe_call (ok_time_after T) (hr.mono (by decide)) (by rfl) T.f_time_after.g T.f_time_after.F.kp T.f_time_after.b .nil pass0 (pa_cons (pv 0) (pa_cons (pv 1) (pa_cons (pv 2) (pa_cons (pv 3) pa_nil)))))) (pss_cons (ps_if (pt_cmpR (op_eqD hr.units) (pv 5) (pe_glob (by rfl) T.c_REFUSED ⟨_, rfl⟩) (nomark _)) (pss_one (ps_ret pe_bl)) pss_nil) (pss_cons (ps_set (i := 6) sc_sum_of_durations.nd rfl (Or.inl rfl) (pe_call (ok_time_after T) (hr.mono (by decide)) (by rfl) T.f_time_after.g T.f_time_after.F.kp T.f_time_after.b .nil pass0 (pa_cons (pv 0) (pa_cons (pv 1) (pa_cons (pv 5) (pa_cons (pv 4) pa_nil)))))) (pss_one (ps_ret (pe_and (pe_cmpR (op_neD hr.units) (pv 6) (pe_glob (by rfl) T.c_REFUSED ⟨_, rfl⟩) (nomark _)) (pe_one (pe_cmpR (op_eqD hr.units) (pv 6) (pe_call (ok_time_after T) (hr.mono (by decide)) (by rfl) T.f_time_after.g T.f_time_after.F.kp T.f_time_after.b .nil pass0 (pa_cons (pv 0) (pa_cons (pv 1) (pa_cons (pv 2) (pa_cons (pe_op op_add (pv 3) (pv 4)) pa_nil))))) (nomark _))))))))), ?_⟩
  walk_at "gg"
  refine ⟨_, _, _, y, z, t, d, rfl, hw, hv, hz, ht, it, fun v H1 e1 hv1 => ?_⟩
  walk_at "gg"
  refine g_eqT hv1 tvN ?_
  walk_at "gg"
  cases ho : addT y z (some t) d with
  | none =>
    rw [ho] at k
    refine if_t (by decide +kernel) ?_
    walk_at "gg"
    exact k _ e1
  | some a =>
    rw [ho] at k hv1
    refine if_f rfl ?_
    walk_at "gg"
    refine ⟨_, _, _, y, z, a, _, rfl, hw.tr (TrT.of e1), hv.tr (TrT.of e1), hz, hv1.ref, add_valid hz ho, fun v2 H2 e2 hv2 => ?_⟩
    walk_at "gg"
    refine g_neT hv2 tvN ?_
    walk_at "gg"
    cases ho2 : addT y z (some a) e with
    | none =>
      simp only [ho2] at k
      refine if_f (by decide +kernel) ?_
      exact k _ (e1.trans e2)
    | some b =>
      simp only [ho2] at k
      rw [ho2] at hv2
      refine if_t rfl ?_
      walk_at "gg"
      have e12 := e1.trans e2
      refine ⟨_, _, _, y, z, t, _, rfl, hw.tr (TrT.of e12), hv.tr (TrT.of e12), hz, ht.tr (TrT.of e12), it, fun v3 H3 e3 hv3 => ?_⟩
      walk_at "gg"
      exact g_eqT (hv2.tr (TrT.of e3)) hv3 (k _ (e12.trans e3))
theorem ok_elapsed_time (T : Txt w K mg) : FnOk P w K mg base CX0 6 T.f_elapsed_time.f T.f_elapsed_time.fd ["library", "zone", "time", "duration"] (sp_st .elapsed K) := by
  refine T.f_elapsed_time.F.ok sc_elapsed_time (fun vs H Q E h => st_len h) (fun cdv A outer s H vs Q E hr h => ?_)
  obtain ⟨wv, zv, y, z, xs, its, rfl, hw, hv, hz, p, o, k⟩ := h
  obtain ⟨x, t, d, rfl, rfl, ht, it⟩ := inv_td p o
  have k : ∀ H', Ex H H' → Q (.bl (fMoved y z .elapsed t d d)) H' := k
  unfold fMoved at k
  refine ⟨(tSeq (tAsg (tCall (sp_time_after K) [] E0 (tCons (tVar 0) (tCons (tVar 1) (tCons (tVar 2) (tCons (tVar 3) tNil))))) (gName 4)) (tSeq (tIfS (tTest (tOp (rEqD K) (tVar 4) (tC (.str "refused")))) (tRet (tC (.bl false))) tNext) (tRet (tOp rEq (tOp (rI0 fun i j => .int (i - j)) (tCall (sp_instant_of_time K) [] E0 (tCons (tVar 0) (tCons (tVar 1) (tCons (tVar 4) tNil)))) (tCall (sp_instant_of_time K) [] E0 (tCons (tVar 0) (tCons (tVar 1) (tCons (tVar 2) tNil))))) (tVar 3))))),
    PSs.nox (pss_cons (ps_set (i := 4) sc_elapsed_time.nd rfl (Or.inl rfl) (pe_call (ok_time_after T) (hr.mono (by decide)) (by rfl) T.f_time_after.g T.f_time_after.F.kp T.f_time_after.b .nil pass0 (pa_cons (pv 0) (pa_cons (pv 1) (pa_cons (pv 2) (pa_cons (pv 3) pa_nil)))))) (pss_cons (ps_if (pt_cmpR (op_eqD hr.units) (pv 4) (pe_glob (by rfl) T.c_REFUSED ⟨_, rfl⟩) (nomark _)) (pss_one (ps_ret pe_bl)) pss_nil) (pss_one (ps_ret (pe_cmpR op_eq (pe_op op_sub (pe_call (ok_instant_of_time T) (hr.mono (by decide)) (by rfl) T.f_instant_of_time.g T.f_instant_of_time.F.kp T.f_instant_of_time.b .nil pass0 (pa_cons (pv 0) (pa_cons (pv 1) (pa_cons (pv 4) pa_nil)))) (pe_call (ok_instant_of_time T) (hr.mono (by decide)) (by rfl) T.f_instant_of_time.g T.f_instant_of_time.F.kp T.f_instant_of_time.b .nil pass0 (pa_cons (pv 0) (pa_cons (pv 1) (pa_cons (pv 2) pa_nil))))) (pv 3) (nomark _)))))), ?_⟩
  walk_at "gg"
  refine ⟨_, _, _, y, z, t, d, rfl, hw, hv, hz, ht, it, fun v H1 e1 hv1 => ?_⟩
  walk_at "gg"
  refine g_eqT hv1 tvN ?_
  walk_at "gg"
  cases ho : addT y z (some t) d with
  | none =>
    rw [ho] at k
    refine if_t (by decide +kernel) ?_
    walk_at "gg"
    exact k _ e1
  | some a =>
    rw [ho] at k hv1
    refine if_f rfl ?_
    walk_at "gg"
    refine ⟨_, _, _, y, z, a, rfl, hw.tr (TrT.of e1), hv.tr (TrT.of e1), hz, hv1.ref, add_valid hz ho, fun H2 e2 => ?_⟩
    walk_at "gg"
    have e12 := e1.trans e2
    refine ⟨_, _, _, y, z, t, rfl, hw.tr (TrT.of e12), hv.tr (TrT.of e12), hz, ht.tr (TrT.of e12), it, fun H3 e3 => ?_⟩
    walk_at "gg"
    exact k _ (e12.trans e3)
theorem ok_same_clock (T : Txt w K mg) : FnOk P w K mg base CX0 6 T.f_same_clock.f T.f_same_clock.fd ["library", "zone", "time"] (sp_st .same K) := by
  refine T.f_same_clock.F.ok sc_same_clock (fun vs H Q E h => st_len h) (fun cdv A outer s H vs Q E hr h => ?_)
  obtain ⟨wv, zv, y, z, xs, its, rfl, hw, hv, hz, p, o, k⟩ := h
  obtain ⟨x, t, rfl, rfl, ht, it⟩ := inv_tm p o
  have k : ∀ H', Ex H H' → Q (.bl (fSame y z t)) H' := k
  unfold fSame at k
  obtain ⟨xa, rfl, hxa⟩ := id ht
  refine ⟨(tSeq (tAsg (tCall (sp_time_after K) [] E0 (tCons (tVar 0) (tCons (tVar 1) (tCons (tVar 2) (tCons (tC (.int 24)) tNil))))) (gName 3)) (tRet (tAndV (tOp (rNeD K) (tVar 3) (tC (.str "refused"))) (tOp rEq (tOp (rIxT K) (tVar 3) (tC (.int 0))) (tOp (rI0 fun i j => .int (i + j)) (tOp (rIxT K) (tVar 2) (tC (.int 0))) (tC (.int 24))))))),
    PSs.nox (pss_cons (ps_set (i := 3) sc_same_clock.nd rfl (Or.inl rfl) (pe_call (ok_time_after T) (hr.mono (by decide)) (by rfl) T.f_time_after.g T.f_time_after.F.kp T.f_time_after.b .nil pass0 (pa_cons (pv 0) (pa_cons (pv 1) (pa_cons (pv 2) (pa_cons (pe_glob (by rfl) T.c_HOURS_OF_A_DAY ⟨_, rfl⟩) pa_nil)))))) (pss_one (ps_ret (pe_and (pe_cmpR (op_neD hr.units) (pv 3) (pe_glob (by rfl) T.c_REFUSED ⟨_, rfl⟩) (nomark _)) (pe_one (pe_cmpR op_eq (pe_ix ix_tup (pv 3) pe_int (fun _ _ => rfl)) (pe_op op_add (pe_ix ix_tup (pv 2) pe_int (fun _ _ => rfl)) (pe_glob (by rfl) T.c_HOURS_OF_A_DAY ⟨_, rfl⟩)) (nomark _))))))), ?_⟩
  walk_at "gg"
  refine ⟨_, _, _, y, z, t, 24, rfl, hw, hv, hz, ht, it, fun v H1 e1 hv1 => ?_⟩
  walk_at "gg"
  refine g_neT hv1 tvN ?_
  walk_at "gg"
  cases ho : addT y z (some t) 24 with
  | none =>
    rw [ho] at k
    refine if_f (by decide +kernel) ?_
    exact k _ e1
  | some a =>
    rw [ho] at k hv1
    obtain ⟨ta, rfl, hta⟩ := hv1.ref
    refine if_t rfl ?_
    walk_at "gg"
    exact k _ e1
theorem ok_later (T : Txt w K mg) : FnOk P w K mg base CX0 6 T.f_later.f T.f_later.fd ["library", "zone", "time", "duration"] (sp_st .later K) := by
  refine T.f_later.F.ok sc_later (fun vs H Q E h => st_len h) (fun cdv A outer s H vs Q E hr h => ?_)
  obtain ⟨wv, zv, y, z, xs, its, rfl, hw, hv, hz, p, o, k⟩ := h
  obtain ⟨x, t, d, rfl, rfl, ht, it⟩ := inv_td p o
  have k : ∀ H', Ex H H' → Q (.bl (fMoved y z .later t d d)) H' := k
  unfold fMoved at k
  refine ⟨(tSeq (tIfS (tTest (tOp (rI0 fun i j => .bl (decide (i ≤ j))) (tVar 3) (tC (.int 0)))) (tRet (tC (.bl true))) tNext) (tSeq (tAsg (tCall (sp_time_after K) [] E0 (tCons (tVar 0) (tCons (tVar 1) (tCons (tVar 2) (tCons (tVar 3) tNil))))) (gName 4)) (tRet (tAndV (tOp (rNeD K) (tVar 4) (tC (.str "refused"))) (tOp rEq (tCall (sp_order_of K) [] E0 (tCons (tVar 0) (tCons (tVar 1) (tCons (tVar 2) (tCons (tVar 4) tNil))))) (tUn (rU fun i => .int (-i)) (tC (.int 1)))))))),
    PSs.nox (pss_cons (ps_if (pt_cmpR op_le (pv 3) pe_int (nomark _)) (pss_one (ps_ret pe_bl)) pss_nil) (pss_cons (ps_set (i := 4) sc_later.nd rfl (Or.inl rfl) (pe_call (ok_time_after T) (hr.mono (by decide)) (by rfl) T.f_time_after.g T.f_time_after.F.kp T.f_time_after.b .nil pass0 (pa_cons (pv 0) (pa_cons (pv 1) (pa_cons (pv 2) (pa_cons (pv 3) pa_nil)))))) (pss_one (ps_ret (pe_and (pe_cmpR (op_neD hr.units) (pv 4) (pe_glob (by rfl) T.c_REFUSED ⟨_, rfl⟩) (nomark _)) (pe_one (pe_cmpR op_eq (pe_call (ok_order_of T) (hr.mono (by decide)) (by rfl) T.f_order_of.g T.f_order_of.F.kp T.f_order_of.b .nil pass0 (pa_cons (pv 0) (pa_cons (pv 1) (pa_cons (pv 2) (pa_cons (pv 4) pa_nil))))) (pe_un un_neg pe_int) (nomark _)))))))), ?_⟩
  walk_at "gg"
  refine if_d (fun c => ?_) (fun c => ?_)
  · walk_at "gg"
    have k := k _ (Evl.Ex.refl _)
    cases ho : addT y z (some t) d with
    | none =>
      simp only [ho, decide_eq_true c] at k
      exact k
    | some a =>
      simp only [ho, decide_eq_true c] at k
      exact k
  walk_at "gg"
  refine ⟨_, _, _, y, z, t, d, rfl, hw, hv, hz, ht, it, fun v H1 e1 hv1 => ?_⟩
  walk_at "gg"
  refine g_neT hv1 tvN ?_
  walk_at "gg"
  cases ho : addT y z (some t) d with
  | none =>
    simp only [ho, decide_eq_false c] at k
    refine if_f (by decide +kernel) ?_
    exact k _ e1
  | some a =>
    simp only [ho, decide_eq_false c, Bool.false_or] at k
    rw [ho] at hv1
    refine if_t rfl ?_
    walk_at "gg"
    refine ⟨_, _, _, _, y, z, t, a, rfl, hw.tr (TrT.of e1), hv.tr (TrT.of e1), hz, ht.tr (TrT.of e1), hv1.ref, it, add_valid hz ho, fun H2 e2 => ?_⟩
    walk_at "gg"
    exact k _ (e1.trans e2)
theorem ok_sums_told (T : Txt w K mg) : FnOk P w K mg base CX0 6 T.f_sums_told.f T.f_sums_told.fd ["library", "zone", "time", "duration"] (sp_st .told K) := by
  refine T.f_sums_told.F.ok sc_sums_told (fun vs H Q E h => st_len h) (fun cdv A outer s H vs Q E hr h => ?_)
  obtain ⟨wv, zv, y, z, xs, its, rfl, hw, hv, hz, p, o, k⟩ := h
  obtain ⟨x, t, d, rfl, rfl, ht, it⟩ := inv_td p o
  have k : ∀ H', Ex H H' → Q (.bl (fMoved y z .told t d d)) H' := k
  unfold fMoved at k
  refine ⟨(tRet (tOp (rNeD K) (tCall (sp_time_after K) [] E0 (tCons (tVar 0) (tCons (tVar 1) (tCons (tVar 2) (tCons (tVar 3) tNil))))) (tC (.str "refused")))),
    PSs.nox (pss_one (ps_ret (pe_cmpR (op_neD hr.units) (pe_call (ok_time_after T) (hr.mono (by decide)) (by rfl) T.f_time_after.g T.f_time_after.F.kp T.f_time_after.b .nil pass0 (pa_cons (pv 0) (pa_cons (pv 1) (pa_cons (pv 2) (pa_cons (pv 3) pa_nil))))) (pe_glob (by rfl) T.c_REFUSED ⟨_, rfl⟩) (nomark _)))), ?_⟩
  walk_at "gg"
  refine ⟨_, _, _, y, z, t, d, rfl, hw, hv, hz, ht, it, fun v H1 e1 hv1 => ?_⟩
  walk_at "gg"
  refine g_neT hv1 tvN ?_
  have k := k _ e1
  cases ho : addT y z (some t) d with
  | none => rw [ho] at k; exact k
  | some a => rw [ho] at k; exact k
theorem ok_difference_recovers (T : Txt w K mg) : FnOk P w K mg base CX0 6 T.f_difference_recovers.f T.f_difference_recovers.fd ["library", "zone", "one", "other"] (sp_st .diff K) := by
  refine T.f_difference_recovers.F.ok sc_difference_recovers (fun vs H Q E h => st_len h) (fun cdv A outer s H vs Q E hr h => ?_)
  obtain ⟨wv, zv, y, z, xs, its, rfl, hw, hv, hz, p, o, k⟩ := h
  obtain ⟨x, t, x2, u, rfl, rfl, ht, it, hu, iu⟩ := inv_tu p o
  have k : ∀ H', Ex H H' → Q (.bl (fTwo y z .diff t u 0)) H' := k
  unfold fTwo at k
  refine ⟨(tRet (tOp (rEqD K) (tCall (sp_time_after K) [] E0 (tCons (tVar 0) (tCons (tVar 1) (tCons (tVar 2) (tCons (tCall (sp_hours_between K) [] E0 (tCons (tVar 0) (tCons (tVar 1) (tCons (tVar 3) (tCons (tVar 2) tNil))))) tNil))))) (tVar 3))),
    PSs.nox (pss_one (ps_ret (pe_cmpR (op_eqD hr.units) (pe_call (ok_time_after T) (hr.mono (by decide)) (by rfl) T.f_time_after.g T.f_time_after.F.kp T.f_time_after.b .nil pass0 (pa_cons (pv 0) (pa_cons (pv 1) (pa_cons (pv 2) (pa_cons (pe_call (ok_hours_between T) (hr.mono (by decide)) (by rfl) T.f_hours_between.g T.f_hours_between.F.kp T.f_hours_between.b .nil pass0 (pa_cons (pv 0) (pa_cons (pv 1) (pa_cons (pv 3) (pa_cons (pv 2) pa_nil))))) pa_nil))))) (pv 3) (nomark _)))), ?_⟩
  walk_at "gg"
  refine ⟨_, _, _, _, y, z, u, t, rfl, hw, hv, hz, hu, ht, iu, it, fun H1 e1 => ?_⟩
  walk_at "gg"
  refine ⟨_, _, _, y, z, t, _, rfl, hw.tr (TrT.of e1), hv.tr (TrT.of e1), hz, ht.tr (TrT.of e1), it, fun v H2 e2 hv2 => ?_⟩
  walk_at "gg"
  exact g_eqT hv2 (show TV K H2 x2 (some u) from hu.tr (TrT.of (e1.trans e2))) (k _ (e1.trans e2))
theorem ok_order_by_difference (T : Txt w K mg) : FnOk P w K mg base CX0 6 T.f_order_by_difference.f T.f_order_by_difference.fd ["library", "zone", "one", "other"] (sp_st .ordDiff K) := by
  refine T.f_order_by_difference.F.ok sc_order_by_difference (fun vs H Q E h => st_len h) (fun cdv A outer s H vs Q E hr h => ?_)
  obtain ⟨wv, zv, y, z, xs, its, rfl, hw, hv, hz, p, o, k⟩ := h
  obtain ⟨x, t, x2, u, rfl, rfl, ht, it, hu, iu⟩ := inv_tu p o
  have k : ∀ H', Ex H H' → Q (.bl (fTwo y z .ordDiff t u 0)) H' := k
  unfold fTwo at k
  refine ⟨(tSeq (tAsg (tOp rEq (tCall (sp_order_of K) [] E0 (tCons (tVar 0) (tCons (tVar 1) (tCons (tVar 2) (tCons (tVar 3) tNil))))) (tUn (rU fun i => .int (-i)) (tC (.int 1)))) (gName 4)) (tRet (tOp rEq (tVar 4) (tOp (rI0 fun i j => .bl (decide (j < i))) (tCall (sp_hours_between K) [] E0 (tCons (tVar 0) (tCons (tVar 1) (tCons (tVar 3) (tCons (tVar 2) tNil))))) (tC (.int 0)))))),
    PSs.nox (pss_cons (ps_set (i := 4) sc_order_by_difference.nd rfl (Or.inl rfl) (pe_cmpR op_eq (pe_call (ok_order_of T) (hr.mono (by decide)) (by rfl) T.f_order_of.g T.f_order_of.F.kp T.f_order_of.b .nil pass0 (pa_cons (pv 0) (pa_cons (pv 1) (pa_cons (pv 2) (pa_cons (pv 3) pa_nil))))) (pe_un un_neg pe_int) (nomark _))) (pss_one (ps_ret (pe_cmpR op_eq (pv 4) (pe_cmpR op_gt (pe_call (ok_hours_between T) (hr.mono (by decide)) (by rfl) T.f_hours_between.g T.f_hours_between.F.kp T.f_hours_between.b .nil pass0 (pa_cons (pv 0) (pa_cons (pv 1) (pa_cons (pv 3) (pa_cons (pv 2) pa_nil))))) pe_int (nomark _)) (nomark _))))), ?_⟩
  walk_at "gg"
  refine ⟨_, _, _, _, y, z, t, u, rfl, hw, hv, hz, ht, hu, it, iu, fun H1 e1 => ?_⟩
  walk_at "gg"
  refine ⟨_, _, _, _, y, z, u, t, rfl, hw.tr (TrT.of e1), hv.tr (TrT.of e1), hz, hu.tr (TrT.of e1), ht.tr (TrT.of e1), iu, it, fun H2 e2 => ?_⟩
  walk_at "gg"
  have k := k _ (e1.trans e2)
  simp only [cmp_neg] at k
  rw [show decide (cmp (key y z t) (key y z u) = -1) = decide (key y z t < key y z u) from decide_eq_decide.mpr cmp_lt]
  exact k
theorem ok_have_one_instant (T : Txt w K mg) : FnOk P w K mg base CX0 4 T.f_have_one_instant.f T.f_have_one_instant.fd ["library", "zone", "one", "other"] (sp_have_one_instant K) := by
  refine T.f_have_one_instant.F.ok sc_have_one_instant (fun vs H Q E h => ?_) (fun cdv A outer s H vs Q E hr h => ?_)
  · obtain ⟨wv, zv, av, bv, y, z, a, b, rfl, _⟩ := h
    rfl
  obtain ⟨wv, zv, av, bv, y, z, a, b, rfl, hw, hv, hz, ha, hb, ia, ib, k⟩ := h
  refine ⟨(tRet (tOp rEq (tCall (sp_instant_of_time K) [] E0 (tCons (tVar 0) (tCons (tVar 1) (tCons (tVar 2) tNil)))) (tCall (sp_instant_of_time K) [] E0 (tCons (tVar 0) (tCons (tVar 1) (tCons (tVar 3) tNil)))))),
    PSs.nox (pss_one (ps_ret (pe_cmpR op_eq (pe_call (ok_instant_of_time T) (hr.mono (by decide)) (by rfl) T.f_instant_of_time.g T.f_instant_of_time.F.kp T.f_instant_of_time.b .nil pass0 (pa_cons (pv 0) (pa_cons (pv 1) (pa_cons (pv 2) pa_nil)))) (pe_call (ok_instant_of_time T) (hr.mono (by decide)) (by rfl) T.f_instant_of_time.g T.f_instant_of_time.F.kp T.f_instant_of_time.b .nil pass0 (pa_cons (pv 0) (pa_cons (pv 1) (pa_cons (pv 3) pa_nil)))) (nomark _)))), ?_⟩
  walk_at "gg"
  refine ⟨_, _, _, y, z, a, rfl, hw, hv, hz, ha, ia, fun H1 e1 => ?_⟩
  walk_at "gg"
  refine ⟨_, _, _, y, z, b, rfl, hw.tr (TrT.of e1), hv.tr (TrT.of e1), hz, hb.tr (TrT.of e1), ib, fun H2 e2 => ?_⟩
  walk_at "gg"
  exact k _ (e1.trans e2)
theorem ok_equal_means_one_instant (T : Txt w K mg) : FnOk P w K mg base CX0 6 T.f_equal_means_one_instant.f T.f_equal_means_one_instant.fd ["library", "zone", "one", "other"] (sp_st .eqOne K) := by
  refine T.f_equal_means_one_instant.F.ok sc_equal_means_one_instant (fun vs H Q E h => st_len h) (fun cdv A outer s H vs Q E hr h => ?_)
  obtain ⟨wv, zv, y, z, xs, its, rfl, hw, hv, hz, p, o, k⟩ := h
  obtain ⟨x, t, x2, u, rfl, rfl, ht, it, hu, iu⟩ := inv_tu p o
  have k : ∀ H', Ex H H' → Q (.bl (fTwo y z .eqOne t u 0)) H' := k
  unfold fTwo at k
  refine ⟨(tRet (tOrV (tOp rNe (tCall (sp_order_of K) [] E0 (tCons (tVar 0) (tCons (tVar 1) (tCons (tVar 2) (tCons (tVar 3) tNil))))) (tC (.int 0))) (tCall (sp_have_one_instant K) [] E0 (tCons (tVar 0) (tCons (tVar 1) (tCons (tVar 2) (tCons (tVar 3) tNil))))))),
    PSs.nox (pss_one (ps_ret (pe_or (pe_cmpR op_ne (pe_call (ok_order_of T) (hr.mono (by decide)) (by rfl) T.f_order_of.g T.f_order_of.F.kp T.f_order_of.b .nil pass0 (pa_cons (pv 0) (pa_cons (pv 1) (pa_cons (pv 2) (pa_cons (pv 3) pa_nil))))) pe_int (nomark _)) (pe_one (pe_call (ok_have_one_instant T) (hr.mono (by decide)) (by rfl) T.f_have_one_instant.g T.f_have_one_instant.F.kp T.f_have_one_instant.b .nil pass0 (pa_cons (pv 0) (pa_cons (pv 1) (pa_cons (pv 2) (pa_cons (pv 3) pa_nil))))))))), ?_⟩
  walk_at "gg"
  refine ⟨_, _, _, _, y, z, t, u, rfl, hw, hv, hz, ht, hu, it, iu, fun H1 e1 => ?_⟩
  walk_at "gg"
  refine if_nd (fun c => ?_) (fun c => ?_)
  · simp only [decide_eq_false c] at k
    exact k _ e1
  · simp only [decide_eq_true c] at k
    walk_at "gg"
    exact ⟨_, _, _, _, y, z, t, u, rfl, hw.tr (TrT.of e1), hv.tr (TrT.of e1), hz, ht.tr (TrT.of e1), hu.tr (TrT.of e1), it, iu, fun H2 e2 => k _ (e1.trans e2)⟩
theorem ok_one_instant_means_equal (T : Txt w K mg) : FnOk P w K mg base CX0 6 T.f_one_instant_means_equal.f T.f_one_instant_means_equal.fd ["library", "zone", "one", "other"] (sp_st .oneEq K) := by
  refine T.f_one_instant_means_equal.F.ok sc_one_instant_means_equal (fun vs H Q E h => st_len h) (fun cdv A outer s H vs Q E hr h => ?_)
  obtain ⟨wv, zv, y, z, xs, its, rfl, hw, hv, hz, p, o, k⟩ := h
  obtain ⟨x, t, x2, u, rfl, rfl, ht, it, hu, iu⟩ := inv_tu p o
  have k : ∀ H', Ex H H' → Q (.bl (fTwo y z .oneEq t u 0)) H' := k
  unfold fTwo at k
  refine ⟨(tRet (tOrV (tNotV (tCall (sp_have_one_instant K) [] E0 (tCons (tVar 0) (tCons (tVar 1) (tCons (tVar 2) (tCons (tVar 3) tNil)))))) (tOp rEq (tCall (sp_order_of K) [] E0 (tCons (tVar 0) (tCons (tVar 1) (tCons (tVar 2) (tCons (tVar 3) tNil))))) (tC (.int 0))))),
    PSs.nox (pss_one (ps_ret (pe_or (pe_not (pe_call (ok_have_one_instant T) (hr.mono (by decide)) (by rfl) T.f_have_one_instant.g T.f_have_one_instant.F.kp T.f_have_one_instant.b .nil pass0 (pa_cons (pv 0) (pa_cons (pv 1) (pa_cons (pv 2) (pa_cons (pv 3) pa_nil)))))) (pe_one (pe_cmpR op_eq (pe_call (ok_order_of T) (hr.mono (by decide)) (by rfl) T.f_order_of.g T.f_order_of.F.kp T.f_order_of.b .nil pass0 (pa_cons (pv 0) (pa_cons (pv 1) (pa_cons (pv 2) (pa_cons (pv 3) pa_nil))))) pe_int (nomark _)))))), ?_⟩
  walk_at "gg"
  refine ⟨_, _, _, _, y, z, t, u, rfl, hw, hv, hz, ht, hu, it, iu, fun H1 e1 => ?_⟩
  walk_at "gg"
  refine if_nd (fun c => ?_) (fun c => ?_)
  · simp only [decide_eq_false c] at k
    exact k _ e1
  · simp only [decide_eq_true c] at k
    walk_at "gg"
    refine ⟨_, _, _, _, y, z, t, u, rfl, hw.tr (TrT.of e1), hv.tr (TrT.of e1), hz, ht.tr (TrT.of e1), hu.tr (TrT.of e1), it, iu, fun H2 e2 => ?_⟩
    walk_at "gg"
    exact k _ (e1.trans e2)
theorem ok_one_instant_one_time (T : Txt w K mg) : FnOk P w K mg base CX0 5 T.f_one_instant_one_time.f T.f_one_instant_one_time.fd ["library", "zone", "one", "other"] (sp_st .oneOne K) := by
  refine T.f_one_instant_one_time.F.ok sc_one_instant_one_time (fun vs H Q E h => st_len h) (fun cdv A outer s H vs Q E hr h => ?_)
  obtain ⟨wv, zv, y, z, xs, its, rfl, hw, hv, hz, p, o, k⟩ := h
  obtain ⟨x, t, x2, u, rfl, rfl, ht, it, hu, iu⟩ := inv_tu p o
  have k : ∀ H', Ex H H' → Q (.bl (fTwo y z .oneOne t u 0)) H' := k
  unfold fTwo at k
  refine ⟨(tRet (tOrV (tNotV (tCall (sp_have_one_instant K) [] E0 (tCons (tVar 0) (tCons (tVar 1) (tCons (tVar 2) (tCons (tVar 3) tNil)))))) (tOp (rEqD K) (tVar 2) (tVar 3)))),
    PSs.nox (pss_one (ps_ret (pe_or (pe_not (pe_call (ok_have_one_instant T) (hr.mono (by decide)) (by rfl) T.f_have_one_instant.g T.f_have_one_instant.F.kp T.f_have_one_instant.b .nil pass0 (pa_cons (pv 0) (pa_cons (pv 1) (pa_cons (pv 2) (pa_cons (pv 3) pa_nil)))))) (pe_one (pe_cmpR (op_eqD hr.units) (pv 2) (pv 3) (nomark _)))))), ?_⟩
  walk_at "gg"
  refine ⟨_, _, _, _, y, z, t, u, rfl, hw, hv, hz, ht, hu, it, iu, fun H1 e1 => ?_⟩
  walk_at "gg"
  refine if_nd (fun c => ?_) (fun c => ?_)
  · simp only [decide_eq_false c] at k
    exact k _ e1
  · simp only [decide_eq_true c] at k
    walk_at "gg"
    refine g_eqT (a := some t) (b := some u) (ht.tr (TrT.of e1)) (hu.tr (TrT.of e1)) ?_
    rw [show decide (some t = some u) = decide (t = u) from decide_eq_decide.mpr ⟨fun e => Option.some.inj e, fun e => by rw [e]⟩]
    exact k _ e1
theorem ok_order_of_instants (T : Txt w K mg) : FnOk P w K mg base CX0 6 T.f_order_of_instants.f T.f_order_of_instants.fd ["library", "zone", "one", "other"] (sp_st .ordInst K) := by
  refine T.f_order_of_instants.F.ok sc_order_of_instants (fun vs H Q E h => st_len h) (fun cdv A outer s H vs Q E hr h => ?_)
  obtain ⟨wv, zv, y, z, xs, its, rfl, hw, hv, hz, p, o, k⟩ := h
  obtain ⟨x, t, x2, u, rfl, rfl, ht, it, hu, iu⟩ := inv_tu p o
  have k : ∀ H', Ex H H' → Q (.bl (fTwo y z .ordInst t u 0)) H' := k
  unfold fTwo at k
  refine ⟨(tSeq (tAsg (tOp rEq (tCall (sp_order_of K) [] E0 (tCons (tVar 0) (tCons (tVar 1) (tCons (tVar 2) (tCons (tVar 3) tNil))))) (tUn (rU fun i => .int (-i)) (tC (.int 1)))) (gName 4)) (tRet (tOp rEq (tVar 4) (tOp (rI0 fun i j => .bl (decide (i < j))) (tCall (sp_instant_of_time K) [] E0 (tCons (tVar 0) (tCons (tVar 1) (tCons (tVar 2) tNil)))) (tCall (sp_instant_of_time K) [] E0 (tCons (tVar 0) (tCons (tVar 1) (tCons (tVar 3) tNil)))))))),
    PSs.nox (pss_cons (ps_set (i := 4) sc_order_of_instants.nd rfl (Or.inl rfl) (pe_cmpR op_eq (pe_call (ok_order_of T) (hr.mono (by decide)) (by rfl) T.f_order_of.g T.f_order_of.F.kp T.f_order_of.b .nil pass0 (pa_cons (pv 0) (pa_cons (pv 1) (pa_cons (pv 2) (pa_cons (pv 3) pa_nil))))) (pe_un un_neg pe_int) (nomark _))) (pss_one (ps_ret (pe_cmpR op_eq (pv 4) (pe_cmpR op_lt (pe_call (ok_instant_of_time T) (hr.mono (by decide)) (by rfl) T.f_instant_of_time.g T.f_instant_of_time.F.kp T.f_instant_of_time.b .nil pass0 (pa_cons (pv 0) (pa_cons (pv 1) (pa_cons (pv 2) pa_nil)))) (pe_call (ok_instant_of_time T) (hr.mono (by decide)) (by rfl) T.f_instant_of_time.g T.f_instant_of_time.F.kp T.f_instant_of_time.b .nil pass0 (pa_cons (pv 0) (pa_cons (pv 1) (pa_cons (pv 3) pa_nil)))) (nomark _)) (nomark _))))), ?_⟩
  walk_at "gg"
  refine ⟨_, _, _, _, y, z, t, u, rfl, hw, hv, hz, ht, hu, it, iu, fun H1 e1 => ?_⟩
  walk_at "gg"
  refine ⟨_, _, _, y, z, t, rfl, hw.tr (TrT.of e1), hv.tr (TrT.of e1), hz, ht.tr (TrT.of e1), it, fun H2 e2 => ?_⟩
  walk_at "gg"
  have e12 := e1.trans e2
  refine ⟨_, _, _, y, z, u, rfl, hw.tr (TrT.of e12), hv.tr (TrT.of e12), hz, hu.tr (TrT.of e12), iu, fun H3 e3 => ?_⟩
  walk_at "gg"
  have k := k _ (e12.trans e3)
  simp only [cmp_neg] at k
  rw [show decide (cmp (key y z t) (key y z u) = -1) = decide (key y z t < key y z u) from decide_eq_decide.mpr cmp_lt]
  exact k
theorem ok_are_sums_in_order (T : Txt w K mg) : FnOk P w K mg base CX0 6 T.f_are_sums_in_order.f T.f_are_sums_in_order.fd ["wanted", "library", "zone", "one", "other", "duration"] (sp_are_sums_in_order K) := by
  refine T.f_are_sums_in_order.F.ok sc_are_sums_in_order (fun vs H Q E h => ?_) (fun cdv A outer s H vs Q E hr h => ?_)
  · obtain ⟨n, wv, zv, av, bv, y, z, a, b, d, rfl, _⟩ := h
    rfl
  obtain ⟨n, wv, zv, av, bv, y, z, a, b, d, rfl, hw, hv, hz, ha, hb, ia, ib, k⟩ := h
  refine ⟨(tSeq (tAsg (tCall (sp_time_after K) [] E0 (tCons (tVar 1) (tCons (tVar 2) (tCons (tVar 3) (tCons (tVar 5) tNil))))) (gName 6)) (tSeq (tAsg (tCall (sp_time_after K) [] E0 (tCons (tVar 1) (tCons (tVar 2) (tCons (tVar 4) (tCons (tVar 5) tNil))))) (gName 7)) (tSeq (tIfS (tOr (tTest (tOp (rEqD K) (tVar 6) (tC (.str "refused")))) (tTest (tOp (rEqD K) (tVar 7) (tC (.str "refused"))))) (tRet (tC (.bl false))) tNext) (tRet (tOp rEq (tCall (sp_order_of K) [] E0 (tCons (tVar 1) (tCons (tVar 2) (tCons (tVar 6) (tCons (tVar 7) tNil))))) (tVar 0)))))),
    PSs.nox (pss_cons (ps_set (i := 6) sc_are_sums_in_order.nd rfl (Or.inl rfl) (pe_call (ok_time_after T) (hr.mono (by decide)) (by rfl) T.f_time_after.g T.f_time_after.F.kp T.f_time_after.b .nil pass0 (pa_cons (pv 1) (pa_cons (pv 2) (pa_cons (pv 3) (pa_cons (pv 5) pa_nil)))))) (pss_cons (ps_set (i := 7) sc_are_sums_in_order.nd rfl (Or.inl rfl) (pe_call (ok_time_after T) (hr.mono (by decide)) (by rfl) T.f_time_after.g T.f_time_after.F.kp T.f_time_after.b .nil pass0 (pa_cons (pv 1) (pa_cons (pv 2) (pa_cons (pv 4) (pa_cons (pv 5) pa_nil)))))) (pss_cons (ps_if (PW.pt (pw_or (pt_cmpR (op_eqD hr.units) (pv 6) (pe_glob (by rfl) T.c_REFUSED ⟨_, rfl⟩) (nomark _)) (pw_or1 (pt_cmpR (op_eqD hr.units) (pv 7) (pe_glob (by rfl) T.c_REFUSED ⟨_, rfl⟩) (nomark _))))) (pss_one (ps_ret pe_bl)) pss_nil) (pss_one (ps_ret (pe_cmpR op_eq (pe_call (ok_order_of T) (hr.mono (by decide)) (by rfl) T.f_order_of.g T.f_order_of.F.kp T.f_order_of.b .nil pass0 (pa_cons (pv 1) (pa_cons (pv 2) (pa_cons (pv 6) (pa_cons (pv 7) pa_nil))))) (pv 0) (nomark _))))))), ?_⟩
  walk_at "gg"
  refine ⟨_, _, _, y, z, a, d, rfl, hw, hv, hz, ha, ia, fun v1 H1 e1 hv1 => ?_⟩
  walk_at "gg"
  refine ⟨_, _, _, y, z, b, d, rfl, hw.tr (TrT.of e1), hv.tr (TrT.of e1), hz, hb.tr (TrT.of e1), ib, fun v2 H2 e2 hv2 => ?_⟩
  have e12 := e1.trans e2
  have hv1 := hv1.tr (TrT.of e2)
  walk_at "gg"
  refine g_eqT hv1 tvN ?_
  walk_at "gg"
  cases ho : addT y z (some a) d with
  | none =>
    rw [ho] at k
    refine if_t (by decide +kernel) ?_
    walk_at "gg"
    exact k _ e12
  | some c =>
    rw [ho] at k hv1
    refine if_f rfl ?_
    walk_at "gg"
    refine g_eqT hv2 tvN ?_
    walk_at "gg"
    cases ho2 : addT y z (some b) d with
    | none =>
      rw [ho2] at k
      refine if_t (by decide +kernel) ?_
      walk_at "gg"
      exact k _ e12
    | some e =>
      rw [ho2] at k hv2
      refine if_f rfl ?_
      walk_at "gg"
      refine ⟨_, _, _, _, y, z, c, e, rfl, hw.tr (TrT.of e12), hv.tr (TrT.of e12), hz, hv1.ref, hv2.ref, add_valid hz ho, add_valid hz ho2, fun H3 e3 => ?_⟩
      walk_at "gg"
      have k := k _ (e12.trans e3)
      rw [show order y z (some c) (some e) = some (cmp (key y z c) (key y z e)) from rfl, some_int] at k
      exact k
theorem ok_order_kept (T : Txt w K mg) : FnOk P w K mg base CX0 7 T.f_order_kept.f T.f_order_kept.fd ["library", "zone", "one", "other", "duration"] (sp_st .kept K) := by
  refine T.f_order_kept.F.ok sc_order_kept (fun vs H Q E h => st_len h) (fun cdv A outer s H vs Q E hr h => ?_)
  obtain ⟨wv, zv, y, z, xs, its, rfl, hw, hv, hz, p, o, k⟩ := h
  obtain ⟨x, t, x2, u, d, rfl, rfl, ht, it, hu, iu⟩ := inv_tud p o
  have k : ∀ H', Ex H H' → Q (.bl (fTwo y z .kept t u d)) H' := k
  unfold fTwo at k
  refine ⟨(tSeq (tIfS (tTest (tOp rNe (tCall (sp_order_of K) [] E0 (tCons (tVar 0) (tCons (tVar 1) (tCons (tVar 2) (tCons (tVar 3) tNil))))) (tUn (rU fun i => .int (-i)) (tC (.int 1))))) (tRet (tC (.bl true))) tNext) (tRet (tCall (sp_are_sums_in_order K) [] E0 (tCons (tUn (rU fun i => .int (-i)) (tC (.int 1))) (tCons (tVar 0) (tCons (tVar 1) (tCons (tVar 2) (tCons (tVar 3) (tCons (tVar 4) tNil))))))))),
    PSs.nox (pss_cons (ps_if (pt_cmpR op_ne (pe_call (ok_order_of T) (hr.mono (by decide)) (by rfl) T.f_order_of.g T.f_order_of.F.kp T.f_order_of.b .nil pass0 (pa_cons (pv 0) (pa_cons (pv 1) (pa_cons (pv 2) (pa_cons (pv 3) pa_nil))))) (pe_un un_neg pe_int) (nomark _)) (pss_one (ps_ret pe_bl)) pss_nil) (pss_one (ps_ret (pe_call (ok_are_sums_in_order T) (hr.mono (by decide)) (by rfl) T.f_are_sums_in_order.g T.f_are_sums_in_order.F.kp T.f_are_sums_in_order.b .nil pass0 (pa_cons (pe_un un_neg pe_int) (pa_cons (pv 0) (pa_cons (pv 1) (pa_cons (pv 2) (pa_cons (pv 3) (pa_cons (pv 4) pa_nil)))))))))), ?_⟩
  walk_at "gg"
  refine ⟨_, _, _, _, y, z, t, u, rfl, hw, hv, hz, ht, hu, it, iu, fun H1 e1 => ?_⟩
  walk_at "gg"
  refine if_nd (fun c => ?_) (fun c => ?_)
  · simp only [decide_eq_false c] at k
    walk_at "gg"
    exact k _ e1
  · simp only [decide_eq_true c] at k
    walk_at "gg"
    exact ⟨_, _, _, _, _, y, z, t, u, d, rfl, hw.tr (TrT.of e1), hv.tr (TrT.of e1), hz, ht.tr (TrT.of e1), hu.tr (TrT.of e1), it, iu, fun H2 e2 => k _ (e1.trans e2)⟩
theorem ok_equal_sums (T : Txt w K mg) : FnOk P w K mg base CX0 7 T.f_equal_sums.f T.f_equal_sums.fd ["library", "zone", "one", "other", "duration"] (sp_st .eqSums K) := by
  refine T.f_equal_sums.F.ok sc_equal_sums (fun vs H Q E h => st_len h) (fun cdv A outer s H vs Q E hr h => ?_)
  obtain ⟨wv, zv, y, z, xs, its, rfl, hw, hv, hz, p, o, k⟩ := h
  obtain ⟨x, t, x2, u, d, rfl, rfl, ht, it, hu, iu⟩ := inv_tud p o
  have k : ∀ H', Ex H H' → Q (.bl (fTwo y z .eqSums t u d)) H' := k
  unfold fTwo at k
  refine ⟨(tSeq (tIfS (tTest (tOp rNe (tCall (sp_order_of K) [] E0 (tCons (tVar 0) (tCons (tVar 1) (tCons (tVar 2) (tCons (tVar 3) tNil))))) (tC (.int 0)))) (tRet (tC (.bl true))) tNext) (tRet (tCall (sp_are_sums_in_order K) [] E0 (tCons (tC (.int 0)) (tCons (tVar 0) (tCons (tVar 1) (tCons (tVar 2) (tCons (tVar 3) (tCons (tVar 4) tNil))))))))),
    PSs.nox (pss_cons (ps_if (pt_cmpR op_ne (pe_call (ok_order_of T) (hr.mono (by decide)) (by rfl) T.f_order_of.g T.f_order_of.F.kp T.f_order_of.b .nil pass0 (pa_cons (pv 0) (pa_cons (pv 1) (pa_cons (pv 2) (pa_cons (pv 3) pa_nil))))) pe_int (nomark _)) (pss_one (ps_ret pe_bl)) pss_nil) (pss_one (ps_ret (pe_call (ok_are_sums_in_order T) (hr.mono (by decide)) (by rfl) T.f_are_sums_in_order.g T.f_are_sums_in_order.F.kp T.f_are_sums_in_order.b .nil pass0 (pa_cons pe_int (pa_cons (pv 0) (pa_cons (pv 1) (pa_cons (pv 2) (pa_cons (pv 3) (pa_cons (pv 4) pa_nil)))))))))), ?_⟩
  walk_at "gg"
  refine ⟨_, _, _, _, y, z, t, u, rfl, hw, hv, hz, ht, hu, it, iu, fun H1 e1 => ?_⟩
  walk_at "gg"
  refine if_nd (fun c => ?_) (fun c => ?_)
  · simp only [decide_eq_false c] at k
    walk_at "gg"
    exact k _ e1
  · simp only [decide_eq_true c] at k
    walk_at "gg"
    exact ⟨_, _, _, _, _, y, z, t, u, d, rfl, hw.tr (TrT.of e1), hv.tr (TrT.of e1), hz, ht.tr (TrT.of e1), hu.tr (TrT.of e1), it, iu, fun H2 e2 => k _ (e1.trans e2)⟩
end
local macro_rules | `(tactic| walk_at "m") => `(tactic| first
  | with_reducible refine g_m1 ?_
  | with_reducible refine g_isS ?_
  | with_reducible refine g_lcStr ?_
  | with_reducible refine g_join ?_
  | with_reducible refine g_js ?_
  | with_reducible refine g_jsN ?_
  | with_reducible refine g_fmt ?_
  | with_reducible refine g_callLam ?_
  | with_reducible refine g_revT ?_)

theorem g_lcZipV {K : PySem.W.Frag} {σ : St} {H : Hp} {Q : VK} {g : TG} {tt : TT} {te : TE} {vs : List Nat} {a b : Addr} {xs ys : List V} {i j : Nat} (e1 : σ[i]? = some (some (.ref a))) (e2 : σ[j]? = some (some (.ref b))) (q : SqT K H a xs) (q' : SqT K H b ys)
    (k : tLcZ K a b g tt te vs σ H Q) : tLc (RZ.iZipA K (tCons (tVar i) (tCons (tVar j) tNil))) g tt te vs σ H Q := ⟨_, e1, _, e2, a, b, xs, ys, rfl, .inr ⟨q, q', k⟩⟩
theorem mono_two {K : PySem.W.Frag} {i j : Nat} (x : V) (σ1 : St) (H1 : Hp) (N N' : St → Hp → Prop) (m : ∀ σ2 H2, N σ2 H2 → N' σ2 H2) (h : gTup K 2 (gCons (gName i) (gCons (gName j) gNil)) x σ1 H1 N) : gTup K 2 (gCons (gName i) (gCons (gName j) gNil)) x σ1 H1 N' := by
  obtain ⟨a, xs, e, q, l, v, r, e1, v2, r2, e2, er, n⟩ := h
  exact ⟨a, xs, e, q, l, v, r, e1, v2, r2, e2, er, m _ _ n⟩
/-! ### promises -/
def isWord (s : Str) : Prop := s = "instant" ∨ s = "reading" ∨ s = "time" ∨ s = "duration"
theorem shape_word (r : Rule) : ∀ s ∈ shapeR r, isWord s := by
  intro s hs
  unfold isWord
  cases r <;> (simp only [shapeR, List.mem_cons, List.not_mem_nil, or_false] at hs; first | (subst hs; simp) | (rcases hs with rfl | rfl <;> simp) | (rcases hs with rfl | rfl | rfl <;> simp))
def sp_is_true_of (K : PySem.W.Frag) : Sp := fun vs H Q _ => ∃ (wv zv : V) (w : Way) (z : Zone) (r : Rule) (p : Addr) (xs : List V) (its : List It), vs = [wv, zv, .str (ruleS r), .ref p] ∧ WayV K H wv w ∧ ZV K H zv z ∧ OkZ z ∧
  SqT K H p xs ∧ Paired (ItV K H) xs its ∧ Paired (ItOk w z) (shapeR r) its ∧ ∀ H', Ex H H' → Q (.bl (fitsI w z r its)) H'
def sp_is_argument (K : PySem.W.Frag) : Sp := fun vs H Q _ => ∃ (wv zv v : V) (w : Way) (z : Zone) (word : Str) (it : It), vs = [wv, zv, .str word, v] ∧ WayV K H wv w ∧ ZV K H zv z ∧ okZ z = true ∧ isWord word ∧ ItV K H v it ∧ ItOk w z word it ∧
  ∀ H', Ex H H' → Q (.bl true) H'
def sp_are_arguments (K : PySem.W.Frag) : Sp := fun vs H Q _ => ∃ (wv zv : V) (w : Way) (z : Zone) (r : Rule) (a p : Addr) (xs : List V) (its : List It), vs = [wv, zv, .ref a, .ref p] ∧ WayV K H wv w ∧ ZV K H zv z ∧ okZ z = true ∧
  SqT K H a ((shapeR r).map V.str) ∧ SqT K H p xs ∧ Paired (ItV K H) xs its ∧ Paired (ItOk w z) (shapeR r) its ∧ ∀ H', Ex H H' → Q (.bl true) H'
def sp_holds_for (K : PySem.W.Frag) : Sp := fun vs H Q _ => ∃ (wv zv : V) (w : Way) (z : Zone) (r : Rule) (p : Addr) (xs : List V) (its : List It), vs = [wv, zv, .str (ruleS r), .ref p] ∧ WayV K H wv w ∧ ZV K H zv z ∧ okZ z = true ∧
  SqT K H p xs ∧ Paired (ItV K H) xs its ∧ Paired (ItOk w z) (shapeR r) its ∧ ∀ H', Ex H H' → Q (.bl (fitsI w z r its)) H'
section
variable {P : Program} {w : World} {K : PySem.W.Frag} {mg : Str → Option Value} {base : Heap}
theorem shapesK (T : Txt w K mg) (r : Rule) : ∃ a, KDct K w T.a_SHAPES (ruleS r) (.ref a) ∧ ∀ H, SqT K H a ((shapeR r).map V.str) := by
  cases r
  case fromU => exact ⟨_, T.k_SHAPES_0, T.q_SHAPES_0⟩
  case toU => exact ⟨_, T.k_SHAPES_1, T.q_SHAPES_1⟩
  case every => exact ⟨_, T.k_SHAPES_2, T.q_SHAPES_2⟩
  case someR => exact ⟨_, T.k_SHAPES_3, T.q_SHAPES_3⟩
  case there => exact ⟨_, T.k_SHAPES_4, T.q_SHAPES_4⟩
  case sumD => exact ⟨_, T.k_SHAPES_5, T.q_SHAPES_5⟩
  case elapsed => exact ⟨_, T.k_SHAPES_6, T.q_SHAPES_6⟩
  case same => exact ⟨_, T.k_SHAPES_7, T.q_SHAPES_7⟩
  case later => exact ⟨_, T.k_SHAPES_8, T.q_SHAPES_8⟩
  case told => exact ⟨_, T.k_SHAPES_9, T.q_SHAPES_9⟩
  case diff => exact ⟨_, T.k_SHAPES_10, T.q_SHAPES_10⟩
  case ordDiff => exact ⟨_, T.k_SHAPES_11, T.q_SHAPES_11⟩
  case eqOne => exact ⟨_, T.k_SHAPES_12, T.q_SHAPES_12⟩
  case oneEq => exact ⟨_, T.k_SHAPES_13, T.q_SHAPES_13⟩
  case oneOne => exact ⟨_, T.k_SHAPES_14, T.q_SHAPES_14⟩
  case ordInst => exact ⟨_, T.k_SHAPES_15, T.q_SHAPES_15⟩
  case kept => exact ⟨_, T.k_SHAPES_16, T.q_SHAPES_16⟩
  case eqSums => exact ⟨_, T.k_SHAPES_17, T.q_SHAPES_17⟩
theorem ok_is_true_of (T : Txt w K mg) : FnOk P w K mg base CX0 8 T.f_is_true_of.f T.f_is_true_of.fd ["library", "zone", "rule", "arguments"] (sp_is_true_of K) := by
  refine T.f_is_true_of.F.ok sc_is_true_of (fun vs H Q E h => ?_) (fun cdv A outer s H vs Q E hr h => ?_)
  · obtain ⟨wv, zv, w, z, r, p, xs, its, rfl, _⟩ := h
    rfl
  obtain ⟨wv, zv, y, z, r, p, xs, its, rfl, hw, hv, hz, hp, pvs, po, k⟩ := h
  refine ⟨(tSeq (tAsg (tOp (rIxD K w) (tC (.ref T.a_STATEMENTS)) (tVar 2)) (gName 4)) (tRet (tCallH P w K mg base 7 (tVar 4) (tCons (tVar 0) (tCons (tVar 1) (StX.tStar K (tVar 3) tNil)))))),
    PSs.nox (pss_cons (ps_set (i := 4) sc_is_true_of.nd rfl (Or.inl rfl) (pe_ix ix_kdict (pe_glob (by rfl) T.c_STATEMENTS rfl) (pv 2) (fun _ _ => rfl))) (pss_one (ps_ret (pe_callH (k := 7) (hr.mono (by decide)) (pv 4) (pa_cons (pv 0) (pa_cons (pv 1) (StX.pa_star (pv 3) pa_nil))))))), ?_⟩
  walk_at "qq"
  cases r
  case fromU =>
    refine g_ixD T.k_STATEMENTS_0 ?_
    walk_at "qq"
    refine ⟨_, _, rfl, HeldS.of T.f_from_universal_and_back (ok_from_universal_and_back T) (by decide), ?_⟩
    walk_at "qq"
    refine g_starV rfl hp ?_
    walk_at "qq"
    exact ⟨wv, zv, y, z, xs, its, by rw [List.append_nil], hw, hv, hz, pvs, po, k⟩
  case toU =>
    refine g_ixD T.k_STATEMENTS_1 ?_
    walk_at "qq"
    refine ⟨_, _, rfl, HeldS.of T.f_to_universal_and_back (ok_to_universal_and_back T) (by decide), ?_⟩
    walk_at "qq"
    refine g_starV rfl hp ?_
    walk_at "qq"
    exact ⟨wv, zv, y, z, xs, its, by rw [List.append_nil], hw, hv, hz, pvs, po, k⟩
  case every =>
    refine g_ixD T.k_STATEMENTS_2 ?_
    walk_at "qq"
    refine ⟨_, _, rfl, HeldS.of T.f_every_reading (ok_every_reading T) (by decide), ?_⟩
    walk_at "qq"
    refine g_starV rfl hp ?_
    walk_at "qq"
    exact ⟨wv, zv, y, z, xs, its, by rw [List.append_nil], hw, hv, hz, pvs, po, k⟩
  case someR =>
    refine g_ixD T.k_STATEMENTS_3 ?_
    walk_at "qq"
    refine ⟨_, _, rfl, HeldS.of T.f_some_reading (ok_some_reading T) (by decide), ?_⟩
    walk_at "qq"
    refine g_starV rfl hp ?_
    walk_at "qq"
    exact ⟨wv, zv, y, z, xs, its, by rw [List.append_nil], hw, hv, hz, pvs, po, k⟩
  case there =>
    refine g_ixD T.k_STATEMENTS_4 ?_
    walk_at "qq"
    refine ⟨_, _, rfl, HeldS.of T.f_there_and_back (ok_there_and_back T) (by decide), ?_⟩
    walk_at "qq"
    refine g_starV rfl hp ?_
    walk_at "qq"
    exact ⟨wv, zv, y, z, xs, its, by rw [List.append_nil], hw, hv, hz, pvs, po, k⟩
  case sumD =>
    refine g_ixD T.k_STATEMENTS_5 ?_
    walk_at "qq"
    refine ⟨_, _, rfl, HeldS.of T.f_sum_of_durations (ok_sum_of_durations T) (by decide), ?_⟩
    walk_at "qq"
    refine g_starV rfl hp ?_
    walk_at "qq"
    exact ⟨wv, zv, y, z, xs, its, by rw [List.append_nil], hw, hv, hz, pvs, po, k⟩
  case elapsed =>
    refine g_ixD T.k_STATEMENTS_6 ?_
    walk_at "qq"
    refine ⟨_, _, rfl, HeldS.of T.f_elapsed_time (ok_elapsed_time T) (by decide), ?_⟩
    walk_at "qq"
    refine g_starV rfl hp ?_
    walk_at "qq"
    exact ⟨wv, zv, y, z, xs, its, by rw [List.append_nil], hw, hv, hz, pvs, po, k⟩
  case same =>
    refine g_ixD T.k_STATEMENTS_7 ?_
    walk_at "qq"
    refine ⟨_, _, rfl, HeldS.of T.f_same_clock (ok_same_clock T) (by decide), ?_⟩
    walk_at "qq"
    refine g_starV rfl hp ?_
    walk_at "qq"
    exact ⟨wv, zv, y, z, xs, its, by rw [List.append_nil], hw, hv, hz, pvs, po, k⟩
  case later =>
    refine g_ixD T.k_STATEMENTS_8 ?_
    walk_at "qq"
    refine ⟨_, _, rfl, HeldS.of T.f_later (ok_later T) (by decide), ?_⟩
    walk_at "qq"
    refine g_starV rfl hp ?_
    walk_at "qq"
    exact ⟨wv, zv, y, z, xs, its, by rw [List.append_nil], hw, hv, hz, pvs, po, k⟩
  case told =>
    refine g_ixD T.k_STATEMENTS_9 ?_
    walk_at "qq"
    refine ⟨_, _, rfl, HeldS.of T.f_sums_told (ok_sums_told T) (by decide), ?_⟩
    walk_at "qq"
    refine g_starV rfl hp ?_
    walk_at "qq"
    exact ⟨wv, zv, y, z, xs, its, by rw [List.append_nil], hw, hv, hz, pvs, po, k⟩
  case diff =>
    refine g_ixD T.k_STATEMENTS_10 ?_
    walk_at "qq"
    refine ⟨_, _, rfl, HeldS.of T.f_difference_recovers (ok_difference_recovers T) (by decide), ?_⟩
    walk_at "qq"
    refine g_starV rfl hp ?_
    walk_at "qq"
    exact ⟨wv, zv, y, z, xs, its, by rw [List.append_nil], hw, hv, hz, pvs, po, k⟩
  case ordDiff =>
    refine g_ixD T.k_STATEMENTS_11 ?_
    walk_at "qq"
    refine ⟨_, _, rfl, HeldS.of T.f_order_by_difference (ok_order_by_difference T) (by decide), ?_⟩
    walk_at "qq"
    refine g_starV rfl hp ?_
    walk_at "qq"
    exact ⟨wv, zv, y, z, xs, its, by rw [List.append_nil], hw, hv, hz, pvs, po, k⟩
  case eqOne =>
    refine g_ixD T.k_STATEMENTS_12 ?_
    walk_at "qq"
    refine ⟨_, _, rfl, HeldS.of T.f_equal_means_one_instant (ok_equal_means_one_instant T) (by decide), ?_⟩
    walk_at "qq"
    refine g_starV rfl hp ?_
    walk_at "qq"
    exact ⟨wv, zv, y, z, xs, its, by rw [List.append_nil], hw, hv, hz, pvs, po, k⟩
  case oneEq =>
    refine g_ixD T.k_STATEMENTS_13 ?_
    walk_at "qq"
    refine ⟨_, _, rfl, HeldS.of T.f_one_instant_means_equal (ok_one_instant_means_equal T) (by decide), ?_⟩
    walk_at "qq"
    refine g_starV rfl hp ?_
    walk_at "qq"
    exact ⟨wv, zv, y, z, xs, its, by rw [List.append_nil], hw, hv, hz, pvs, po, k⟩
  case oneOne =>
    refine g_ixD T.k_STATEMENTS_14 ?_
    walk_at "qq"
    refine ⟨_, _, rfl, HeldS.of T.f_one_instant_one_time (ok_one_instant_one_time T) (by decide), ?_⟩
    walk_at "qq"
    refine g_starV rfl hp ?_
    walk_at "qq"
    exact ⟨wv, zv, y, z, xs, its, by rw [List.append_nil], hw, hv, hz, pvs, po, k⟩
  case ordInst =>
    refine g_ixD T.k_STATEMENTS_15 ?_
    walk_at "qq"
    refine ⟨_, _, rfl, HeldS.of T.f_order_of_instants (ok_order_of_instants T) (by decide), ?_⟩
    walk_at "qq"
    refine g_starV rfl hp ?_
    walk_at "qq"
    exact ⟨wv, zv, y, z, xs, its, by rw [List.append_nil], hw, hv, hz, pvs, po, k⟩
  case kept =>
    refine g_ixD T.k_STATEMENTS_16 ?_
    walk_at "qq"
    refine ⟨_, _, rfl, HeldS.of T.f_order_kept (ok_order_kept T) (by decide), ?_⟩
    walk_at "qq"
    refine g_starV rfl hp ?_
    walk_at "qq"
    exact ⟨wv, zv, y, z, xs, its, by rw [List.append_nil], hw, hv, hz, pvs, po, k⟩
  case eqSums =>
    refine g_ixD T.k_STATEMENTS_17 ?_
    walk_at "qq"
    refine ⟨_, _, rfl, HeldS.of T.f_equal_sums (ok_equal_sums T) (by decide), ?_⟩
    walk_at "qq"
    refine g_starV rfl hp ?_
    walk_at "qq"
    exact ⟨wv, zv, y, z, xs, its, by rw [List.append_nil], hw, hv, hz, pvs, po, k⟩
theorem ok_is_argument (T : Txt w K mg) : FnOk P w K mg base CX0 7 T.f_is_argument.f T.f_is_argument.fd ["library", "zone", "word", "value"] (sp_is_argument K) := by
  refine T.f_is_argument.F.ok sc_is_argument (fun vs H Q E h => ?_) (fun cdv A outer s H vs Q E hr h => ?_)
  · obtain ⟨wv, zv, v, w, z, word, it, rfl, _⟩ := h
    rfl
  obtain ⟨wv, zv, v, y, z, word, it, rfl, hw, hv, ho, hi, iv, io, k⟩ := h
  refine ⟨(tSeq (tIfS (tTest (tOp rEq (tVar 2) (tC (.str "instant")))) (tRet (tCall (sp_is_instant K) [] E0 (tCons (tVar 3) tNil))) tNext) (tSeq (tIfS (tTest (tOp rEq (tVar 2) (tC (.str "reading")))) (tRet (tCall (sp_is_reading K) [] E0 (tCons (tVar 3) tNil))) tNext) (tSeq (tIfS (tTest (tOp rEq (tVar 2) (tC (.str "time")))) (tRet (tCall (sp_is_time K) [] E0 (tCons (tVar 0) (tCons (tVar 1) (tCons (tVar 3) tNil))))) tNext) (tRet (tCall (sp_is_between K) [] E0 (tCons (tVar 3) (tCons (tUn (rU fun i => .int (-i)) (tC (.int 4000))) (tCons (tC (.int 4000)) tNil)))))))),
    PSs.nox (pss_cons (ps_if (pt_cmpR op_eq (pv 2) pe_str (nomark _)) (pss_one (ps_ret (pe_call (ok_is_instant T) (hr.mono (by decide)) (by rfl) T.f_is_instant.g T.f_is_instant.F.kp T.f_is_instant.b .nil pass0 (pa_cons (pv 3) pa_nil)))) pss_nil) (pss_cons (ps_if (pt_cmpR op_eq (pv 2) pe_str (nomark _)) (pss_one (ps_ret (pe_call (ok_is_reading T) (hr.mono (by decide)) (by rfl) T.f_is_reading.g T.f_is_reading.F.kp T.f_is_reading.b .nil pass0 (pa_cons (pv 3) pa_nil)))) pss_nil) (pss_cons (ps_if (pt_cmpR op_eq (pv 2) pe_str (nomark _)) (pss_one (ps_ret (pe_call (ok_is_time T) (hr.mono (by decide)) (by rfl) T.f_is_time.g T.f_is_time.F.kp T.f_is_time.b .nil pass0 (pa_cons (pv 0) (pa_cons (pv 1) (pa_cons (pv 3) pa_nil)))))) pss_nil) (pss_one (ps_ret (pe_call (ok_is_between T) (hr.mono (by decide)) (by rfl) T.f_is_between.g T.f_is_between.F.kp T.f_is_between.b .nil pass0 (pa_cons (pv 3) (pa_cons (pe_un un_neg (pe_glob (by rfl) T.c_MOST_DURATION_OF_RULES ⟨_, rfl⟩)) (pa_cons (pe_glob (by rfl) T.c_MOST_DURATION_OF_RULES ⟨_, rfl⟩) pa_nil))))))))), ?_⟩
  walk_at "qq"
  rcases hi with rfl | rfl | rfl | rfl
  · walk_at "qq"
    obtain ⟨n, rfl, b1, b2⟩ := io.nu (by decide +kernel)
    cases (show v = V.int n from iv)
    refine ⟨n, rfl, ?_⟩
    rw [decide_eq_true (⟨by omega, by omega⟩ : -100000 ≤ n ∧ n ≤ 100000)]
    exact k _ (Evl.Ex.refl _)
  · walk_at "qq"
    obtain ⟨n, rfl, b1, b2⟩ := io.nu (by decide +kernel)
    cases (show v = V.int n from iv)
    refine ⟨n, rfl, ?_⟩
    rw [decide_eq_true (⟨by omega, by omega⟩ : -90000 ≤ n ∧ n ≤ 90000)]
    exact k _ (Evl.Ex.refl _)
  · walk_at "qq"
    obtain ⟨t, rfl, q, b1, b2⟩ := io.tm
    refine ⟨_, _, _, y, z, t, rfl, hw, hv, ho, iv, by omega, by omega, ?_, fun H1 e1 => ?_⟩
    · rcases q.pass with p | p
      · exact .inl p
      · exact .inr p.1
    · rw [decide_eq_true q]
      exact k _ e1
  · walk_at "qq"
    obtain ⟨n, rfl, b1, b2⟩ := io.du
    cases (show v = V.int n from iv)
    refine ⟨n, _, _, rfl, ?_⟩
    rw [decide_eq_true (⟨by omega, by omega⟩ : -4000 ≤ n ∧ n ≤ 4000)]
    exact k _ (Evl.Ex.refl _)
theorem ok_are_arguments (T : Txt w K mg) : FnOk P w K mg base CX0 8 T.f_are_arguments.f T.f_are_arguments.fd ["library", "zone", "words", "value"] (sp_are_arguments K) := by
  refine T.f_are_arguments.F.ok sc_are_arguments (fun vs H Q E h => ?_) (fun cdv A outer s H vs Q E hr h => ?_)
  · obtain ⟨wv, zv, w, z, r, a, p, xs, its, rfl, _⟩ := h
    rfl
  obtain ⟨wv, zv, y, z, r, a, p, xs, its, rfl, hw, hv, ho, ha, hp, pvs, po, k⟩ := h
  have l1 := pd_len pvs
  have l2 := pd_len po
  have l3 := shape_few r
  refine ⟨(tSeq (tIfS (tNot (tB (tCall (sp_is_tuple_of K) [] E0 (tCons (tCB (Evl.rLenS K) (tCons (tVar 2) tNil)) (tCons (tVar 3) tNil))))) (tRet (tC (.bl false))) tNext) (tRet (tCB (rAll K) (tCons (tLc (RZ.iZipA K (tCons (tVar 2) (tCons (tVar 3) tNil))) (gTup K 2 (gCons (gName 4) (gCons (gName 5) gNil))) tYes (tCall (sp_is_argument K) [] E0 (tCons (tVar 0) (tCons (tVar 1) (tCons (tVar 4) (tCons (tVar 5) tNil))))) [4, 5]) tNil)))),
    PSs.nox (pss_cons (ps_if (pt_not (pt_val (pe_call (ok_is_tuple_of T) (hr.mono (by decide)) (by rfl) T.f_is_tuple_of.g T.f_is_tuple_of.F.kp T.f_is_tuple_of.b .nil pass0 (pa_cons (pe_callB call_len_seq (by rfl) T.z_len (by decide +kernel) (pa_cons (pv 2) pa_nil)) (pa_cons (pv 3) pa_nil))))) (pss_one (ps_ret pe_bl)) pss_nil) (pss_one (ps_ret (pe_callB (cr_all rfl) (by rfl) T.z_all (by decide +kernel) (pa_cons (pe_lc (own := [("word", 4), ("item", 5)]) rfl sc_are_arguments.nd (RZ.pi_zipA (by rfl) T.z_zip (pa_cons (pv 2) (pa_cons (pv 3) pa_nil))) (blkOk_by (own := [("word", 4), ("item", 5)]) (N := ["library", "zone", "words", "value", "word", "item"]) (sc := (defScope s_are_arguments)) (by decide +kernel)) (fun _ _ _ _ _ => (pg_tup rfl (pgs_cons (pg_name (i := 4) sc_are_arguments.nd rfl (Or.inl rfl)) (pgs_cons (pg_name (i := 5) sc_are_arguments.nd rfl (Or.inl rfl)) pgs_nil)))) (fun _ _ _ _ _ => pts_nil) (fun _ _ _ _ _ => (pe_call (ok_is_argument T) (hr.mono (by decide)) (by rfl) T.f_is_argument.g T.f_is_argument.F.kp T.f_is_argument.b .nil pass0 (pa_cons (pv 0) (pa_cons (pv 1) (pa_cons (pv 4) (pa_cons (pv 5) pa_nil))))))) pa_nil))))), ?_⟩
  walk_at "qq"
  refine g_lenT ha ?_
  walk_at "qq"
  refine ⟨_, _, _, rfl, hp, ?_⟩
  rw [decide_eq_true (by rw [List.length_map, l1, l2])]
  walk_at "qq"
  refine g_lcZipV rfl rfl ha hp ?_
  refine g_lcZ ha hp (by rw [List.length_map, l1, l2]) (by rw [List.length_map]; omega) (fun _ => .bl true) ?_ ?_ mono_two (fun _ _ _ _ m h => m _ _ h)
  · intro i x v T' H1 hx hy e1 hT S hS
    rw [List.getElem?_map] at hx
    obtain ⟨word, hword, rfl⟩ := Option.map_eq_some_iff.mp hx
    obtain ⟨it, hit, iv⟩ := pd_get pvs hy
    obtain ⟨it', hit', io⟩ := pd_get po hword
    rw [hit] at hit'
    cases hit'
    walk_at "gg"
    refine ⟨rfl, ?_⟩
    walk_at "gg"
    exact ⟨_, _, _, y, z, word, it, rfl, hw.tr (TrT.of e1), hv.tr (TrT.of e1), ho, shape_word r word (List.mem_of_getElem? hword), iv.tr (TrT.of e1), io, fun H3 e3 => hS H3 e3⟩
  · intro D H1 hD e1 h1
    walk_at "qq"
    refine g_allL (bs := (List.range ((shapeR r).map V.str).length).map fun _ => true) (by rw [h1, List.map_map]; rfl) ?_
    rw [show ((List.range ((shapeR r).map V.str).length).map fun _ => true).all id = true from List.all_eq_true.mpr fun b hb => by
      obtain ⟨_, _, rfl⟩ := List.mem_map.mp hb
      rfl]
    exact k _ e1
theorem ok_holds_for (T : Txt w K mg) : FnOk P w K mg base CX0 9 T.f_holds_for.f T.f_holds_for.fd ["library", "zone", "rule", "arguments"] (sp_holds_for K) := by
  refine T.f_holds_for.F.ok sc_holds_for (fun vs H Q E h => ?_) (fun cdv A outer s H vs Q E hr h => ?_)
  · obtain ⟨wv, zv, w, z, r, p, xs, its, rfl, _⟩ := h
    rfl
  obtain ⟨wv, zv, y, z, r, p, xs, its, rfl, hw, hv, ho, hp, pvs, po, k⟩ := h
  obtain ⟨a, ka, ha⟩ := shapesK T r
  refine ⟨(tSeq (tDrop (tCall (sp_check_library K) [] E0 (tCons (tVar 0) tNil))) (tSeq (tDrop (tCall (sp_check_zone K) [] E0 (tCons (tVar 1) tNil))) (tSeq (tDrop (tCall (sp_check_rule K) [] E0 (tCons (tVar 2) tNil))) (tSeq (tIfS (tNot (tB (tCall (sp_are_arguments K) [] E0 (tCons (tVar 0) (tCons (tVar 1) (tCons (tOp (rIxD K w) (tC (.ref T.a_SHAPES)) (tVar 2)) (tCons (tVar 3) tNil))))))) tNever tNext) (tRet (tCall (sp_is_true_of K) [] E0 (tCons (tVar 0) (tCons (tVar 1) (tCons (tVar 2) (tCons (tVar 3) tNil)))))))))),
    PSs.nox (pss_cons (ps_expr (pe_call (ok_check_library T) (hr.mono (by decide)) (by rfl) T.f_check_library.g T.f_check_library.F.kp T.f_check_library.b .nil pass0 (pa_cons (pv 0) pa_nil))) (pss_cons (ps_expr (pe_call (ok_check_zone T) (hr.mono (by decide)) (by rfl) T.f_check_zone.g T.f_check_zone.F.kp T.f_check_zone.b .nil pass0 (pa_cons (pv 1) pa_nil))) (pss_cons (ps_expr (pe_call (ok_check_rule T) (hr.mono (by decide)) (by rfl) T.f_check_rule.g T.f_check_rule.F.kp T.f_check_rule.b .nil pass0 (pa_cons (pv 2) pa_nil))) (pss_cons (ps_if (pt_not (pt_val (pe_call (ok_are_arguments T) (hr.mono (by decide)) (by rfl) T.f_are_arguments.g T.f_are_arguments.F.kp T.f_are_arguments.b .nil pass0 (pa_cons (pv 0) (pa_cons (pv 1) (pa_cons (pe_ix ix_kdict (pe_glob (by rfl) T.c_SHAPES rfl) (pv 2) (fun _ _ => rfl)) (pa_cons (pv 3) pa_nil))))))) (pss_one ps_never) pss_nil) (pss_one (ps_ret (pe_call (ok_is_true_of T) (hr.mono (by decide)) (by rfl) T.f_is_true_of.g T.f_is_true_of.F.kp T.f_is_true_of.b .nil pass0 (pa_cons (pv 0) (pa_cons (pv 1) (pa_cons (pv 2) (pa_cons (pv 3) pa_nil))))))))))), ?_⟩
  walk_at "qq"
  refine ⟨_, y, rfl, hw, ?_⟩
  walk_at "qq"
  refine ⟨_, z, rfl, hv, ho, ?_⟩
  walk_at "qq"
  refine ⟨r, rfl, ?_⟩
  walk_at "qq"
  refine g_ixD ka ?_
  walk_at "qq"
  refine ⟨_, _, y, z, r, a, p, xs, its, rfl, hw, hv, ho, ha _, hp, pvs, po, fun H1 e1 => ?_⟩
  walk_at "qq"
  exact ⟨_, _, y, z, r, p, xs, its, rfl, hw.tr (TrT.of e1), hv.tr (TrT.of e1), OkZ.of ho, Evl.ex_t e1 hp, L2.Paired.mapP pvs (fun _ _ q => q.tr (TrT.of e1)), po, fun H2 e2 => k _ (e1.trans e2)⟩
end
local macro_rules | `(tactic| walk_at "m") => `(tactic| first
  | with_reducible refine g_m1 ?_
  | with_reducible refine g_isS ?_
  | with_reducible refine g_lcStr ?_
  | with_reducible refine g_join ?_
  | with_reducible refine g_js ?_
  | with_reducible refine g_jsN ?_
  | with_reducible refine g_fmt ?_
  | with_reducible refine g_callLam ?_
  | with_reducible refine g_revT ?_)

/-! ### any data -/
inductive DaV (K : PySem.W.Frag) (H : Hp) : V → PyData → Prop
  | non : DaV K H .non .none
  | bl (b : Bool) : DaV K H (.bl b) (.bool b)
  | int (i : Int) : DaV K H (.int i) (.int i)
  | str (x : Str) : DaV K H (.str x) (.str x)
  | lst {a : Addr} {xs : List V} {ds : List PyData} : H a = some (.lst xs) → DaV K H (.ref a) (.list ds)
  | tup {a : Addr} {xs : List V} {ds : List PyData} : SqT K H a xs → xs.length = ds.length → (∀ (i : Nat) (x : V) (d : PyData), xs[i]? = some x → ds[i]? = some d → DaV K H x d) → DaV K H (.ref a) (.tuple ds)
theorem DaV.ex {K : PySem.W.Frag} {H H' : Hp} {v : V} {d : PyData} (h : DaV K H v d) (e : Ex H H') : DaV K H' v d := by
  induction h with
  | non => exact .non
  | bl b => exact .bl b
  | int i => exact .int i
  | str x => exact .str x
  | lst q => exact .lst (e _ _ q)
  | tup q l _ ih => exact .tup (Evl.ex_t e q) l ih
theorem dav_of_pair {K : PySem.W.Frag} {H : Hp} {v : V} {p : Int × Int} (h : PV K H v p) : DaV K H v (.tuple [.int p.1, .int p.2]) := by
  obtain ⟨a, rfl, h⟩ := h
  refine .tup h rfl fun i x d hx hd => ?_
  match i, hx, hd with
  | 0, hx, hd => cases hx; cases hd; exact .int _
  | 1, hx, hd => cases hx; cases hd; exact .int _
  | i + 2, hx, hd => simp at hx
theorem dav_of_zone {K : PySem.W.Frag} {H : Hp} {v : V} {z : Zone} (h : ZV K H v z) : DaV K H v (.tuple [.int z.1, .tuple (z.2.map fun p => .tuple [.int p.1, .int p.2])]) := by
  obtain ⟨a, c, rfl, q, b, xs, rfl, hb, hp⟩ := h
  refine .tup q rfl fun i x d hx hd => ?_
  match i, hx, hd with
  | 0, hx, hd => cases hx; cases hd; exact .int _
  | 1, hx, hd =>
    cases hx; cases hd
    refine .tup hb (by rw [List.length_map]; exact Paired.length hp) fun j x d hx hd => ?_
    obtain ⟨p, hp', f⟩ := pd_get hp hx
    rw [List.getElem?_map, hp'] at hd
    cases hd
    exact dav_of_pair f
  | i + 2, hx, hd => simp at hx
def betD (d : PyData) (lo hi : Int) : Bool := match d with
  | .int v => decide (lo ≤ v ∧ v ≤ hi)
  | _ => false
def tupN (d : PyData) (n : Int) : Bool := match d with
  | .tuple ds => decide ((ds.length : Int) = n)
  | _ => false
def okCD (b e : Int) (d : PyData) : Bool := match d with
  | .tuple [.int i, .int o] => okC b e (i, o)
  | _ => false
def okGoD : Int → Int → List PyData → Bool
  | _, _, [] => true
  | b, e, d :: r => okCD b e d && (match d with
    | .tuple [.int i, .int o] => okGoD o (i + 12) r
    | _ => false)
def restGo (d : PyData) (r : List PyData) : Bool := match d with
  | .tuple [.int i, .int o] => okGoD o (i + 12) r
  | _ => false
theorem okGoD_cons (b e : Int) (d : PyData) (r : List PyData) : okGoD b e (d :: r) = (okCD b e d && restGo d r) := by
  unfold restGo
  rfl
def okZD (d : PyData) : Bool := match d with
  | .tuple [.int o, .tuple cs] => decide (-12 ≤ o ∧ o ≤ 12) && (decide (cs.length ≤ 8) && okGoD o (-1000) cs)
  | _ => false
theorem two_of {α : Type} {xs : List α} (h : (xs.length : Int) = 2) : ∃ a b, xs = [a, b] := by
  match xs, h with
  | [a, b], _ => exact ⟨a, b, rfl⟩
  | [], h => cases h
  | [_], h => cases h
  | _ :: _ :: _ :: _, h => simp only [List.length_cons] at h; omega
theorem bet_int {d : PyData} {lo hi : Int} (h : betD d lo hi = true) : ∃ i, d = .int i ∧ lo ≤ i ∧ i ≤ hi := by
  cases d with
  | int i => exact ⟨i, rfl, of_decide_eq_true h⟩
  | _ => cases h
theorem dav_int {K : PySem.W.Frag} {H : Hp} {v : V} {i : Int} (h : DaV K H v (.int i)) : v = .int i := by cases h; rfl
/-- a pair of data -/
theorem dav_two {K : PySem.W.Frag} {H : Hp} {v : V} {d : PyData} (h : DaV K H v d) (t : tupN d 2 = true) : ∃ a x y p q, v = .ref a ∧ d = .tuple [p, q] ∧ SqT K H a [x, y] ∧ DaV K H x p ∧ DaV K H y q := by
  cases h with
  | tup hq l ih =>
    obtain ⟨p, q, rfl⟩ := two_of (of_decide_eq_true t)
    obtain ⟨x, y, rfl⟩ := two_of (by rw [l]; exact of_decide_eq_true t)
    exact ⟨_, x, y, p, q, rfl, rfl, hq, ih 0 x p rfl rfl, ih 1 y q rfl rfl⟩
  | _ => cases t
theorem okCD_not {b e : Int} {d : PyData} (h : tupN d 2 = false) : okCD b e d = false := by
  unfold okCD
  split
  · cases h
  · rfl
theorem okCD_pair {b e : Int} {p q : PyData} : okCD b e (.tuple [p, q]) = (betD p e 1000 && (betD q (-15) 15 && (match q with
    | .int o => decide (1 ≤ (o - b).natAbs ∧ (o - b).natAbs ≤ 3)
    | _ => false))) := by
  cases p <;> cases q <;> first | rfl | simp [okCD, betD]
theorem okCD_of {b e : Int} {d : PyData} (h : okCD b e d = true) : ∃ i o, d = .tuple [.int i, .int o] ∧ okC b e (i, o) = true := by
  unfold okCD at h
  split at h
  · exact ⟨_, _, rfl, h⟩
  · cases h
theorem okZD_not {d : PyData} (h : tupN d 2 = false) : okZD d = false := by
  unfold okZD
  split
  · cases h
  · rfl
theorem pd_of {α β : Type} {F : α → β → Prop} : ∀ {xs : List α} {ys : List β}, xs.length = ys.length → (∀ (i : Nat) (x : α) (y : β), xs[i]? = some x → ys[i]? = some y → F x y) → Paired F xs ys
  | [], [], _, _ => .nil
  | x :: xs, y :: ys, l, h => .cons (h 0 x y rfl rfl) (pd_of (Nat.succ.inj l) fun i a b h1 h2 => h (i + 1) a b h1 h2)
/-! ### promises -/
def sp_is_between_d (K : PySem.W.Frag) : Sp := fun vs H Q _ => ∃ (v : V) (d : PyData) (lo hi : Int), vs = [v, .int lo, .int hi] ∧ DaV K H v d ∧ Q (.bl (betD d lo hi)) H
def sp_is_tuple_of_d (K : PySem.W.Frag) : Sp := fun vs H Q _ => ∃ (n : Int) (v : V) (d : PyData), vs = [.int n, v] ∧ DaV K H v d ∧ Q (.bl (tupN d n)) H
def sp_is_change_after_d (K : PySem.W.Frag) : Sp := fun vs H Q _ => ∃ (b e : Int) (v : V) (d : PyData), vs = [.int b, .int e, v] ∧ DaV K H v d ∧ Q (.bl (okCD b e d)) H
def sp_are_changes_after_d (K : PySem.W.Frag) : Sp := fun vs H Q _ => ∃ (o : Int) (a : Addr) (xs : List V) (ds : List PyData), vs = [.int o, .ref a] ∧ SqT K H a xs ∧ Paired (DaV K H) xs ds ∧ Q (.bl (okGoD o (-1000) ds)) H
def sp_is_zone_d (K : PySem.W.Frag) : Sp := fun vs H Q _ => ∃ (v : V) (d : PyData), vs = [v] ∧ DaV K H v d ∧ Q (.bl (okZD d)) H
section
variable {P : Program} {w : World} {K : PySem.W.Frag} {mg : Str → Option Value} {base : Heap}
theorem ok_is_between_d (T : Txt w K mg) : FnOk P w K mg base CX0 1 T.f_is_between.f T.f_is_between.fd ["value", "low", "high"] (sp_is_between_d K) := by
  refine T.f_is_between.F.ok sc_is_between (fun vs H Q E h => ?_) (fun cdv A outer s H vs Q E hr h => ?_)
  · obtain ⟨v, d, lo, hi, rfl, _⟩ := h
    rfl
  obtain ⟨v, d, lo, hi, rfl, hv, k⟩ := h
  refine ⟨(tSeq (tIfS (tOr (tNot (tB (tCB (rIsi K) (tCons (tVar 0) (tCons (tC (.ty "int")) tNil))))) (tB (tCB (rIsi K) (tCons (tVar 0) (tCons (tC (.ty "bool")) tNil))))) (tRet (tC (.bl false))) tNext) (tRet (tChain (rI0 fun i j => .bl (decide (i ≤ j))) (rI0 fun i j => .bl (decide (i ≤ j))) (tVar 1) (tVar 0) (tVar 2)))),
    PSs.nox (pss_cons (ps_if (PW.pt (pw_or (pt_not (pt_val (pe_callB call_isi (by rfl) T.z_isinstance (by decide +kernel) (pa_cons (pv 0) (pa_cons (pe_bltn (by rfl) T.z_int (by decide +kernel) rfl) pa_nil))))) (pw_or1 (pt_val (pe_callB call_isi (by rfl) T.z_isinstance (by decide +kernel) (pa_cons (pv 0) (pa_cons (pe_bltn (by rfl) T.z_bool (by decide +kernel) rfl) pa_nil))))))) (pss_one (ps_ret pe_bl)) pss_nil) (pss_one (ps_ret (pe_chain op_le op_le (pv 1) (pv 0) (pv 2))))), ?_⟩
  walk_at "gg"
  cases hv with
  | non =>
    refine g_isi ty_non (by decide +kernel : kitB "NoneType" "int" = some false) ?_
    walk_at "gg"
    exact k
  | bl b =>
    refine g_isi ty_bl (by decide +kernel : kitB "bool" "int" = some true) ?_
    walk_at "gg"
    refine g_isi ty_bl (by decide +kernel : kitB "bool" "bool" = some true) ?_
    walk_at "gg"
    exact k
  | int i =>
    refine g_isi ty_int (by decide +kernel : kitB "int" "int" = some true) ?_
    walk_at "gg"
    refine g_isi ty_int (by decide +kernel : kitB "int" "bool" = some false) ?_
    walk_at "gg"
    have k : Q (.bl (decide (lo ≤ i ∧ i ≤ hi))) H := k
    refine if_d (fun c => ?_) (fun c => ?_)
    · walk_at "gg"
      rw [show decide (i ≤ hi) = decide (lo ≤ i ∧ i ≤ hi) from decide_eq_decide.mpr ⟨fun h => ⟨c, h⟩, fun h => h.2⟩]
      exact k
    · rw [decide_eq_false (fun h => c h.1)] at k
      exact k
  | str x =>
    refine g_isi ty_str (by decide +kernel : kitB "str" "int" = some false) ?_
    walk_at "gg"
    exact k
  | lst q =>
    refine g_isi (ty_lst q) (by decide +kernel : kitB "list" "int" = some false) ?_
    walk_at "gg"
    exact k
  | tup q l ih =>
    refine g_isi (ty_tup q) (by decide +kernel : kitB "tuple" "int" = some false) ?_
    walk_at "gg"
    exact k
theorem ok_is_tuple_of_d (T : Txt w K mg) : FnOk P w K mg base CX0 1 T.f_is_tuple_of.f T.f_is_tuple_of.fd ["many", "value"] (sp_is_tuple_of_d K) := by
  refine T.f_is_tuple_of.F.ok sc_is_tuple_of (fun vs H Q E h => ?_) (fun cdv A outer s H vs Q E hr h => ?_)
  · obtain ⟨n, v, d, rfl, _⟩ := h
    rfl
  obtain ⟨n, v, d, rfl, hv, k⟩ := h
  refine ⟨(tRet (tAndV (tCB (rIsi K) (tCons (tVar 1) (tCons (tC (.ty "tuple")) tNil))) (tOp rEq (tCB (Evl.rLenS K) (tCons (tVar 1) tNil)) (tVar 0)))),
    PSs.nox (pss_one (ps_ret (pe_and (pe_callB call_isi (by rfl) T.z_isinstance (by decide +kernel) (pa_cons (pv 1) (pa_cons (pe_bltn (by rfl) T.z_tuple (by decide +kernel) rfl) pa_nil))) (pe_one (pe_cmpR op_eq (pe_callB call_len_seq (by rfl) T.z_len (by decide +kernel) (pa_cons (pv 1) pa_nil)) (pv 0) (nomark _)))))), ?_⟩
  walk_at "gg"
  cases hv with
  | non =>
    refine g_isi ty_non (by decide +kernel : kitB "NoneType" "tuple" = some false) ?_
    walk_at "gg"
    exact k
  | bl b =>
    refine g_isi ty_bl (by decide +kernel : kitB "bool" "tuple" = some false) ?_
    walk_at "gg"
    exact k
  | int i =>
    refine g_isi ty_int (by decide +kernel : kitB "int" "tuple" = some false) ?_
    walk_at "gg"
    exact k
  | str x =>
    refine g_isi ty_str (by decide +kernel : kitB "str" "tuple" = some false) ?_
    walk_at "gg"
    exact k
  | lst q =>
    refine g_isi (ty_lst q) (by decide +kernel : kitB "list" "tuple" = some false) ?_
    walk_at "gg"
    exact k
  | tup q l ih =>
    refine g_isi (ty_tup q) (by decide +kernel : kitB "tuple" "tuple" = some true) ?_
    walk_at "gg"
    refine g_lenT q ?_
    walk_at "gg"
    rw [l]
    exact k
theorem ok_is_change_after_d (T : Txt w K mg) : FnOk P w K mg base CX0 2 T.f_is_change_after.f T.f_is_change_after.fd ["before", "earliest", "value"] (sp_is_change_after_d K) := by
  refine T.f_is_change_after.F.ok sc_is_change_after (fun vs H Q E h => ?_) (fun cdv A outer s H vs Q E hr h => ?_)
  · obtain ⟨b, e, v, d, rfl, _⟩ := h
    rfl
  obtain ⟨b, e, v, d, rfl, hv, k⟩ := h
  refine ⟨(tSeq (tIfS (tNot (tB (tCall (sp_is_tuple_of_d K) [] E0 (tCons (tC (.int 2)) (tCons (tVar 2) tNil))))) (tRet (tC (.bl false))) tNext) (tSeq (tAsg (tVar 2) (gTup K 2 (gCons (gName 3) (gCons (gName 4) gNil)))) (tSeq (tIfS (tNot (tB (tCall (sp_is_between_d K) [] E0 (tCons (tVar 3) (tCons (tVar 1) (tCons (tC (.int 1000)) tNil)))))) (tRet (tC (.bl false))) tNext) (tSeq (tIfS (tNot (tB (tCall (sp_is_between_d K) [] E0 (tCons (tVar 4) (tCons (tUn (rU fun i => .int (-i)) (tC (.int 15))) (tCons (tC (.int 15)) tNil)))))) (tRet (tC (.bl false))) tNext) (tRet (tChain (rI0 fun i j => .bl (decide (i ≤ j))) (rI0 fun i j => .bl (decide (i ≤ j))) (tC (.int 1)) (tCB r_abs (tCons (tOp (rI0 fun i j => .int (i - j)) (tVar 4) (tVar 0)) tNil)) (tC (.int 3)))))))),
    PSs.nox (pss_cons (ps_if (pt_not (pt_val (pe_call (ok_is_tuple_of_d T) (hr.mono (by decide)) (by rfl) T.f_is_tuple_of.g T.f_is_tuple_of.F.kp T.f_is_tuple_of.b .nil pass0 (pa_cons pe_int (pa_cons (pv 2) pa_nil))))) (pss_one (ps_ret pe_bl)) pss_nil) (pss_cons (ps_asg (pv 2) (pg_tup rfl (pgs_cons (pg_name (i := 3) sc_is_change_after.nd rfl (Or.inl rfl)) (pgs_cons (pg_name (i := 4) sc_is_change_after.nd rfl (Or.inl rfl)) pgs_nil)))) (pss_cons (ps_if (pt_not (pt_val (pe_call (ok_is_between_d T) (hr.mono (by decide)) (by rfl) T.f_is_between.g T.f_is_between.F.kp T.f_is_between.b .nil pass0 (pa_cons (pv 3) (pa_cons (pv 1) (pa_cons (pe_glob (by rfl) T.c_MOST_CHANGE_INSTANT ⟨_, rfl⟩) pa_nil)))))) (pss_one (ps_ret pe_bl)) pss_nil) (pss_cons (ps_if (pt_not (pt_val (pe_call (ok_is_between_d T) (hr.mono (by decide)) (by rfl) T.f_is_between.g T.f_is_between.F.kp T.f_is_between.b .nil pass0 (pa_cons (pv 4) (pa_cons (pe_un un_neg (pe_glob (by rfl) T.c_MOST_LATER_OFFSET ⟨_, rfl⟩)) (pa_cons (pe_glob (by rfl) T.c_MOST_LATER_OFFSET ⟨_, rfl⟩) pa_nil)))))) (pss_one (ps_ret pe_bl)) pss_nil) (pss_one (ps_ret (pe_chain op_le op_le pe_int (pe_callB call_abs (by rfl) T.z_abs (by decide +kernel) (pa_cons (pe_op op_sub (pv 4) (pv 0)) pa_nil)) (pe_glob (by rfl) T.c_MOST_STEP ⟨_, rfl⟩)))))))), ?_⟩
  walk_at "gg"
  refine ⟨2, v, d, rfl, hv, ?_⟩
  cases c0 : tupN d 2 with
  | false =>
    rw [okCD_not c0] at k
    walk_at "gg"
    exact k
  | true =>
    obtain ⟨a, x, y, p, q, rfl, rfl, ha, hx, hy⟩ := dav_two hv c0
    rw [okCD_pair] at k
    walk_at "gg"
    refine ⟨x, p, _, _, rfl, hx, ?_⟩
    cases c1 : betD p e 1000 with
    | false =>
      rw [c1] at k
      walk_at "gg"
      exact k
    | true =>
      rw [c1] at k
      walk_at "gg"
      refine ⟨y, q, _, _, rfl, hy, ?_⟩
      cases c2 : betD q (-15) 15 with
      | false =>
        rw [c2] at k
        walk_at "gg"
        exact k
      | true =>
        rw [c2] at k
        obtain ⟨o, rfl, _, _⟩ := bet_int c2
        cases dav_int hy
        walk_at "gg"
        have k : Q (.bl (decide (1 ≤ (o - b).natAbs ∧ (o - b).natAbs ≤ 3))) H := k
        refine if_d (fun c3 => ?_) (fun c3 => ?_)
        · walk_at "gg"
          rw [show decide ((if o - b < 0 then -(o - b) else o - b) ≤ 3) = decide (1 ≤ (o - b).natAbs ∧ (o - b).natAbs ≤ 3) from decide_eq_decide.mpr (by split at c3 <;> split <;> omega)]
          exact k
        · rw [show (decide (1 ≤ (o - b).natAbs ∧ (o - b).natAbs ≤ 3)) = false from decide_eq_false (by split at c3 <;> omega)] at k
          exact k
theorem ok_are_changes_after_d (T : Txt w K mg) : FnOk P w K mg base CX0 3 T.f_are_changes_after.f T.f_are_changes_after.fd ["offset", "changes"] (sp_are_changes_after_d K) := by
  refine T.f_are_changes_after.F.ok sc_are_changes_after (fun vs H Q E h => ?_) (fun cdv A outer s H vs Q E hr h => ?_)
  · obtain ⟨o, a, xs, ds, rfl, _⟩ := h
    rfl
  obtain ⟨o, a, xs, ds, rfl, ha, hp, k⟩ := h
  refine ⟨(tSeq (tAsg (tUn (rU fun i => .int (-i)) (tC (.int 1000))) (gName 2)) (tSeq (tFor (iTup K (tVar 1)) (gName 3) (tSeq (tIfS (tNot (tB (tCall (sp_is_change_after_d K) [] E0 (tCons (tVar 0) (tCons (tVar 2) (tCons (tVar 3) tNil)))))) (tRet (tC (.bl false))) tNext) (tSeq (tAsg (tVar 3) (gTup K 2 (gCons (gName 4) (gCons (gName 0) gNil)))) (tAsg (tOp (rI0 fun i j => .int (i + j)) (tVar 4) (tC (.int 12))) (gName 2))))) (tRet (tC (.bl true))))),
    PSs.nox (pss_cons (ps_set (i := 2) sc_are_changes_after.nd rfl (Or.inl rfl) (pe_un un_neg (pe_glob (by rfl) T.c_MOST_CHANGE_INSTANT ⟨_, rfl⟩))) (pss_cons (ps_for PassesOwn.never rfl (pi_tup (pv 1)) (pg_name (i := 3) sc_are_changes_after.nd rfl (Or.inl rfl)) (pss_cons (ps_if (pt_not (pt_val (pe_call (ok_is_change_after_d T) (hr.mono (by decide)) (by rfl) T.f_is_change_after.g T.f_is_change_after.F.kp T.f_is_change_after.b .nil pass0 (pa_cons (pv 0) (pa_cons (pv 2) (pa_cons (pv 3) pa_nil)))))) (pss_one (ps_ret pe_bl)) pss_nil) (pss_cons (ps_asg (pv 3) (pg_tup rfl (pgs_cons (pg_name (i := 4) sc_are_changes_after.nd rfl (Or.inl rfl)) (pgs_cons (pg_name (i := 0) sc_are_changes_after.nd rfl (Or.inl rfl)) pgs_nil)))) (pss_one (ps_set (i := 2) sc_are_changes_after.nd rfl (Or.inl rfl) (pe_op op_add (pv 4) (pe_glob (by rfl) T.c_LEAST_DISTANCE ⟨_, rfl⟩))))))) (pss_one (ps_ret pe_bl)))), ?_⟩
  walk_at "gg"
  refine g_forT (F := DaV K) ha hp (fun l σ' H' => H' = H ∧ ∃ o' e' c0 i0, okGoD o' e' l = okGoD o (-1000) ds ∧ σ' = [some (.int o'), some (.ref a), some (.int e'), c0, i0])
    ⟨rfl, _, _, _, _, rfl, rfl⟩ (fun _ _ _ q => by rw [q.1]; exact ⟨ha, fun _ _ h => h⟩) ?_ ?_
  · rintro d l x σ' H' ⟨rfl, o', e', c0, i0, q, rfl⟩ hv
    rw [okGoD_cons] at q
    walk_at "gg"
    refine ⟨_, _, _, d, rfl, hv, ?_⟩
    walk_at "gg"
    cases c1 : okCD o' e' d with
    | true =>
      rw [c1] at q
      obtain ⟨i, oo, rfl, _⟩ := okCD_of c1
      obtain ⟨a2, x2, y2, p2, q2, rfl, e2, ha2, hx2, hy2⟩ := dav_two hv rfl
      cases e2
      cases dav_int hx2
      cases dav_int hy2
      walk_at "gg"
      exact ⟨rfl, _, _, _, _, q, rfl⟩
    | false =>
      rw [c1] at q
      walk_at "gg"
      rw [← q] at k
      exact k
  · rintro σ' H' ⟨rfl, o', e', c0, i0, q, rfl⟩
    walk_at "gg"
    rw [← q] at k
    exact k
theorem ok_is_zone_d (T : Txt w K mg) : FnOk P w K mg base CX0 4 T.f_is_zone.f T.f_is_zone.fd ["value"] (sp_is_zone_d K) := by
  refine T.f_is_zone.F.ok sc_is_zone (fun vs H Q E h => ?_) (fun cdv A outer s H vs Q E hr h => ?_)
  · obtain ⟨v, d, rfl, _⟩ := h
    rfl
  obtain ⟨v, d, rfl, hv, k⟩ := h
  refine ⟨(tSeq (tIfS (tNot (tB (tCall (sp_is_tuple_of_d K) [] E0 (tCons (tC (.int 2)) (tCons (tVar 0) tNil))))) (tRet (tC (.bl false))) tNext) (tSeq (tAsg (tVar 0) (gTup K 2 (gCons (gName 1) (gCons (gName 2) gNil)))) (tSeq (tIfS (tNot (tB (tCall (sp_is_between_d K) [] E0 (tCons (tVar 1) (tCons (tUn (rU fun i => .int (-i)) (tC (.int 12))) (tCons (tC (.int 12)) tNil)))))) (tRet (tC (.bl false))) tNext) (tSeq (tIfS (tOr (tNot (tB (tCB (rIsi K) (tCons (tVar 2) (tCons (tC (.ty "tuple")) tNil))))) (tTest (tOp (rI0 fun i j => .bl (decide (j < i))) (tCB (Evl.rLenS K) (tCons (tVar 2) tNil)) (tC (.int 8))))) (tRet (tC (.bl false))) tNext) (tRet (tCall (sp_are_changes_after_d K) [] E0 (tCons (tVar 1) (tCons (tVar 2) tNil)))))))),
    PSs.nox (pss_cons (ps_if (pt_not (pt_val (pe_call (ok_is_tuple_of_d T) (hr.mono (by decide)) (by rfl) T.f_is_tuple_of.g T.f_is_tuple_of.F.kp T.f_is_tuple_of.b .nil pass0 (pa_cons pe_int (pa_cons (pv 0) pa_nil))))) (pss_one (ps_ret pe_bl)) pss_nil) (pss_cons (ps_asg (pv 0) (pg_tup rfl (pgs_cons (pg_name (i := 1) sc_is_zone.nd rfl (Or.inl rfl)) (pgs_cons (pg_name (i := 2) sc_is_zone.nd rfl (Or.inl rfl)) pgs_nil)))) (pss_cons (ps_if (pt_not (pt_val (pe_call (ok_is_between_d T) (hr.mono (by decide)) (by rfl) T.f_is_between.g T.f_is_between.F.kp T.f_is_between.b .nil pass0 (pa_cons (pv 1) (pa_cons (pe_un un_neg (pe_glob (by rfl) T.c_MOST_FIRST_OFFSET ⟨_, rfl⟩)) (pa_cons (pe_glob (by rfl) T.c_MOST_FIRST_OFFSET ⟨_, rfl⟩) pa_nil)))))) (pss_one (ps_ret pe_bl)) pss_nil) (pss_cons (ps_if (PW.pt (pw_or (pt_not (pt_val (pe_callB call_isi (by rfl) T.z_isinstance (by decide +kernel) (pa_cons (pv 2) (pa_cons (pe_bltn (by rfl) T.z_tuple (by decide +kernel) rfl) pa_nil))))) (pw_or1 (pt_cmpR op_gt (pe_callB call_len_seq (by rfl) T.z_len (by decide +kernel) (pa_cons (pv 2) pa_nil)) (pe_glob (by rfl) T.c_MOST_CHANGES ⟨_, rfl⟩) (nomark _))))) (pss_one (ps_ret pe_bl)) pss_nil) (pss_one (ps_ret (pe_call (ok_are_changes_after_d T) (hr.mono (by decide)) (by rfl) T.f_are_changes_after.g T.f_are_changes_after.F.kp T.f_are_changes_after.b .nil pass0 (pa_cons (pv 1) (pa_cons (pv 2) pa_nil))))))))), ?_⟩
  walk_at "gg"
  refine ⟨2, v, d, rfl, hv, ?_⟩
  cases c0 : tupN d 2 with
  | false =>
    rw [okZD_not c0] at k
    walk_at "gg"
    exact k
  | true =>
    obtain ⟨a, x, y, p, q, rfl, rfl, ha, hx, hy⟩ := dav_two hv c0
    walk_at "gg"
    refine ⟨x, p, _, _, rfl, hx, ?_⟩
    cases c1 : betD p (-12) 12 with
    | false =>
      have e : okZD (.tuple [p, q]) = false := by
        unfold okZD
        split
        next o cs h =>
          injection h with h
          injection h with h1 h2
          subst h1
          rw [show decide (-12 ≤ o ∧ o ≤ 12) = false from c1]
          rfl
        · rfl
      rw [e] at k
      walk_at "gg"
      exact k
    | true =>
      obtain ⟨o, rfl, _, _⟩ := bet_int c1
      cases dav_int hx
      walk_at "gg"
      cases hy with
      | tup hb l ih =>
        rename_i b ys ds
        refine g_isi (ty_tup hb) (by decide +kernel : kitB "tuple" "tuple" = some true) ?_
        walk_at "gg"
        refine g_lenT hb ?_
        walk_at "gg"
        have k : Q (.bl (decide (-12 ≤ o ∧ o ≤ 12) && (decide (ds.length ≤ 8) && okGoD o (-1000) ds))) H := k
        rw [show decide (-12 ≤ o ∧ o ≤ 12) = true from c1, Bool.true_and] at k
        rw [l]
        refine if_d (fun c2 => ?_) (fun c2 => ?_)
        · walk_at "gg"
          rw [decide_eq_false (by omega : ¬ ds.length ≤ 8)] at k
          exact k
        · walk_at "gg"
          rw [decide_eq_true (by omega : ds.length ≤ 8)] at k
          exact ⟨_, _, _, ds, rfl, hb, pd_of l ih, k⟩
      | non =>
        refine g_isi ty_non (by decide +kernel : kitB "NoneType" "tuple" = some false) ?_
        walk_at "gg"
        exact k
      | bl b =>
        refine g_isi ty_bl (by decide +kernel : kitB "bool" "tuple" = some false) ?_
        walk_at "gg"
        exact k
      | int i =>
        refine g_isi ty_int (by decide +kernel : kitB "int" "tuple" = some false) ?_
        walk_at "gg"
        exact k
      | str x =>
        refine g_isi ty_str (by decide +kernel : kitB "str" "tuple" = some false) ?_
        walk_at "gg"
        exact k
      | lst q =>
        refine g_isi (ty_lst q) (by decide +kernel : kitB "list" "tuple" = some false) ?_
        walk_at "gg"
        exact k
end
local macro_rules | `(tactic| walk_at "m") => `(tactic| first
  | with_reducible refine g_m1 ?_
  | with_reducible refine g_isS ?_
  | with_reducible refine g_lcStr ?_
  | with_reducible refine g_join ?_
  | with_reducible refine g_js ?_
  | with_reducible refine g_jsN ?_
  | with_reducible refine g_fmt ?_
  | with_reducible refine g_callLam ?_
  | with_reducible refine g_revT ?_)

/-! ### mirrors -/
def optI : Option Int → V
  | none => .non
  | some i => .int i
def optD : Option Int → PyData
  | none => .none
  | some i => .int i
def chV (w : Str) : List V := (Txt.split w ":").map fun x => optI (intOf x)
def chD (w : Str) : PyData := .tuple ((Txt.split w ":").map fun x => optD (intOf x))
def readD (t : Str) : PyData := match Txt.split t " " with
  | [] => .none
  | f :: r => .tuple [optD (intOf f), .tuple (r.map chD)]
def encP (p : Int × Int) : PyData := .tuple [.int p.1, .int p.2]
def encZ (z : Zone) : PyData := .tuple [.int z.1, .tuple (z.2.map encP)]
def chT (p : Int × Int) : Str := (toString p.1 : Str) ++ ":" ++ (toString p.2 : Str)
def partsZ (z : Zone) : List Str := (toString z.1 : Str) :: z.2.map chT
def textZ (z : Zone) : Str := Txt.join " " (partsZ z)
theorem dav_opt {K : PySem.W.Frag} {H : Hp} (o : Option Int) : DaV K H (optI o) (optD o) := by
  cases o with
  | none => exact .non
  | some i => exact .int i
/-- a tuple of what the parts of a word write -/
def ChV (K : PySem.W.Frag) (H : Hp) (v : V) (w : Str) : Prop := ∃ a, v = .ref a ∧ SqT K H a (chV w)
theorem ChV.tr {K : PySem.W.Frag} {H H' : Hp} {v : V} {w : Str} (e : TrT K H H') (h : ChV K H v w) : ChV K H' v w := by
  obtain ⟨a, q, h⟩ := h
  exact ⟨a, q, e _ _ h⟩
theorem ChV.dav {K : PySem.W.Frag} {H : Hp} {v : V} {w : Str} (h : ChV K H v w) : DaV K H v (chD w) := by
  obtain ⟨a, rfl, h⟩ := h
  refine .tup h (by simp [chV]) fun i x d hx hd => ?_
  unfold chV at hx
  rw [List.getElem?_map] at hx hd
  cases e : (Txt.split w ":")[i]? with
  | none => rw [e] at hx; cases hx
  | some y =>
    rw [e] at hx hd
    cases hx
    cases hd
    exact dav_opt _
theorem spl_ne (S : List Nat) : ∀ (l : List Nat) (n : Nat) (acc : List Nat), TL.spl S n acc l ≠ []
  | [], n, acc => by rw [TL.spl_nil]; simp
  | c :: r, 0, acc => by
    by_cases h : TL.pre S (c :: r) = true
    · rw [TL.spl_hit h]; simp
    · rw [TL.spl_miss (by simpa using h)]
      exact spl_ne S r 0 _
  | c :: r, n + 1, acc => spl_ne S r n acc
theorem split_ne (t : Str) : Txt.split t " " ≠ [] := fun e => by
  have q := TL.split_spl t " " (by decide +kernel) (TL.kind_ok (by decide +kernel))
  rw [e] at q
  exact spl_ne _ _ _ _ q.symm
theorem chV_of {w : Str} {p : Int × Int} (h : chD w = encP p) : chV w = [.int p.1, .int p.2] := by
  unfold chD encP at h
  injection h with h
  have key : ∀ (l : List Str) (ds : List PyData), l.map (fun x => optD (intOf x)) = ds → ds = [.int p.1, .int p.2] → l.map (fun x => optI (intOf x)) = [.int p.1, .int p.2] := by
    intro l ds e e2
    subst e2
    match l, e with
    | [a, b], e =>
      have e1 : optD (intOf a) = .int p.1 := by injection e
      have e2 : optD (intOf b) = .int p.2 := by injection e with _ e; injection e
      have o : ∀ {o : Option Int} {i : Int}, optD o = .int i → optI o = .int i := fun {o i} h => by
        cases o with
        | none => cases h
        | some j => injection h with h; rw [h]; rfl
      show [optI (intOf a), optI (intOf b)] = _
      rw [o e1, o e2]
    | [], e => cases e
    | [_], e => injection e with _ e; cases e
    | _ :: _ :: _ :: _, e => injection e with _ e; injection e with _ e; cases e
  exact key _ _ h rfl
theorem dav_pair {K : PySem.W.Frag} {H : Hp} {v : V} {p : Int × Int} (h : DaV K H v (encP p)) : PV K H v p := by
  obtain ⟨a, x, y, d1, d2, rfl, e, q, h1, h2⟩ := dav_two h rfl
  unfold encP at e
  injection e with e
  injection e with e1 e
  injection e with e2 _
  subst e1 e2
  cases dav_int h1
  cases dav_int h2
  exact ⟨a, rfl, q⟩
theorem dav_zone {K : PySem.W.Frag} {H : Hp} {v : V} {z : Zone} (h : DaV K H v (encZ z)) : ZV K H v z := by
  obtain ⟨a, x, y, d1, d2, rfl, e, q, h1, h2⟩ := dav_two h rfl
  unfold encZ at e
  injection e with e
  injection e with e1 e
  injection e with e2 _
  subst e1 e2
  cases dav_int h1
  refine ⟨a, y, rfl, q, ?_⟩
  cases h2 with
  | tup hb l ih =>
    refine ⟨_, _, rfl, hb, pd_of (by rw [l, List.length_map]) fun i x p hx hp => ?_⟩
    exact dav_pair (ih i x _ hx (by rw [List.getElem?_map, hp]; rfl))
structure BoZ (z : Zone) : Prop where
  o1 : -12 ≤ z.1
  o2 : z.1 ≤ 12
  l : z.2.length ≤ 8
  c : ∀ p ∈ z.2, -1000 ≤ p.1 ∧ p.1 ≤ 1000 ∧ -15 ≤ p.2 ∧ p.2 ≤ 15
theorem okGo_bo : ∀ {b e : Int} {cs : List (Int × Int)}, okGo b e cs = true → -1000 ≤ e → ∀ p ∈ cs, -1000 ≤ p.1 ∧ p.1 ≤ 1000 ∧ -15 ≤ p.2 ∧ p.2 ≤ 15
  | _, _, [], _, _, _, h => nomatch h
  | b, e, p :: r, h, he, q, hq => by
    rw [okGo_cons, Bool.and_eq_true] at h
    have h1 := h.1
    unfold okC at h1
    simp only [Bool.and_eq_true, decide_eq_true_eq] at h1
    rcases List.mem_cons.mp hq with rfl | hq
    · omega
    · exact okGo_bo h.2 (by omega) q hq
theorem BoZ.of {z : Zone} (h : okZ z = true) : BoZ z := by
  unfold okZ at h
  simp only [Bool.and_eq_true, decide_eq_true_eq] at h
  exact ⟨h.1.1, h.1.2, h.2.1, okGo_bo h.2.2 (by omega)⟩
theorem chT_len {p : Int × Int} (h : -1000 ≤ p.1 ∧ p.1 ≤ 1000 ∧ -15 ≤ p.2 ∧ p.2 ≤ 15) : (chT p).length ≤ 21 := by
  unfold chT
  rw [len_app, len_app]
  have h1 := str_len (i := p.1) (by omega)
  have h2 := str_len (i := p.2) (by omega)
  have h3 : (":" : Str).length = 1 := by decide +kernel
  omega
theorem sum_le {n : Nat} : ∀ {l : List Nat}, (∀ x ∈ l, x ≤ n) → l.sum ≤ l.length * n
  | [], _ => by simp
  | a :: r, h => by
    have ih := sum_le (l := r) fun x hx => h x (List.mem_cons_of_mem _ hx)
    have := h a List.mem_cons_self
    rw [List.sum_cons, List.length_cons, Nat.succ_mul]
    omega
theorem parts_len {z : Zone} (h : BoZ z) : ∀ p ∈ partsZ z, p.length ≤ 21 := fun p hp => by
  rcases List.mem_cons.mp hp with e | e
  · rw [e]
    have := str_len (i := z.1) (by have := h.o1; have := h.o2; omega)
    omega
  · obtain ⟨q, hq, rfl⟩ := List.mem_map.mp e
    exact chT_len (h.c q hq)
theorem join_ok {z : Zone} (h : BoZ z) : ((partsZ z).map (·.length)).sum + (partsZ z).length * (" " : Str).length ≤ 16777216 := by
  have e1 : (" " : Str).length = 1 := by decide +kernel
  have l9 : (partsZ z).length ≤ 9 := by
    unfold partsZ
    rw [List.length_cons, List.length_map]
    have := h.l
    omega
  have q := sum_le (n := 21) (l := (partsZ z).map (·.length)) fun x hx => by
    obtain ⟨p, hp, rfl⟩ := List.mem_map.mp hx
    exact parts_len h p hp
  rw [List.length_map] at q
  rw [e1]
  have : (partsZ z).length * 21 ≤ 9 * 21 := Nat.mul_le_mul_right _ l9
  omega
/-! ### promises -/
def sp_integer_of (K : PySem.W.Frag) : Sp := fun vs H Q _ => ∃ w : Str, vs = [.str w] ∧ w.length ≤ 100000 ∧ ∀ H', Ex H H' → Q (optI (intOf w)) H'
def sp_change_of (K : PySem.W.Frag) : Sp := fun vs H Q _ => ∃ w : Str, vs = [.str w] ∧ w.length ≤ 50000 ∧ ∀ p H', H p = none → Ex H H' → H' p = some (.tup (chV w)) → Q (.ref p) H'
def sp_check_text (K : PySem.W.Frag) : Sp := fun vs H Q _ => ∃ t : Str, vs = [.str t] ∧ Q .non H
def isStrD (d : PyData) : Bool := match d with
  | .str _ => true
  | _ => false
def sp_check_text_x {w : World} {K : PySem.W.Frag} {mg : Str → Option Value} (T : Txt w K mg) : Sp := fun vs H Q E => ∃ (v : V) (d : PyData), vs = [v] ∧ DaV K H v d ∧ (isStrD d = true → Q .non H) ∧ (isStrD d = false → E (.ref T.e_NotText) none H)
def sp_read_zone_x {w : World} {K : PySem.W.Frag} {mg : Str → Option Value} (T : Txt w K mg) : Sp := fun vs H Q E => ∃ (v : V) (d : PyData), vs = [v] ∧ DaV K H v d ∧ (isStrD d = false → E (.ref T.e_NotText) none H) ∧
  (isStrD d = true → ∃ t : Str, d = .str t ∧ t.length ≤ 1000 ∧ (okZD (readD t) = false → ∀ H', Ex H H' → E (.ref T.e_InvalidText) none H') ∧ (okZD (readD t) = true → ∀ zv H', Ex H H' → DaV K H' zv (readD t) → Q zv H'))
def sp_write_zone (K : PySem.W.Frag) : Sp := fun vs H Q _ => ∃ (zv : V) (z : Zone), vs = [zv] ∧ ZV K H zv z ∧ okZ z = true ∧ ∀ H', Ex H H' → Q (.str (textZ z)) H'
section
variable {P : Program} {w : World} {K : PySem.W.Frag} {mg : Str → Option Value} {base : Heap}
theorem ok_check_text (T : Txt w K mg) : FnOk P w K mg base CX0 1 T.f_check_text.f T.f_check_text.fd ["value"] (sp_check_text K) := by
  refine T.f_check_text.F.ok sc_check_text (fun vs H Q E h => ?_) (fun cdv A outer s H vs Q E hr h => ?_)
  · obtain ⟨t, rfl, _⟩ := h
    rfl
  obtain ⟨t, rfl, k⟩ := h
  refine ⟨(tIfS (tNot (tB (tCB (rIsi K) (tCons (tVar 0) (tCons (tC (.ty "str")) tNil))))) tNever tNext),
    PSs.nox (pss_one (ps_if (pt_not (pt_val (pe_callB call_isi (by rfl) T.z_isinstance (by decide +kernel) (pa_cons (pv 0) (pa_cons (pe_bltn (by rfl) T.z_str (by decide +kernel) rfl) pa_nil))))) (pss_one ps_never) pss_nil)), ?_⟩
  walk_at "gg"
  refine g_isi ty_str (by decide +kernel : kitB "str" "str" = some true) ?_
  walk_at "gg"
  exact k
theorem ok_check_text_x (T : Txt w K mg) : FnOk P w K mg base (L2.CX P w) 1 T.f_check_text.f T.f_check_text.fd ["value"] (sp_check_text_x T) := by
  refine T.f_check_text.F.ok sc_check_text (fun vs H Q E h => ?_) (fun cdv A outer s H vs Q E hr h => ?_)
  · obtain ⟨v, d, rfl, _⟩ := h
    rfl
  obtain ⟨v, d, rfl, hv, k1, k2⟩ := h
  refine ⟨(tIfS (tNot (tB (tCB (rIsi K) (tCons (tVar 0) (tCons (tC (.ty "str")) tNil))))) (fun _ σ H => E (.ref T.e_NotText) none H) tNext),
    (pss_one (ps_if (pt_not (pt_val (pe_callB call_isi (by rfl) T.z_isinstance (by decide +kernel) (pa_cons (pv 0) (pa_cons (pe_bltn (by rfl) T.z_str (by decide +kernel) rfl) pa_nil))))) (pss_one (ps_err rfl (takes_of rfl rfl rfl rfl) T.g_NotText T.x_NotText rfl)) pss_nil)), ?_⟩
  walk_at "gg"
  cases hv with
  | non =>
    refine g_isi ty_non (by decide +kernel : kitB "NoneType" "str" = some false) ?_
    walk_at "gg"
    exact k2 rfl
  | bl b =>
    refine g_isi ty_bl (by decide +kernel : kitB "bool" "str" = some false) ?_
    walk_at "gg"
    exact k2 rfl
  | int i =>
    refine g_isi ty_int (by decide +kernel : kitB "int" "str" = some false) ?_
    walk_at "gg"
    exact k2 rfl
  | str x =>
    refine g_isi ty_str (by decide +kernel : kitB "str" "str" = some true) ?_
    walk_at "gg"
    exact k1 rfl
  | lst q =>
    refine g_isi (ty_lst q) (by decide +kernel : kitB "list" "str" = some false) ?_
    walk_at "gg"
    exact k2 rfl
  | tup q l ih =>
    refine g_isi (ty_tup q) (by decide +kernel : kitB "tuple" "str" = some false) ?_
    walk_at "gg"
    exact k2 rfl
theorem ok_integer_of (T : Txt w K mg) : FnOk P w K mg base CX0 1 T.f_integer_of.f T.f_integer_of.fd ["word"] (sp_integer_of K) := by
  refine T.f_integer_of.F.ok sc_integer_of (fun vs H Q E h => ?_) (fun cdv A outer s H vs Q E hr h => ?_)
  · obtain ⟨t, rfl, _⟩ := h
    rfl
  obtain ⟨t, rfl, hl, k⟩ := h
  refine ⟨(tSeq (tAsg (tM1 rStrRemP (tVar 0) (tC (.str "-"))) (gName 1)) (tSeq (tIfS (tNot (tTest (tChain (rI0 fun i j => .bl (decide (i ≤ j))) (rI0 fun i j => .bl (decide (i ≤ j))) (tC (.int 1)) (tCB rLenStr (tCons (tVar 1) tNil)) (tC (.int 9))))) (tRet (tC .non)) tNext) (tSeq (tIfS (tNot (tB (tCB (rAll K) (tCons (tLc (iStr (tVar 1)) (gName 3) tYes (tOp rInSign (tVar 3) (tC (.str "0123456789"))) [3]) tNil)))) (tRet (tC .non)) tNext) (tSeq (tAsg (tCB rIntStr (tCons (tVar 0) tNil)) (gName 2)) (tRet (tIf (tTest (tOp rEq (tCB rStrInt (tCons (tVar 2) tNil)) (tVar 0))) (tVar 2) (tC .non))))))),
    PSs.nox (pss_cons (ps_set (i := 1) sc_integer_of.nd rfl (Or.inl rfl) (pe_m1 PySem.F.slot_str_removeprefix PySem.F.type_str_removeprefix mtRemP (pv 0) pe_str)) (pss_cons (ps_if (pt_not (pt_chain op_le op_le pe_int (pe_callB crLenStr (by rfl) T.z_len (by decide +kernel) (pa_cons (pv 1) pa_nil)) (pe_glob (by rfl) T.c_MOST_DIGITS ⟨_, rfl⟩))) (pss_one (ps_ret pe_non)) pss_nil) (pss_cons (ps_if (pt_not (pt_val (pe_callB (cr_all rfl) (by rfl) T.z_all (by decide +kernel) (pa_cons (pe_lc (own := [("sign", 3)]) rfl sc_integer_of.nd (pi_str (pv 1)) (blkOk_by (own := [("sign", 3)]) (N := ["word", "digits", "number", "sign"]) (sc := (defScope s_integer_of)) (by decide +kernel)) (fun _ _ _ _ _ => (pg_name (i := 3) sc_integer_of.nd rfl (Or.inl rfl))) (fun _ _ _ _ _ => pts_nil) (fun _ _ _ _ _ => (pe_cmpR opInSign (pv 3) (pe_glob (by rfl) T.c_DIGITS ⟨_, rfl⟩) (by rfl)))) pa_nil)))) (pss_one (ps_ret pe_non)) pss_nil) (pss_cons (ps_set (i := 2) sc_integer_of.nd rfl (Or.inl rfl) (pe_callTy crIntStr (by rfl) T.z_int (by decide +kernel) (pa_cons (pv 0) pa_nil))) (pss_one (ps_ret (pe_ifExp (pt_cmpR op_eq (pe_callTy crStrInt (by rfl) T.z_str (by decide +kernel) (pa_cons (pv 2) pa_nil)) (pv 0) (nomark _)) (pv 2) pe_non))))))), ?_⟩
  have hs : t.length ≤ sizeLine := Nat.le_trans hl (by decide)
  walk_at "gg"
  refine ⟨_, _, rfl, rfl, hs, ?_⟩
  walk_at "gg"
  have et := tl_remP t
  generalize hd : Txt.removeprefix t "-" = d at et ⊢
  have ld : d.length ≤ 100000 := by
    rw [TL.len_tl, et]
    have q : (unM (TL.tl t)).length ≤ (TL.tl t).length := by
      unfold unM
      split
      next r e => rw [e]; simp
      · exact Nat.le_refl _
    rw [← TL.len_tl t] at q
    omega
  have k0 : ∀ H', Ex H H' → intOf t = none → Q .non H' := fun H' e z => by
    have q := k H' e
    rw [z] at q
    exact q
  unfold intOf at k k0
  rw [← et] at k k0
  have ll : d.length = (TL.tl d).length := TL.len_tl d
  refine ⟨_, rfl, Nat.le_trans ld (by decide), ?_⟩
  walk_at "gg"
  have bad : digOk (TL.tl d) = false → ∀ H', Ex H H' → Q .non H' := fun z H' e => k0 H' e (by rw [z]; rfl)
  refine if_d (fun c1 => ?_) (fun c1 => ?_)
  rotate_left
  · walk_at "gg"
    refine bad ?_ _ (Evl.Ex.refl _)
    unfold digOk
    rw [decide_eq_false (by omega), Bool.false_and]
  walk_at "gg"
  refine if_nd (fun c2 => ?_) (fun c2 => ?_)
  · walk_at "gg"
    refine bad ?_ _ (Evl.Ex.refl _)
    unfold digOk
    rw [decide_eq_false (by omega), Bool.false_and]
  walk_at "gg"
  refine g_lcS (z := d) (by rw [← TL.len_tl d] <;> omega) (fun _ => true) (fun c => .bl (dig c)) ?_ ?_
  · rintro c x H1 e1 rfl R S hR hS
    walk_at "gg"
    refine ⟨rfl, ?_⟩
    walk_at "gg"
    refine ⟨c, _, rfl, rfl, ?_⟩
    rw [show decide (c ∈ (("0123456789" : Str).cps.toList)) = dig c by
      rw [show (("0123456789" : Str).cps.toList) = [48, 49, 50, 51, 52, 53, 54, 55, 56, 57] by decide +kernel]
      unfold dig
      refine decide_eq_decide.mpr ?_
      simp only [List.mem_cons, List.not_mem_nil, or_false]
      omega]
    exact hS rfl _ (Evl.Ex.refl _)
  intro l1 H1 n1 e1 h1
  rw [filt_all] at h1
  walk_at "gg"
  refine g_allL (bs := (TL.tl d).map dig) (by rw [h1, List.map_map]; rfl) ?_
  have ea : ((TL.tl d).map dig).all id = (TL.tl d).all dig := by
    rw [List.all_map]
    rfl
  rw [ea]
  walk_at "gg"
  have c0 : digOk (TL.tl d) = (TL.tl d).all dig := by
    unfold digOk
    rw [decide_eq_true (by omega), Bool.true_and]
  cases c3 : (TL.tl d).all dig with
  | false =>
    walk_at "gg"
    exact bad (c0.trans c3) _ e1
  | true =>
    walk_at "gg"
    have c4 : digOk (unM (TL.tl t)) = true := by
      rw [← et]
      exact c0.trans c3
    have l9 := (digOk_all c4).2.1
    have lt : t.length ≤ 640 := by
      rw [TL.len_tl]
      have q : (TL.tl t).length ≤ (unM (TL.tl t)).length + 1 := by
        unfold unM
        split
        next r e => rw [e]; simp
        · omega
      omega
    refine ⟨t, _, rfl, intText_of c4, lt, ?_⟩
    walk_at "gg"
    refine ⟨_, rfl, log_small (intL_small c4), ?_⟩
    walk_at "gg"
    rw [c0, c3, if_pos rfl] at k
    refine if_d (fun c5 => ?_) (fun c5 => ?_)
    · walk_at "gg"
      rw [if_pos c5] at k
      exact k _ e1
    · walk_at "gg"
      rw [if_neg c5] at k
      exact k _ e1
theorem ok_change_of (T : Txt w K mg) : FnOk P w K mg base CX0 2 T.f_change_of.f T.f_change_of.fd ["word"] (sp_change_of K) := by
  refine T.f_change_of.F.ok sc_change_of (fun vs H Q E h => ?_) (fun cdv A outer s H vs Q E hr h => ?_)
  · obtain ⟨t, rfl, _⟩ := h
    rfl
  obtain ⟨t, rfl, hl, k⟩ := h
  refine ⟨(tRet (tCB (r_tupleOf K) (tCons (tLc (iList K (tM1 rStrSplit (tVar 0) (tC (.str ":")))) (gName 1) tYes (tCall (sp_integer_of K) [] E0 (tCons (tVar 1) tNil)) [1]) tNil))),
    PSs.nox (pss_one (ps_ret (pe_callTy call_tuple_of (by rfl) T.z_tuple (by decide +kernel) (pa_cons (pe_lc (own := [("part", 1)]) rfl sc_change_of.nd (pi_list (pe_m1 PySem.F.slot_str_split PySem.F.type_str_split mtSplit (pv 0) pe_str)) (blkOk_by (own := [("part", 1)]) (N := ["word", "part"]) (sc := (defScope s_change_of)) (by decide +kernel)) (fun _ _ _ _ _ => (pg_name (i := 1) sc_change_of.nd rfl (Or.inl rfl))) (fun _ _ _ _ _ => pts_nil) (fun _ _ _ _ _ => (pe_call (ok_integer_of T) (hr.mono (by decide)) (by rfl) T.f_integer_of.g T.f_integer_of.F.kp T.f_integer_of.b .nil pass0 (pa_cons (pv 1) pa_nil)))) pa_nil)))), ?_⟩
  walk_at "gg"
  refine ⟨_, _, rfl, rfl, by decide +kernel, Nat.le_trans (Nat.add_le_add_right hl 2) (by decide), fun p hp => ?_⟩
  have e1 : Ex H (L2.upd H p (.lst ((Txt.split t ":").map V.str))) := Evl.Ex.new hp
  have h1 : L2.upd H p (.lst ((Txt.split t ":").map V.str)) p = some (.lst ((Txt.split t ":").map V.str)) := upd_same
  generalize L2.upd H p (.lst ((Txt.split t ":").map V.str)) = H1 at e1 h1 ⊢
  have sl := split_small t ":" (c := 58) (by decide +kernel)
  refine g_lcL (F := fun _ v w => v = V.str w ∧ w ∈ Txt.split t ":") (SqL.of h1) (pd_of (ys := Txt.split t ":") (by simp) fun i x y hx hy => by
    rw [List.getElem?_map, hy] at hx
    exact ⟨(Option.some.inj hx).symm, List.mem_of_getElem? hy⟩) (by have := sl.1; omega) (fun _ => true) (fun x => optI (intOf x)) (fun _ _ _ _ h => h) ?_ ?_
  · rintro x _ H2 e2 ⟨rfl, hx⟩ R S hR hS
    walk_at "gg"
    refine ⟨rfl, ?_⟩
    walk_at "gg"
    exact ⟨_, rfl, by have := sl.2 x hx; omega, fun H3 e3 => hS rfl _ e3⟩
  intro l2 H2 n2 e2 h2
  rw [filt_all] at h2
  walk_at "gg"
  refine g_tupleOfL (SqL.of h2) fun p3 H3 n3 e3 h3 => ?_
  exact k p3 H3 (Evl.fresh_back (e1.trans e2) n3) ((e1.trans e2).trans e3) h3
theorem ok_read_zone_x (T : Txt w K mg) : FnOk P w K mg base (L2.CX P w) 5 T.f_read_zone.f T.f_read_zone.fd ["text"] (sp_read_zone_x T) := by
  refine T.f_read_zone.F.ok sc_read_zone (fun vs H Q E h => ?_) (fun cdv A outer s H vs Q E hr h => ?_)
  · obtain ⟨v, d, rfl, _⟩ := h
    rfl
  obtain ⟨v, d, rfl, hv, k0, k⟩ := h
  refine ⟨(tSeq (tDrop (tCall (sp_check_text_x T) [] E (tCons (tVar 0) tNil))) (tSeq (tAsg (tM1 rStrSplit (tVar 0) (tC (.str " "))) (gStar K (gCons (gName 1) (gCons (gName 2) gNil)))) (tSeq (tAsg (tTup (tCons (tCall (sp_integer_of K) [] E0 (tCons (tVar 1) tNil)) (tCons (tCB (r_tupleOf K) (tCons (tLc (iList K (tVar 2)) (gName 4) tYes (tCall (sp_change_of K) [] E0 (tCons (tVar 4) tNil)) [4]) tNil)) tNil))) (gName 3)) (tSeq (tIfS (tNot (tB (tCall (sp_is_zone_d K) [] E0 (tCons (tVar 3) tNil)))) (fun _ σ H => E (.ref T.e_InvalidText) none H) tNext) (tRet (tVar 3)))))),
    (pss_cons (ps_expr (pe_call (ok_check_text_x T) (hr.mono (by decide)) (by rfl) T.f_check_text.g T.f_check_text.F.kp T.f_check_text.b .nil (passU (takes_of rfl rfl rfl rfl)) (pa_cons (pv 0) pa_nil))) (pss_cons (ps_asg (pe_m1 PySem.F.slot_str_split PySem.F.type_str_split mtSplit (pv 0) pe_str) (pg_star rfl (pgs_cons (pg_name (i := 1) sc_read_zone.nd rfl (Or.inl rfl)) (pgs_cons (pg_name (i := 2) sc_read_zone.nd rfl (Or.inl rfl)) pgs_nil)))) (pss_cons (ps_set (i := 3) sc_read_zone.nd rfl (Or.inl rfl) (pe_tup (pa_cons (pe_call (ok_integer_of T) (hr.mono (by decide)) (by rfl) T.f_integer_of.g T.f_integer_of.F.kp T.f_integer_of.b .nil pass0 (pa_cons (pv 1) pa_nil)) (pa_cons (pe_callTy call_tuple_of (by rfl) T.z_tuple (by decide +kernel) (pa_cons (pe_lc (own := [("word", 4)]) rfl sc_read_zone.nd (pi_list (pv 2)) (blkOk_by (own := [("word", 4)]) (N := ["text", "first", "others", "zone", "word"]) (sc := (defScope s_read_zone)) (by decide +kernel)) (fun _ _ _ _ _ => (pg_name (i := 4) sc_read_zone.nd rfl (Or.inl rfl))) (fun _ _ _ _ _ => pts_nil) (fun _ _ _ _ _ => (pe_call (ok_change_of T) (hr.mono (by decide)) (by rfl) T.f_change_of.g T.f_change_of.F.kp T.f_change_of.b .nil pass0 (pa_cons (pv 4) pa_nil)))) pa_nil)) pa_nil)))) (pss_cons (ps_if (pt_not (pt_val (pe_call (ok_is_zone_d T) (hr.mono (by decide)) (by rfl) T.f_is_zone.g T.f_is_zone.F.kp T.f_is_zone.b .nil pass0 (pa_cons (pv 3) pa_nil)))) (pss_one (ps_err rfl (takes_of rfl rfl rfl rfl) T.g_InvalidText T.x_InvalidText rfl)) pss_nil) (pss_one (ps_ret (pv 3))))))), ?_⟩
  walk_at "gg"
  refine ⟨v, d, rfl, hv, fun hd => ?_, fun hd => k0 hd⟩
  obtain ⟨t, rfl, hl, kb, kg⟩ := k hd
  cases hv
  walk_at "gg"
  refine ⟨_, _, rfl, rfl, by decide +kernel, Nat.le_trans (Nat.add_le_add_right hl 2) (by decide), fun p hp => ?_⟩
  have e1 : Ex H (L2.upd H p (.lst ((Txt.split t " ").map V.str))) := Evl.Ex.new hp
  have h1 : L2.upd H p (.lst ((Txt.split t " ").map V.str)) p = some (.lst ((Txt.split t " ").map V.str)) := upd_same
  generalize L2.upd H p (.lst ((Txt.split t " ").map V.str)) = H1 at e1 h1 ⊢
  have sl := split_small t " " (c := 32) (by decide +kernel)
  have er : ∀ f r, Txt.split t " " = f :: r → readD t = .tuple [optD (intOf f), .tuple (r.map chD)] := fun f r e => by
    unfold readD
    rw [e]
  cases es : Txt.split t " " with
  | nil => exact absurd es (split_ne t)
  | cons f r =>
  rw [es] at h1 sl
  have er := er f r es
  refine ⟨p, .str f, r.map V.str, rfl, SqL.of h1, fun l2 hl2 => ?_⟩
  have e2 : Ex H1 (L2.upd H1 l2 (.lst (r.map V.str))) := Evl.Ex.new hl2
  have h2 : L2.upd H1 l2 (.lst (r.map V.str)) l2 = some (.lst (r.map V.str)) := upd_same
  generalize L2.upd H1 l2 (.lst (r.map V.str)) = H2 at e2 h2 ⊢
  walk_at "gg"
  refine ⟨f, rfl, by have := sl.2 f (by simp); omega, fun H3 e3 => ?_⟩
  walk_at "gg"
  have lr : r.length ≤ 100000 := by have := sl.1; simp only [List.length_cons] at this; omega
  refine g_lcLR (F := fun _ v w => v = V.str w ∧ w ∈ r) (G := ChV K) (SqL.of (e3 _ _ h2)) (pd_of (ys := r) (by simp) fun i x y hx hy => by
    rw [List.getElem?_map, hy] at hx
    exact ⟨(Option.some.inj hx).symm, List.mem_of_getElem? hy⟩) lr (fun _ => true) (fun _ _ _ _ h => h) (fun _ _ _ _ e h => h.tr e) ?_ ?_
  · rintro x _ H4 e4 ⟨rfl, hx⟩ R S hR hS
    walk_at "gg"
    refine ⟨rfl, ?_⟩
    walk_at "gg"
    exact ⟨_, rfl, by have := sl.2 x (by simp [hx]); omega, fun p5 H5 n5 e5 h5 => hS rfl _ _ e5 ⟨p5, rfl, SqT.of h5⟩⟩
  intro l4 H4 ys n4 e4 h4 hp4
  rw [show r.filter (fun _ => true) = r from filt_true r] at hp4
  walk_at "gg"
  refine g_tupleOfL (SqL.of h4) fun p5 H5 n5 e5 h5 => ?_
  walk_at "gg"
  refine g_newT (by simp) fun p6 H6 n6 e6 h6 => ?_
  walk_at "gg"
  have e16 : Ex H H6 := (((((e1.trans e2).trans e3).trans e4).trans e5).trans e6)
  have dv : DaV K H6 (.ref p6) (readD t) := by
    rw [er]
    refine .tup (SqT.of h6) (by simp) fun i x d hx hd => ?_
    match i, hx, hd with
    | 0, hx, hd => cases hx; cases hd; exact dav_opt _
    | 1, hx, hd =>
      cases hx; cases hd
      refine .tup (SqT.of (e6 _ _ h5)) (by rw [List.length_map, Paired.length hp4]) fun i x d hx hd => ?_
      obtain ⟨w, hw, g⟩ := pd_get hp4 hx
      rw [List.getElem?_map, hw] at hd
      cases hd
      exact (g.tr (TrT.of (e5.trans e6))).dav
    | i + 2, hx, hd => simp at hx
  refine ⟨_, _, rfl, dv, ?_⟩
  walk_at "gg"
  cases c : okZD (readD t) with
  | true =>
    walk_at "gg"
    exact kg c _ _ e16 dv
  | false =>
    walk_at "gg"
    exact kb c _ e16
end
local macro_rules | `(tactic| walk_at "m") => `(tactic| first
  | with_reducible refine g_m1 ?_
  | with_reducible refine g_isS ?_
  | with_reducible refine g_lcStr ?_
  | with_reducible refine g_join ?_
  | with_reducible refine g_js ?_
  | with_reducible refine g_jsN ?_
  | with_reducible refine g_fmt ?_
  | with_reducible refine g_callLam ?_
  | with_reducible refine g_revT ?_)

local macro_rules | `(tactic| walk_at "lt") => `(tactic| first
  | with_reducible exact evL_nil
  | with_reducible exact evI_lit
  | with_reducible exact evI_neg
  | ((with_reducible refine evL_cons ?_ ?_) <;> walk_at "lt")
  | ((with_reducible refine evT_t ?_ ?_) <;> walk_at "lt")
  | ((with_reducible refine evT_i ?_) <;> walk_at "lt"))
/-! ### written data -/
class EvP (K : PySem.W.Frag) (te : TE) (d : outParam PyData) : Prop where
  ev : ∀ σ H (Q : VK), (∀ v H', Ex H H' → Dp K H' v d → Q v H') → te σ H Q
section
variable {K : PySem.W.Frag} {ta tb tc td te : TE} {a b c d : PyData}
instance evP_int {n : Int} : EvP K (tC (.int n)) (.int n) := ⟨fun _ _ _ q => q _ _ (Evl.Ex.refl _) (.int n)⟩
instance evP_neg {n : Int} : EvP K (tUn (rU fun i => .int (-i)) (tC (.int n))) (.int (-n)) := ⟨fun _ _ _ q => ⟨n, rfl, q _ _ (Evl.Ex.refl _) (.int _)⟩⟩
instance evP_str {x : Str} : EvP K (tC (.str x)) (.str x) := ⟨fun _ _ _ q => q _ _ (Evl.Ex.refl _) (.str x)⟩
theorem lit_tup {σ : St} {H0 H : Hp} {Q : VK} {xs : List V} {ds : List PyData} (e0 : Ex H0 H) (few : xs.length ≤ 1000) (hx : DpAll K H xs ds) (q : ∀ v H', Ex H0 H' → Dp K H' v (.tuple ds) → Q v H') : NewT xs H Q :=
  g_newT (by omega) fun p H2 n2 e2 h2 => q _ _ (e0.trans e2) (.tup (SqT.of h2) (pd_dpAll (L2.Paired.mapP (dpAll_pd hx) fun _ _ z => dp_ex e2 z)))
instance evP_t0 : EvP K (tTup tNil) (.tuple []) := ⟨fun σ H Q q => lit_tup (σ := σ) (Evl.Ex.refl _) (by simp) .nil q⟩
instance evP_t1 [i1 : EvP K ta a] : EvP K (tTup (tCons ta tNil)) (.tuple [a]) := ⟨fun σ H Q q => i1.ev σ H _ fun v1 H1 e1 h1 => lit_tup (σ := σ) e1 (by simp) (.cons h1 .nil) q⟩
instance evP_t2 [i1 : EvP K ta a] [i2 : EvP K tb b] : EvP K (tTup (tCons ta (tCons tb tNil))) (.tuple [a, b]) := ⟨fun σ H Q q => i1.ev σ H _ fun v1 H1 e1 h1 => i2.ev σ H1 _ fun v2 H2 e2 h2 =>
  lit_tup (σ := σ) (e1.trans e2) (by simp) (.cons (dp_ex e2 h1) (.cons h2 .nil)) q⟩
instance evP_t4 [i1 : EvP K ta a] [i2 : EvP K tb b] [i3 : EvP K tc c] [i4 : EvP K td d] : EvP K (tTup (tCons ta (tCons tb (tCons tc (tCons td tNil))))) (.tuple [a, b, c, d]) := ⟨fun σ H Q q => i1.ev σ H _ fun v1 H1 e1 h1 => i2.ev σ H1 _ fun v2 H2 e2 h2 =>
  i3.ev σ H2 _ fun v3 H3 e3 h3 => i4.ev σ H3 _ fun v4 H4 e4 h4 => lit_tup (σ := σ) (((e1.trans e2).trans e3).trans e4) (by simp) (.cons (dp_ex ((e2.trans e3).trans e4) h1) (.cons (dp_ex (e3.trans e4) h2) (.cons (dp_ex e4 h3) (.cons h4 .nil)))) q⟩
theorem g_litP {σ : St} {H : Hp} {Q : VK} [h : EvP K te d] (k : ∀ v H', Ex H H' → Dp K H' v d → Q v H') : te σ H Q := h.ev σ H Q k
theorem g_neDp {Q : VK} {H : Hp} {x y : V} {d d' : PyData} (b : Bool) (h1 : Dp K H x d) (h2 : Dp K H y d') (s : (SeqAt.shaped d && SeqAt.shaped d' && (PyData.eqv d d' == b)) = true) (k : Q (.bl (!b)) H) : rNeD K x y H Q := by
  simp only [Bool.and_eq_true, beq_iff_eq] at s
  refine ⟨d, d', h1, h2, s.1.1, s.1.2, ?_⟩
  rw [s.2]
  exact k
theorem g_eqDp {Q : VK} {H : Hp} {x y : V} {d d' : PyData} (b : Bool) (h1 : Dp K H x d) (h2 : Dp K H y d') (s : (SeqAt.shaped d && SeqAt.shaped d' && (PyData.eqv d d' == b)) = true) (k : Q (.bl b) H) : rEqD K x y H Q := by
  simp only [Bool.and_eq_true, beq_iff_eq] at s
  refine ⟨d, d', h1, h2, s.1.1, s.1.2, ?_⟩
  rw [s.2]
  exact k
/-! ### what the results are as data -/
def encW (w : Way) : PyData := .tuple [.str (sumS w.ws), .str (sumS w.wo), .str (gapS w.gap), .str (foldS w.fold)]
theorem dp_way {H : Hp} {v : V} {w : Way} (h : WayV K H v w) : Dp K H v (encW w) := by
  obtain ⟨a, rfl, q⟩ := h
  exact .tup q (.cons (.str _) (.cons (.str _) (.cons (.str _) (.cons (.str _) .nil))))
theorem way_dp {H : Hp} {v : V} {w : Way} (h : Dp K H v (encW w)) : WayV K H v w := by
  unfold encW at h
  cases h with
  | tup q t =>
    cases t with
    | cons h1 t =>
      cases h1
      cases t with
      | cons h2 t =>
        cases h2
        cases t with
        | cons h3 t =>
          cases h3
          cases t with
          | cons h4 t =>
            cases h4
            cases t
            exact ⟨_, rfl, q⟩
theorem dp_ways {H : Hp} {xs : List V} {ws : List Way} (h : Paired (WayV K H) xs ws) : DpAll K H xs (ws.map encW) := pd_dpAll (pd_map (fun _ _ q => dp_way q) h)
def dIt : It → PyData
  | .i n => .int n
  | .t t => .tuple [.int t.1, .int t.2]
theorem dp_it {H : Hp} {v : V} {it : It} (h : ItV K H v it) : Dp K H v (dIt it) := by
  cases it with
  | i n =>
    cases (show v = V.int n from h)
    exact .int n
  | t t => exact dp_pair h
theorem dp_zone {H : Hp} {v : V} {z : Zone} (h : ZV K H v z) : Dp K H v (encZ z) := by
  obtain ⟨a, c, rfl, q, b, xs, rfl, hb, hp⟩ := h
  exact .tup q (.cons (.int _) (.cons (.tup hb (pd_dpAll (pd_map (fun _ _ q => dp_pair q) hp))) .nil))
def encC (c : Zone × List It) : PyData := .tuple [encZ c.1, .tuple (c.2.map dIt)]
theorem dp_cex {H : Hp} {v : V} {o : Option (Zone × List It)} {c : Zone × List It} (h : CexV K H v o) (e : o = some c) : Dp K H v (encC c) := by
  subst e
  obtain ⟨a, zv, av, rfl, q, hz, b, xs, rfl, hb, hp⟩ := h
  exact .tup q (.cons (dp_zone hz) (.cons (.tup hb (pd_dpAll (pd_map (fun _ _ q => dp_it q) hp))) .nil))
theorem tv_is {H : Hp} {v : V} {o p : Option Tm} (h : TV K H v o) (e : o = p) : TV K H v p := e ▸ h
theorem ow_is {H : Hp} {v : V} {o p : Option Way} (h : OWayV K H v o) (e : o = p) : OWayV K H v p := e ▸ h
theorem ints_is {z : Zone} {t : Int} {ns : List Int} (h : OkZ z) (r : ns.Pairwise (· < ·)) (m : ∀ k, k ∈ ns ↔ k + off z k = t) : ns = insts z t := rise_ext r (insts_rise z t) fun k => (m k).trans (insts_mem h).symm
/-! ### the written zone and libraries -/
def z0 : Zone := (1, [(0, 2), (100, 1)])
theorem okz : okZ z0 = true := by decide +kernel
def wA : Way := ⟨false, false, .shift, .both⟩
def wN : Way := ⟨true, true, .keep, .first⟩
def wE : Way := ⟨false, false, .refuse, .both⟩
def wB : Way := ⟨true, true, .shift, .both⟩
structure KI (K : PySem.W.Frag) (zv av nv ev : V) (H : Hp) : Prop where
  z : ZV K H zv z0
  a : WayV K H av wA
  n : WayV K H nv wN
  e : WayV K H ev wE
theorem KI.ex {zv av nv ev : V} {H H' : Hp} (h : KI K zv av nv ev H) (e : Ex H H') : KI K zv av nv ev H' := ⟨h.z.tr (TrT.of e), h.a.tr (TrT.of e), h.n.tr (TrT.of e), h.e.tr (TrT.of e)⟩
theorem nine {p : Int → Prop} (h : ∀ k : Fin 9, p (k.val : Int)) {n : Int} (h0 : 0 ≤ n) (h9 : n < 9) : p n := by
  have e := h ⟨n.toNat, by omega⟩
  have q : ((n.toNat : Nat) : Int) = n := Int.toNat_of_nonneg h0
  rw [show (((⟨n.toNat, by omega⟩ : Fin 9).val : Nat) : Int) = n from q] at e
  exact e
theorem add_n1 {n : Int} (h0 : 0 ≤ n) (h9 : n < 9) : addT wN z0 (some (101, 0)) n = some (101 + n, 0) := nine (p := fun n => addT wN z0 (some (101, 0)) n = some (101 + n, 0)) (by decide +kernel) h0 h9
theorem add_n2 {n : Int} (h0 : 0 ≤ n) (h9 : n < 9) : addT wA z0 (some (0, 0)) (1 + n) = some (2 + n, 0) := nine (p := fun n => addT wA z0 (some (0, 0)) (1 + n) = some (2 + n, 0)) (by decide +kernel) h0 h9
theorem top16 : TopR "both" 16 := by
  unfold TopR
  decide +kernel
theorem best16 : bestR "both" 16 = [wA] := by decide +kernel
theorem part1 : partO "skips" .same .toU = some ⟨true, false, .keep, .both⟩ := by decide +kernel
theorem with1 : withR "both" [.elapsed, .every] = [⟨false, false, .keep, .both⟩, ⟨false, true, .keep, .both⟩] := by decide +kernel
end
theorem argT {K : PySem.W.Frag} {H : Hp} {w : Way} {z : Zone} {v : V} {t : Tm} (h : PV K H v t) (b : decide (-90000 ≤ t.1 ∧ t.1 ≤ 90000 ∧ t ∈ times w z t.1) = true) : ArgT K H w z v t := by
  have q := of_decide_eq_true b
  exact ⟨h, q.1, q.2.1, q.2.2⟩
theorem g_cut1 {P : L2.St → Hp → Prop} {s0 rest : TS} {D : Ends} {σ : L2.St} {H : Hp} (h1 : ∀ rest' : TS, (∀ σ H, P σ H → rest' D σ H) → tSeq s0 rest' D σ H) (h2 : ∀ σ H, P σ H → rest D σ H) : tSeq s0 rest D σ H := h1 rest h2

section
variable {P : Program} {w : World} {K : PySem.W.Frag} {mg : Str → Option Value} {base : Heap}
theorem ok_law (T : Txt w K mg) : FnOk P w K mg base CX0 10 T.f_law.f T.f_law.fd ["script"] (sp_law K) := by
  refine T.f_law.F.ok sc_law (fun vs H Q E h => ?_) (fun cdv A outer s H vs Q E hr h => ?_)
  · obtain ⟨a, ns, rfl, _⟩ := h
    rfl
  obtain ⟨a, ns, rfl, hs, h63, k⟩ := h
  have okz := okz
  refine ⟨(tSeq (tAsg (tLst (tCons (tVar 0) (tCons (tC (.int 0)) (tCons (tC (.int 15351)) (tCons (tC (.int 0)) tNil))))) (gName 1)) (tSeq (tAsg (tCall (sp_law_taken K) [] E0 (tCons (tVar 1) (tCons (tC (.int 9)) tNil))) (gName 2)) (tSeq (tAsg (tCall (sp_read_zone_x T) [] E0 (tCons (tC (.str "1 0:2 100:1")) tNil)) (gName 3)) (tSeq (tAsg (tTup (tCons (tTup (tCons (tC (.str "elapsed")) (tCons (tC (.str "elapsed")) (tCons (tC (.str "shift")) (tCons (tC (.str "both")) tNil))))) (tCons (tTup (tCons (tC (.str "wall")) (tCons (tC (.str "wall")) (tCons (tC (.str "keep")) (tCons (tC (.str "first")) tNil))))) (tCons (tTup (tCons (tC (.str "elapsed")) (tCons (tC (.str "elapsed")) (tCons (tC (.str "refuse")) (tCons (tC (.str "both")) tNil))))) tNil)))) (gTup K 3 (gCons (gName 4) (gCons (gName 5) (gCons (gName 6) gNil))))) (tSeq (tIfS (tOr (tTest (tOp rNe (tCall (sp_kind_of K) [] E0 (tCons (tVar 3) tNil)) (tC (.str "both")))) (tOr (tTest (tOp rNe (tCall (sp_offset_at K) [] E0 (tCons (tVar 3) (tCons (tC (.int 99)) tNil))) (tC (.int 2)))) (tOr (tTest (tOp rNe (tCall (sp_offset_at K) [] E0 (tCons (tVar 3) (tCons (tC (.int 100)) tNil))) (tC (.int 1)))) (tOr (tTest (tOp (rNeD K) (tCall (sp_instants_of K) [] E0 (tCons (tVar 3) (tCons (tC (.int 1)) tNil))) (tTup tNil))) (tTest (tOp (rNeD K) (tCall (sp_instants_of K) [] E0 (tCons (tVar 3) (tCons (tC (.int 101)) tNil))) (tTup (tCons (tC (.int 99)) (tCons (tC (.int 100)) tNil))))))))) (tRet (tC (.bl false))) tNext) (tSeq (tIfS (tOr (tTest (tOp (rNeD K) (tCall (sp_read K) [] E0 (tCons (tVar 4) (tCons (tVar 3) (tCons (tC (.int 1)) tNil)))) (tTup (tCons (tC (.int 2)) (tCons (tC (.int 0)) tNil))))) (tOr (tTest (tOp (rNeD K) (tCall (sp_read K) [] E0 (tCons (tVar 5) (tCons (tVar 3) (tCons (tC (.int 1)) tNil)))) (tTup (tCons (tC (.int 1)) (tCons (tC (.int 0)) tNil))))) (tOr (tTest (tOp rNe (tCall (sp_read K) [] E0 (tCons (tVar 6) (tCons (tVar 3) (tCons (tC (.int 1)) tNil)))) (tC (.str "refused")))) (tTest (tOp rNe (tCall (sp_to_instant K) [] E0 (tCons (tVar 5) (tCons (tVar 3) (tCons (tTup (tCons (tC (.int 1)) (tCons (tC (.int 0)) tNil))) tNil)))) (tC (.int 0))))))) (tRet (tC (.bl false))) tNext) (tSeq (tIfS (tOr (tTest (tOp (rNeD K) (tCall (sp_from_instant K) [] E0 (tCons (tVar 4) (tCons (tVar 3) (tCons (tC (.int 100)) tNil)))) (tTup (tCons (tC (.int 101)) (tCons (tC (.int 1)) tNil))))) (tOr (tTest (tOp (rNeD K) (tCall (sp_from_instant K) [] E0 (tCons (tVar 5) (tCons (tVar 3) (tCons (tC (.int 100)) tNil)))) (tTup (tCons (tC (.int 101)) (tCons (tC (.int 0)) tNil))))) (tTest (tOp rNotB (tCall (sp_is_time K) [] E0 (tCons (tVar 5) (tCons (tVar 3) (tCons (tTup (tCons (tC (.int 101)) (tCons (tC (.int 1)) tNil))) tNil)))) (tC (.bl false)))))) (tRet (tC (.bl false))) tNext) (tSeq (tIfS (tOr (tTest (tOp (rNeD K) (tCall (sp_add K) [] E0 (tCons (tVar 4) (tCons (tVar 3) (tCons (tTup (tCons (tC (.int 101)) (tCons (tC (.int 0)) tNil))) (tCons (tC (.int 1)) tNil))))) (tTup (tCons (tC (.int 101)) (tCons (tC (.int 1)) tNil))))) (tOr (tTest (tOp (rNeD K) (tCall (sp_add K) [] E0 (tCons (tVar 5) (tCons (tVar 3) (tCons (tTup (tCons (tC (.int 101)) (tCons (tC (.int 0)) tNil))) (tCons (tVar 2) tNil))))) (tTup (tCons (tOp (rI0 fun i j => .int (i + j)) (tC (.int 101)) (tVar 2)) (tCons (tC (.int 0)) tNil))))) (tTest (tOp (rNeD K) (tCall (sp_add K) [] E0 (tCons (tVar 4) (tCons (tVar 3) (tCons (tTup (tCons (tC (.int 0)) (tCons (tC (.int 0)) tNil))) (tCons (tOp (rI0 fun i j => .int (i + j)) (tC (.int 1)) (tVar 2)) tNil))))) (tTup (tCons (tOp (rI0 fun i j => .int (i + j)) (tC (.int 2)) (tVar 2)) (tCons (tC (.int 0)) tNil))))))) (tRet (tC (.bl false))) tNext) (tSeq (tIfS (tOr (tTest (tOp rNe (tCall (sp_subtract K) [] E0 (tCons (tVar 4) (tCons (tVar 3) (tCons (tTup (tCons (tC (.int 101)) (tCons (tC (.int 1)) tNil))) (tCons (tTup (tCons (tC (.int 101)) (tCons (tC (.int 0)) tNil))) tNil))))) (tC (.int 1)))) (tOr (tTest (tOp rNe (tCall (sp_subtract K) [] E0 (tCons (tVar 5) (tCons (tVar 3) (tCons (tTup (tCons (tC (.int 2)) (tCons (tC (.int 0)) tNil))) (tCons (tTup (tCons (tC (.int 0)) (tCons (tC (.int 0)) tNil))) tNil))))) (tC (.int 2)))) (tTest (tOp rNe (tCall (sp_compare K) [] E0 (tCons (tVar 4) (tCons (tVar 3) (tCons (tTup (tCons (tC (.int 101)) (tCons (tC (.int 0)) tNil))) (tCons (tTup (tCons (tC (.int 101)) (tCons (tC (.int 1)) tNil))) tNil))))) (tUn (rU fun i => .int (-i)) (tC (.int 1))))))) (tRet (tC (.bl false))) tNext) (tSeq (tIfS (tOr (tTest (tOp rNe (tCall (sp_compare K) [] E0 (tCons (tTup (tCons (tC (.str "wall")) (tCons (tC (.str "wall")) (tCons (tC (.str "shift")) (tCons (tC (.str "both")) tNil))))) (tCons (tVar 3) (tCons (tTup (tCons (tC (.int 101)) (tCons (tC (.int 0)) tNil))) (tCons (tTup (tCons (tC (.int 101)) (tCons (tC (.int 1)) tNil))) tNil))))) (tC (.int 0)))) (tTest (tOp rNe (tCall (sp_subtract K) [] E0 (tCons (tVar 4) (tCons (tVar 3) (tCons (tTup (tCons (tC (.int 2)) (tCons (tC (.int 0)) tNil))) (tCons (tTup (tCons (tC (.int 0)) (tCons (tC (.int 0)) tNil))) tNil))))) (tC (.int 1))))) (tRet (tC (.bl false))) tNext) (tSeq (tIfS (tOr (tTest (tOp rNotB (tCall (sp_holds K) [] E0 (tCons (tVar 4) (tCons (tC (.str "both")) (tCons (tC (.str "elapsed time")) tNil)))) (tC (.bl true)))) (tOr (tTest (tOp rNotB (tCall (sp_holds K) [] E0 (tCons (tVar 4) (tCons (tC (.str "both")) (tCons (tC (.str "same clock")) tNil)))) (tC (.bl false)))) (tTest (tOp rNotB (tCall (sp_holds K) [] E0 (tCons (tVar 5) (tCons (tC (.str "both")) (tCons (tC (.str "same clock")) tNil)))) (tC (.bl true)))))) (tRet (tC (.bl false))) tNext) (tSeq (tIfS (tOr (tTest (tOp (rNeD K) (tCall (sp_counterexample K) [] E0 (tCons (tVar 5) (tCons (tC (.str "both")) (tCons (tC (.str "elapsed time")) tNil)))) (tTup (tCons (tTup (tCons (tC (.int 0)) (tCons (tTup (tCons (tTup (tCons (tC (.int 0)) (tCons (tC (.int 2)) tNil))) tNil)) tNil))) (tCons (tTup (tCons (tTup (tCons (tUn (rU fun i => .int (-i)) (tC (.int 1))) (tCons (tC (.int 0)) tNil))) (tCons (tC (.int 3)) tNil))) tNil))))) (tTest (tOp (rNeD K) (tCall (sp_counterexample K) [] E0 (tCons (tVar 4) (tCons (tC (.str "repeats")) (tCons (tC (.str "same clock")) tNil)))) (tTup (tCons (tTup (tCons (tC (.int 0)) (tCons (tTup (tCons (tTup (tCons (tC (.int 0)) (tCons (tUn (rU fun i => .int (-i)) (tC (.int 2))) tNil))) tNil)) tNil))) (tCons (tTup (tCons (tTup (tCons (tUn (rU fun i => .int (-i)) (tC (.int 3))) (tCons (tC (.int 0)) tNil))) tNil)) tNil)))))) (tRet (tC (.bl false))) tNext) (tSeq (tIfS (tOr (tTest (tOp rNotB (tCall (sp_holds_for K) [] E0 (tCons (tVar 5) (tCons (tVar 3) (tCons (tC (.str "later")) (tCons (tTup (tCons (tTup (tCons (tC (.int 101)) (tCons (tC (.int 0)) tNil))) (tCons (tC (.int 1)) tNil))) tNil))))) (tC (.bl true)))) (tTest (tOp rNotB (tCall (sp_holds_for K) [] E0 (tCons (tVar 6) (tCons (tVar 3) (tCons (tC (.str "every reading")) (tCons (tTup (tCons (tC (.int 1)) tNil)) tNil))))) (tC (.bl false))))) (tRet (tC (.bl false))) tNext) (tSeq (tIfS (tOr (tTest (tOp rNe (tCB (Evl.rLenS K) (tCons (tCall (sp_profile K) [] E0 (tCons (tVar 5) (tCons (tC (.str "fixed")) tNil))) tNil)) (tC (.int 18)))) (tOr (tTest (tOp rNe (tCB (Evl.rLenS K) (tCons (tCall (sp_profile K) [] E0 (tCons (tVar 4) (tCons (tC (.str "both")) tNil))) tNil)) (tC (.int 16)))) (tTest (tOp (rNeD K) (tCall (sp_most_rules K) [] E0 (tCons (tC (.str "both")) tNil)) (tTup (tCons (tTup (tCons (tC (.str "elapsed")) (tCons (tC (.str "elapsed")) (tCons (tC (.str "shift")) (tCons (tC (.str "both")) tNil))))) tNil)))))) (tRet (tC (.bl false))) tNext) (tSeq (tIfS (tOr (tTest (tOp rNotB (tCall (sp_implies K) [] E0 (tCons (tC (.str "both")) (tCons (tC (.str "elapsed time")) (tCons (tC (.str "sum of durations")) tNil)))) (tC (.bl true)))) (tTest (tOp rNotB (tCall (sp_implies K) [] E0 (tCons (tC (.str "both")) (tCons (tC (.str "sum of durations")) (tCons (tC (.str "elapsed time")) tNil)))) (tC (.bl false))))) (tRet (tC (.bl false))) tNext) (tSeq (tIfS (tOr (tTest (tOp (rNeD K) (tCall (sp_parting K) [] E0 (tCons (tC (.str "skips")) (tCons (tC (.str "same clock")) (tCons (tC (.str "to universal and back")) tNil)))) (tTup (tCons (tC (.str "wall")) (tCons (tC (.str "elapsed")) (tCons (tC (.str "keep")) (tCons (tC (.str "both")) tNil))))))) (tTest (tOp rNe (tCB (Evl.rLenS K) (tCons (tCall (sp_all_libraries K) [] E0 tNil) tNil)) (tC (.int 48))))) (tRet (tC (.bl false))) tNext) (tRet (tOp (rEqD K) (tCall (sp_libraries_with K) [] E0 (tCons (tC (.str "both")) (tCons (tTup (tCons (tC (.str "elapsed time")) (tCons (tC (.str "every reading")) tNil))) tNil))) (tTup (tCons (tTup (tCons (tC (.str "elapsed")) (tCons (tC (.str "elapsed")) (tCons (tC (.str "keep")) (tCons (tC (.str "both")) tNil))))) (tCons (tTup (tCons (tC (.str "elapsed")) (tCons (tC (.str "wall")) (tCons (tC (.str "keep")) (tCons (tC (.str "both")) tNil))))) tNil))))))))))))))))))))),
    PSs.nox (pss_cons (ps_set (i := 1) sc_law.nd rfl (Or.inl rfl) (pe_lst (pa_cons (pv 0) (pa_cons pe_int (pa_cons pe_int (pa_cons pe_int pa_nil)))))) (pss_cons (ps_set (i := 2) sc_law.nd rfl (Or.inl rfl) (pe_call (ok_law_taken T) (hr.mono (by decide)) (by rfl) T.f_law_taken.g T.f_law_taken.F.kp T.f_law_taken.b .nil pass0 (pa_cons (pv 1) (pa_cons pe_int pa_nil)))) (pss_cons (ps_set (i := 3) sc_law.nd rfl (Or.inl rfl) (pe_call (ok_read_zone_x T) (hr.mono (by decide)) (by rfl) T.f_read_zone.g T.f_read_zone.F.kp T.f_read_zone.b .nil passL (pa_cons pe_str pa_nil))) (pss_cons (ps_asg (pe_tup (pa_cons (pe_tup (pa_cons pe_str (pa_cons pe_str (pa_cons pe_str (pa_cons pe_str pa_nil))))) (pa_cons (pe_tup (pa_cons pe_str (pa_cons pe_str (pa_cons pe_str (pa_cons pe_str pa_nil))))) (pa_cons (pe_tup (pa_cons pe_str (pa_cons pe_str (pa_cons pe_str (pa_cons pe_str pa_nil))))) pa_nil)))) (pg_tup rfl (pgs_cons (pg_name (i := 4) sc_law.nd rfl (Or.inl rfl)) (pgs_cons (pg_name (i := 5) sc_law.nd rfl (Or.inl rfl)) (pgs_cons (pg_name (i := 6) sc_law.nd rfl (Or.inl rfl)) pgs_nil))))) (pss_cons (ps_if (PW.pt (pw_or (pt_cmpR op_ne (pe_call (ok_kind_of T) (hr.mono (by decide)) (by rfl) T.f_kind_of.g T.f_kind_of.F.kp T.f_kind_of.b .nil pass0 (pa_cons (pv 3) pa_nil)) pe_str (nomark _)) (pw_or (pt_cmpR op_ne (pe_call (ok_offset_at T) (hr.mono (by decide)) (by rfl) T.f_offset_at.g T.f_offset_at.F.kp T.f_offset_at.b .nil pass0 (pa_cons (pv 3) (pa_cons pe_int pa_nil))) pe_int (nomark _)) (pw_or (pt_cmpR op_ne (pe_call (ok_offset_at T) (hr.mono (by decide)) (by rfl) T.f_offset_at.g T.f_offset_at.F.kp T.f_offset_at.b .nil pass0 (pa_cons (pv 3) (pa_cons pe_int pa_nil))) pe_int (nomark _)) (pw_or (pt_cmpR (op_neD hr.units) (pe_call (ok_instants_of T) (hr.mono (by decide)) (by rfl) T.f_instants_of.g T.f_instants_of.F.kp T.f_instants_of.b .nil pass0 (pa_cons (pv 3) (pa_cons pe_int pa_nil))) (pe_tup pa_nil) (nomark _)) (pw_or1 (pt_cmpR (op_neD hr.units) (pe_call (ok_instants_of T) (hr.mono (by decide)) (by rfl) T.f_instants_of.g T.f_instants_of.F.kp T.f_instants_of.b .nil pass0 (pa_cons (pv 3) (pa_cons pe_int pa_nil))) (pe_tup (pa_cons pe_int (pa_cons pe_int pa_nil))) (nomark _)))))))) (pss_one (ps_ret pe_bl)) pss_nil) (pss_cons (ps_if (PW.pt (pw_or (pt_cmpR (op_neD hr.units) (pe_call (ok_read T) (hr.mono (by decide)) (by rfl) T.f_read.g T.f_read.F.kp T.f_read.b .nil pass0 (pa_cons (pv 4) (pa_cons (pv 3) (pa_cons pe_int pa_nil)))) (pe_tup (pa_cons pe_int (pa_cons pe_int pa_nil))) (nomark _)) (pw_or (pt_cmpR (op_neD hr.units) (pe_call (ok_read T) (hr.mono (by decide)) (by rfl) T.f_read.g T.f_read.F.kp T.f_read.b .nil pass0 (pa_cons (pv 5) (pa_cons (pv 3) (pa_cons pe_int pa_nil)))) (pe_tup (pa_cons pe_int (pa_cons pe_int pa_nil))) (nomark _)) (pw_or (pt_cmpR op_ne (pe_call (ok_read T) (hr.mono (by decide)) (by rfl) T.f_read.g T.f_read.F.kp T.f_read.b .nil pass0 (pa_cons (pv 6) (pa_cons (pv 3) (pa_cons pe_int pa_nil)))) pe_str (nomark _)) (pw_or1 (pt_cmpR op_ne (pe_call (ok_to_instant T) (hr.mono (by decide)) (by rfl) T.f_to_instant.g T.f_to_instant.F.kp T.f_to_instant.b .nil pass0 (pa_cons (pv 5) (pa_cons (pv 3) (pa_cons (pe_tup (pa_cons pe_int (pa_cons pe_int pa_nil))) pa_nil)))) pe_int (nomark _))))))) (pss_one (ps_ret pe_bl)) pss_nil) (pss_cons (ps_if (PW.pt (pw_or (pt_cmpR (op_neD hr.units) (pe_call (ok_from_instant T) (hr.mono (by decide)) (by rfl) T.f_from_instant.g T.f_from_instant.F.kp T.f_from_instant.b .nil pass0 (pa_cons (pv 4) (pa_cons (pv 3) (pa_cons pe_int pa_nil)))) (pe_tup (pa_cons pe_int (pa_cons pe_int pa_nil))) (nomark _)) (pw_or (pt_cmpR (op_neD hr.units) (pe_call (ok_from_instant T) (hr.mono (by decide)) (by rfl) T.f_from_instant.g T.f_from_instant.F.kp T.f_from_instant.b .nil pass0 (pa_cons (pv 5) (pa_cons (pv 3) (pa_cons pe_int pa_nil)))) (pe_tup (pa_cons pe_int (pa_cons pe_int pa_nil))) (nomark _)) (pw_or1 (pt_cmpR op_notBl (pe_call (ok_is_time T) (hr.mono (by decide)) (by rfl) T.f_is_time.g T.f_is_time.F.kp T.f_is_time.b .nil pass0 (pa_cons (pv 5) (pa_cons (pv 3) (pa_cons (pe_tup (pa_cons pe_int (pa_cons pe_int pa_nil))) pa_nil)))) pe_bl (nomark _)))))) (pss_one (ps_ret pe_bl)) pss_nil) (pss_cons (ps_if (PW.pt (pw_or (pt_cmpR (op_neD hr.units) (pe_call (ok_add T) (hr.mono (by decide)) (by rfl) T.f_add.g T.f_add.F.kp T.f_add.b .nil pass0 (pa_cons (pv 4) (pa_cons (pv 3) (pa_cons (pe_tup (pa_cons pe_int (pa_cons pe_int pa_nil))) (pa_cons pe_int pa_nil))))) (pe_tup (pa_cons pe_int (pa_cons pe_int pa_nil))) (nomark _)) (pw_or (pt_cmpR (op_neD hr.units) (pe_call (ok_add T) (hr.mono (by decide)) (by rfl) T.f_add.g T.f_add.F.kp T.f_add.b .nil pass0 (pa_cons (pv 5) (pa_cons (pv 3) (pa_cons (pe_tup (pa_cons pe_int (pa_cons pe_int pa_nil))) (pa_cons (pv 2) pa_nil))))) (pe_tup (pa_cons (pe_op op_add pe_int (pv 2)) (pa_cons pe_int pa_nil))) (nomark _)) (pw_or1 (pt_cmpR (op_neD hr.units) (pe_call (ok_add T) (hr.mono (by decide)) (by rfl) T.f_add.g T.f_add.F.kp T.f_add.b .nil pass0 (pa_cons (pv 4) (pa_cons (pv 3) (pa_cons (pe_tup (pa_cons pe_int (pa_cons pe_int pa_nil))) (pa_cons (pe_op op_add pe_int (pv 2)) pa_nil))))) (pe_tup (pa_cons (pe_op op_add pe_int (pv 2)) (pa_cons pe_int pa_nil))) (nomark _)))))) (pss_one (ps_ret pe_bl)) pss_nil) (pss_cons (ps_if (PW.pt (pw_or (pt_cmpR op_ne (pe_call (ok_subtract T) (hr.mono (by decide)) (by rfl) T.f_subtract.g T.f_subtract.F.kp T.f_subtract.b .nil pass0 (pa_cons (pv 4) (pa_cons (pv 3) (pa_cons (pe_tup (pa_cons pe_int (pa_cons pe_int pa_nil))) (pa_cons (pe_tup (pa_cons pe_int (pa_cons pe_int pa_nil))) pa_nil))))) pe_int (nomark _)) (pw_or (pt_cmpR op_ne (pe_call (ok_subtract T) (hr.mono (by decide)) (by rfl) T.f_subtract.g T.f_subtract.F.kp T.f_subtract.b .nil pass0 (pa_cons (pv 5) (pa_cons (pv 3) (pa_cons (pe_tup (pa_cons pe_int (pa_cons pe_int pa_nil))) (pa_cons (pe_tup (pa_cons pe_int (pa_cons pe_int pa_nil))) pa_nil))))) pe_int (nomark _)) (pw_or1 (pt_cmpR op_ne (pe_call (ok_compare T) (hr.mono (by decide)) (by rfl) T.f_compare.g T.f_compare.F.kp T.f_compare.b .nil pass0 (pa_cons (pv 4) (pa_cons (pv 3) (pa_cons (pe_tup (pa_cons pe_int (pa_cons pe_int pa_nil))) (pa_cons (pe_tup (pa_cons pe_int (pa_cons pe_int pa_nil))) pa_nil))))) (pe_un un_neg pe_int) (nomark _)))))) (pss_one (ps_ret pe_bl)) pss_nil) (pss_cons (ps_if (PW.pt (pw_or (pt_cmpR op_ne (pe_call (ok_compare T) (hr.mono (by decide)) (by rfl) T.f_compare.g T.f_compare.F.kp T.f_compare.b .nil pass0 (pa_cons (pe_tup (pa_cons pe_str (pa_cons pe_str (pa_cons pe_str (pa_cons pe_str pa_nil))))) (pa_cons (pv 3) (pa_cons (pe_tup (pa_cons pe_int (pa_cons pe_int pa_nil))) (pa_cons (pe_tup (pa_cons pe_int (pa_cons pe_int pa_nil))) pa_nil))))) pe_int (nomark _)) (pw_or1 (pt_cmpR op_ne (pe_call (ok_subtract T) (hr.mono (by decide)) (by rfl) T.f_subtract.g T.f_subtract.F.kp T.f_subtract.b .nil pass0 (pa_cons (pv 4) (pa_cons (pv 3) (pa_cons (pe_tup (pa_cons pe_int (pa_cons pe_int pa_nil))) (pa_cons (pe_tup (pa_cons pe_int (pa_cons pe_int pa_nil))) pa_nil))))) pe_int (nomark _))))) (pss_one (ps_ret pe_bl)) pss_nil) (pss_cons (ps_if (PW.pt (pw_or (pt_cmpR op_notBl (pe_call (ok_holds T) (hr.mono (by decide)) (by rfl) T.f_holds.g T.f_holds.F.kp T.f_holds.b .nil pass0 (pa_cons (pv 4) (pa_cons pe_str (pa_cons pe_str pa_nil)))) pe_bl (nomark _)) (pw_or (pt_cmpR op_notBl (pe_call (ok_holds T) (hr.mono (by decide)) (by rfl) T.f_holds.g T.f_holds.F.kp T.f_holds.b .nil pass0 (pa_cons (pv 4) (pa_cons pe_str (pa_cons pe_str pa_nil)))) pe_bl (nomark _)) (pw_or1 (pt_cmpR op_notBl (pe_call (ok_holds T) (hr.mono (by decide)) (by rfl) T.f_holds.g T.f_holds.F.kp T.f_holds.b .nil pass0 (pa_cons (pv 5) (pa_cons pe_str (pa_cons pe_str pa_nil)))) pe_bl (nomark _)))))) (pss_one (ps_ret pe_bl)) pss_nil) (pss_cons (ps_if (PW.pt (pw_or (pt_cmpR (op_neD hr.units) (pe_call (ok_counterexample T) (hr.mono (by decide)) (by rfl) T.f_counterexample.g T.f_counterexample.F.kp T.f_counterexample.b .nil pass0 (pa_cons (pv 5) (pa_cons pe_str (pa_cons pe_str pa_nil)))) (pe_tup (pa_cons (pe_tup (pa_cons pe_int (pa_cons (pe_tup (pa_cons (pe_tup (pa_cons pe_int (pa_cons pe_int pa_nil))) pa_nil)) pa_nil))) (pa_cons (pe_tup (pa_cons (pe_tup (pa_cons (pe_un un_neg pe_int) (pa_cons pe_int pa_nil))) (pa_cons pe_int pa_nil))) pa_nil))) (nomark _)) (pw_or1 (pt_cmpR (op_neD hr.units) (pe_call (ok_counterexample T) (hr.mono (by decide)) (by rfl) T.f_counterexample.g T.f_counterexample.F.kp T.f_counterexample.b .nil pass0 (pa_cons (pv 4) (pa_cons pe_str (pa_cons pe_str pa_nil)))) (pe_tup (pa_cons (pe_tup (pa_cons pe_int (pa_cons (pe_tup (pa_cons (pe_tup (pa_cons pe_int (pa_cons (pe_un un_neg pe_int) pa_nil))) pa_nil)) pa_nil))) (pa_cons (pe_tup (pa_cons (pe_tup (pa_cons (pe_un un_neg pe_int) (pa_cons pe_int pa_nil))) pa_nil)) pa_nil))) (nomark _))))) (pss_one (ps_ret pe_bl)) pss_nil) (pss_cons (ps_if (PW.pt (pw_or (pt_cmpR op_notBl (pe_call (ok_holds_for T) (hr.mono (by decide)) (by rfl) T.f_holds_for.g T.f_holds_for.F.kp T.f_holds_for.b .nil pass0 (pa_cons (pv 5) (pa_cons (pv 3) (pa_cons pe_str (pa_cons (pe_tup (pa_cons (pe_tup (pa_cons pe_int (pa_cons pe_int pa_nil))) (pa_cons pe_int pa_nil))) pa_nil))))) pe_bl (nomark _)) (pw_or1 (pt_cmpR op_notBl (pe_call (ok_holds_for T) (hr.mono (by decide)) (by rfl) T.f_holds_for.g T.f_holds_for.F.kp T.f_holds_for.b .nil pass0 (pa_cons (pv 6) (pa_cons (pv 3) (pa_cons pe_str (pa_cons (pe_tup (pa_cons pe_int pa_nil)) pa_nil))))) pe_bl (nomark _))))) (pss_one (ps_ret pe_bl)) pss_nil) (pss_cons (ps_if (PW.pt (pw_or (pt_cmpR op_ne (pe_callB call_len_seq (by rfl) T.z_len (by decide +kernel) (pa_cons (pe_call (ok_profile T) (hr.mono (by decide)) (by rfl) T.f_profile.g T.f_profile.F.kp T.f_profile.b .nil pass0 (pa_cons (pv 5) (pa_cons pe_str pa_nil))) pa_nil)) pe_int (nomark _)) (pw_or (pt_cmpR op_ne (pe_callB call_len_seq (by rfl) T.z_len (by decide +kernel) (pa_cons (pe_call (ok_profile T) (hr.mono (by decide)) (by rfl) T.f_profile.g T.f_profile.F.kp T.f_profile.b .nil pass0 (pa_cons (pv 4) (pa_cons pe_str pa_nil))) pa_nil)) pe_int (nomark _)) (pw_or1 (pt_cmpR (op_neD hr.units) (pe_call (ok_most_rules T) (hr.mono (by decide)) (by rfl) T.f_most_rules.g T.f_most_rules.F.kp T.f_most_rules.b .nil pass0 (pa_cons pe_str pa_nil)) (pe_tup (pa_cons (pe_tup (pa_cons pe_str (pa_cons pe_str (pa_cons pe_str (pa_cons pe_str pa_nil))))) pa_nil)) (nomark _)))))) (pss_one (ps_ret pe_bl)) pss_nil) (pss_cons (ps_if (PW.pt (pw_or (pt_cmpR op_notBl (pe_call (ok_implies T) (hr.mono (by decide)) (by rfl) T.f_implies.g T.f_implies.F.kp T.f_implies.b .nil pass0 (pa_cons pe_str (pa_cons pe_str (pa_cons pe_str pa_nil)))) pe_bl (nomark _)) (pw_or1 (pt_cmpR op_notBl (pe_call (ok_implies T) (hr.mono (by decide)) (by rfl) T.f_implies.g T.f_implies.F.kp T.f_implies.b .nil pass0 (pa_cons pe_str (pa_cons pe_str (pa_cons pe_str pa_nil)))) pe_bl (nomark _))))) (pss_one (ps_ret pe_bl)) pss_nil) (pss_cons (ps_if (PW.pt (pw_or (pt_cmpR (op_neD hr.units) (pe_call (ok_parting T) (hr.mono (by decide)) (by rfl) T.f_parting.g T.f_parting.F.kp T.f_parting.b .nil pass0 (pa_cons pe_str (pa_cons pe_str (pa_cons pe_str pa_nil)))) (pe_tup (pa_cons pe_str (pa_cons pe_str (pa_cons pe_str (pa_cons pe_str pa_nil))))) (nomark _)) (pw_or1 (pt_cmpR op_ne (pe_callB call_len_seq (by rfl) T.z_len (by decide +kernel) (pa_cons (pe_call0 (ok_all_libraries T) (hr.mono (by decide)) (by rfl) T.f_all_libraries.g T.f_all_libraries.F.kp T.f_all_libraries.b .nil pass0) pa_nil)) pe_int (nomark _))))) (pss_one (ps_ret pe_bl)) pss_nil) (pss_one (ps_ret (pe_cmpR (op_eqD hr.units) (pe_call (ok_libraries_with T) (hr.mono (by decide)) (by rfl) T.f_libraries_with.g T.f_libraries_with.F.kp T.f_libraries_with.b .nil pass0 (pa_cons pe_str (pa_cons (pe_tup (pa_cons pe_str (pa_cons pe_str pa_nil))) pa_nil))) (pe_tup (pa_cons (pe_tup (pa_cons pe_str (pa_cons pe_str (pa_cons pe_str (pa_cons pe_str pa_nil))))) (pa_cons (pe_tup (pa_cons pe_str (pa_cons pe_str (pa_cons pe_str (pa_cons pe_str pa_nil))))) pa_nil))) (nomark _)))))))))))))))))))), ?_⟩
  walk_at "gg"
  refine g_newL (by simp) fun r H1 n1 e1 h1 => ?_
  walk_at "gg"
  have R1 : Row K H1 (r, a, ns) := Row.new hs n1 e1 h1 (by omega) (by omega)
  refine ⟨(r, a, ns), _, rfl, R1, by omega, by omega, fun n H2 n0 n9 f2 R2 => ?_⟩
  walk_at "gg"
  refine ⟨_, _, rfl, .str _, (fun h => nomatch h), fun _ => ⟨"1 0:2 100:1", rfl, by decide +kernel, fun h => absurd h (by decide +kernel), fun _ zv H3 e3 dz => ?_⟩⟩
  have hz3 : ZV K H3 zv z0 := dav_zone (by rw [show encZ z0 = readD "1 0:2 100:1" from by kernel_rfl]; exact dz)
  clear dz
  walk_at "qq"
  refine g_tup ?_
  walk_at "qq"
  refine g_litP (K := K) fun av H4 e4 d4 => ?_
  walk_at "qq"
  refine g_litP (K := K) fun nv H5 e5 d5 => ?_
  walk_at "qq"
  refine g_litP (K := K) fun ev H6 e6 d6 => ?_
  walk_at "qq"
  refine g_newT (by simp) fun p7 H7 n7 e7 h7 => ?_
  walk_at "m"
  walk_at "m"
  walk_at "m"
  walk_at "m"
  walk_at "m"
  walk_at "m"
  walk_at "m"
  walk_at "m"
  have I7 : KI K zv av nv ev H7 := ⟨hz3.tr (TrT.of (((e4.trans e5).trans e6).trans e7)), (way_dp (w := wA) d4).tr (TrT.of ((e5.trans e6).trans e7)), (way_dp (w := wN) d5).tr (TrT.of (e6.trans e7)), (way_dp (w := wE) d6).tr (TrT.of e7)⟩
  generalize H7 = H0 at I7
  clear e7 h7 n7 e6 d6 e5 d5 e4 d4 e3 hz3 f2 R2 R1 e1 n1 h1

  refine g_cut1 (P := fun σ' H' => σ' = [some (.ref a), some (.ref r), some (.int n), some zv, some av, some nv, some ev] ∧ KI K zv av nv ev H') (fun rest' hrest => ?_) ?_
  · have I := I7
    have E0 := Evl.Ex.refl H0
    walk_at "qq"
    refine ⟨_, z0, rfl, (I.ex E0).z, okz, fun H1 e1 => ?_⟩
    have E1 := E0.trans e1
    walk_at "qq"
    refine ⟨_, z0, 99, rfl, (I.ex E1).z, okz, by omega, by omega, fun H2 e2 => ?_⟩
    have E2 := E1.trans e2
    walk_at "qq"
    refine ⟨_, z0, 100, rfl, (I.ex E2).z, okz, by omega, by omega, fun H3 e3 => ?_⟩
    have E3 := E2.trans e3
    walk_at "qq"
    refine ⟨_, z0, 1, rfl, (I.ex E3).z, okz, by omega, by omega, fun p4 H4 ns4 n4 e4 h4 rs4 ms4 => ?_⟩
    have E4 := E3.trans e4
    obtain rfl : ns4 = [] := (ints_is (OkZ.of okz) rs4 ms4).trans (by decide +kernel)
    walk_at "qq"
    show tTup _ _ _ _
    refine g_litP (K := K) fun v5 H5 e5 hd5 => ?_
    have E5 := E4.trans e5
    refine g_neDp true (dp_ex e5 (.tup h4.sq (dp_ints []))) hd5 (by decide +kernel) ?_
    walk_at "qq"
    refine ⟨_, z0, 101, rfl, (I.ex E5).z, okz, by omega, by omega, fun p6 H6 ns6 n6 e6 h6 rs6 ms6 => ?_⟩
    have E6 := E5.trans e6
    obtain rfl : ns6 = [99, 100] := (ints_is (OkZ.of okz) rs6 ms6).trans (by decide +kernel)
    walk_at "qq"
    show tTup _ _ _ _
    refine g_litP (K := K) fun v7 H7 e7 hd7 => ?_
    have E7 := E6.trans e7
    refine g_neDp true (dp_ex e7 (.tup h6.sq (dp_ints [99, 100]))) hd7 (by decide +kernel) ?_
    walk_at "qq"
    exact hrest _ _ ⟨rfl, I.ex E7⟩
  clear I7
  rintro σ H0 ⟨rfl, I7⟩
  refine g_cut1 (P := fun σ' H' => σ' = [some (.ref a), some (.ref r), some (.int n), some zv, some av, some nv, some ev] ∧ KI K zv av nv ev H') (fun rest' hrest => ?_) ?_
  · have I := I7
    have E0 := Evl.Ex.refl H0
    walk_at "qq"
    refine ⟨_, _, wA, z0, 1, rfl, (I.ex E0).a, (I.ex E0).z, okz, by omega, by omega, fun v1 H1 e1 hv1 => ?_⟩
    have E1 := E0.trans e1
    have hv1 := tv_is hv1 (show _ = some (2, 0) from by decide +kernel)
    walk_at "qq"
    show tTup _ _ _ _
    refine g_litP (K := K) fun v2 H2 e2 hd2 => ?_
    have E2 := E1.trans e2
    refine g_neDp true (dp_ex e2 (TV.dp hv1)) hd2 (by decide +kernel) ?_
    walk_at "qq"
    refine ⟨_, _, wN, z0, 1, rfl, (I.ex E2).n, (I.ex E2).z, okz, by omega, by omega, fun v3 H3 e3 hv3 => ?_⟩
    have E3 := E2.trans e3
    have hv3 := tv_is hv3 (show _ = some (1, 0) from by decide +kernel)
    walk_at "qq"
    show tTup _ _ _ _
    refine g_litP (K := K) fun v4 H4 e4 hd4 => ?_
    have E4 := E3.trans e4
    refine g_neDp true (dp_ex e4 (TV.dp hv3)) hd4 (by decide +kernel) ?_
    walk_at "qq"
    refine ⟨_, _, wE, z0, 1, rfl, (I.ex E4).e, (I.ex E4).z, okz, by omega, by omega, fun v5 H5 e5 hv5 => ?_⟩
    have E5 := E4.trans e5
    have hv5 := tv_is hv5 (show _ = none from by decide +kernel)
    cases (show v5 = .str "refused" from hv5)
    walk_at "qq"
    refine (evT_t (K := K) evI_lit evI_lit) _ _ _ fun v6 H6 e6 hv6 => ?_
    have E6 := E5.trans e6
    walk_at "qq"
    refine ⟨_, _, _, wN, z0, (1, 0), rfl, (I.ex E6).n, (I.ex E6).z, okz, (argT (t := (1, 0)) hv6 (by decide +kernel)), fun H7 e7 => ?_⟩
    have E7 := E6.trans e7
    walk_at "qq"
    exact hrest _ _ ⟨rfl, I.ex E7⟩
  clear I7
  rintro σ H0 ⟨rfl, I7⟩
  refine g_cut1 (P := fun σ' H' => σ' = [some (.ref a), some (.ref r), some (.int n), some zv, some av, some nv, some ev] ∧ KI K zv av nv ev H') (fun rest' hrest => ?_) ?_
  · have I := I7
    have E0 := Evl.Ex.refl H0
    walk_at "qq"
    refine ⟨_, _, wA, z0, 100, rfl, (I.ex E0).a, (I.ex E0).z, okz, by omega, by omega, fun v1 H1 e1 hv1 => ?_⟩
    have E1 := E0.trans e1
    have hv1 := tv_is hv1 (show _ = some (101, 1) from by decide +kernel)
    walk_at "qq"
    show tTup _ _ _ _
    refine g_litP (K := K) fun v2 H2 e2 hd2 => ?_
    have E2 := E1.trans e2
    refine g_neDp true (dp_ex e2 (TV.dp hv1)) hd2 (by decide +kernel) ?_
    walk_at "qq"
    refine ⟨_, _, wN, z0, 100, rfl, (I.ex E2).n, (I.ex E2).z, okz, by omega, by omega, fun v3 H3 e3 hv3 => ?_⟩
    have E3 := E2.trans e3
    have hv3 := tv_is hv3 (show _ = some (101, 0) from by decide +kernel)
    walk_at "qq"
    show tTup _ _ _ _
    refine g_litP (K := K) fun v4 H4 e4 hd4 => ?_
    have E4 := E3.trans e4
    refine g_neDp true (dp_ex e4 (TV.dp hv3)) hd4 (by decide +kernel) ?_
    walk_at "qq"
    refine (evT_t (K := K) evI_lit evI_lit) _ _ _ fun v5 H5 e5 hv5 => ?_
    have E5 := E4.trans e5
    walk_at "qq"
    refine ⟨_, _, _, wN, z0, (101, 1), rfl, (I.ex E5).n, (I.ex E5).z, okz, hv5, by decide, by decide, .inr rfl, fun H6 e6 => ?_⟩
    have E6 := E5.trans e6
    walk_at "qq"
    exact hrest _ _ ⟨rfl, I.ex E6⟩
  clear I7
  rintro σ H0 ⟨rfl, I7⟩
  refine g_cut1 (P := fun σ' H' => σ' = [some (.ref a), some (.ref r), some (.int n), some zv, some av, some nv, some ev] ∧ KI K zv av nv ev H') (fun rest' hrest => ?_) ?_
  · have I := I7
    have E0 := Evl.Ex.refl H0
    walk_at "qq"
    refine (evT_t (K := K) evI_lit evI_lit) _ _ _ fun v1 H1 e1 hv1 => ?_
    have E1 := E0.trans e1
    walk_at "qq"
    refine ⟨_, _, _, wA, z0, (101, 0), 1, rfl, (I.ex E1).a, (I.ex E1).z, okz, (argT (t := (101, 0)) hv1 (by decide +kernel)), by omega, by omega, fun v2 H2 e2 hv2 => ?_⟩
    have E2 := E1.trans e2
    have hv2 := tv_is hv2 (show _ = some (101, 1) from by decide +kernel)
    walk_at "qq"
    show tTup _ _ _ _
    refine g_litP (K := K) fun v3 H3 e3 hd3 => ?_
    have E3 := E2.trans e3
    refine g_neDp true (dp_ex e3 (TV.dp hv2)) hd3 (by decide +kernel) ?_
    walk_at "qq"
    refine (evT_t (K := K) evI_lit evI_lit) _ _ _ fun v4 H4 e4 hv4 => ?_
    have E4 := E3.trans e4
    walk_at "qq"
    refine ⟨_, _, _, wN, z0, (101, 0), n, rfl, (I.ex E4).n, (I.ex E4).z, okz, (argT (t := (101, 0)) hv4 (by decide +kernel)), by omega, by omega, fun v5 H5 e5 hv5 => ?_⟩
    have E5 := E4.trans e5
    have hv5 := tv_is hv5 (add_n1 n0 n9)
    walk_at "gg"
    refine g_newT (by simp) fun p6 H6 n6 e6 h6 => ?_
    have E6 := E5.trans e6
    refine g_neT (hv5.tr (TrT.of e6)) (b := some (101 + n, 0)) ⟨p6, rfl, SqT.of h6⟩ ?_
    rw [decide_eq_true rfl]
    walk_at "qq"
    refine (evT_t (K := K) evI_lit evI_lit) _ _ _ fun v7 H7 e7 hv7 => ?_
    have E7 := E6.trans e7
    walk_at "qq"
    refine ⟨_, _, _, wA, z0, (0, 0), (1 + n), rfl, (I.ex E7).a, (I.ex E7).z, okz, (argT (t := (0, 0)) hv7 (by decide +kernel)), by omega, by omega, fun v8 H8 e8 hv8 => ?_⟩
    have E8 := E7.trans e8
    have hv8 := tv_is hv8 (add_n2 n0 n9)
    walk_at "gg"
    refine g_newT (by simp) fun p9 H9 n9 e9 h9 => ?_
    have E9 := E8.trans e9
    refine g_neT (hv8.tr (TrT.of e9)) (b := some (2 + n, 0)) ⟨p9, rfl, SqT.of h9⟩ ?_
    rw [decide_eq_true rfl]
    walk_at "qq"
    exact hrest _ _ ⟨rfl, I.ex E9⟩
  clear I7
  rintro σ H0 ⟨rfl, I7⟩
  refine g_cut1 (P := fun σ' H' => σ' = [some (.ref a), some (.ref r), some (.int n), some zv, some av, some nv, some ev] ∧ KI K zv av nv ev H') (fun rest' hrest => ?_) ?_
  · have I := I7
    have E0 := Evl.Ex.refl H0
    walk_at "qq"
    refine (evT_t (K := K) evI_lit evI_lit) _ _ _ fun v1 H1 e1 hv1 => ?_
    have E1 := E0.trans e1
    walk_at "qq"
    refine (evT_t (K := K) evI_lit evI_lit) _ _ _ fun v2 H2 e2 hv2 => ?_
    have E2 := E1.trans e2
    walk_at "qq"
    refine ⟨_, _, _, _, wA, z0, (101, 1), (101, 0), rfl, (I.ex E2).a, (I.ex E2).z, okz, (argT (t := (101, 1)) (hv1.tr (TrT.of e2)) (by decide +kernel)), (argT (t := (101, 0)) hv2 (by decide +kernel)), fun H3 e3 => ?_⟩
    have E3 := E2.trans e3
    walk_at "qq"
    refine (evT_t (K := K) evI_lit evI_lit) _ _ _ fun v4 H4 e4 hv4 => ?_
    have E4 := E3.trans e4
    walk_at "qq"
    refine (evT_t (K := K) evI_lit evI_lit) _ _ _ fun v5 H5 e5 hv5 => ?_
    have E5 := E4.trans e5
    walk_at "qq"
    refine ⟨_, _, _, _, wN, z0, (2, 0), (0, 0), rfl, (I.ex E5).n, (I.ex E5).z, okz, (argT (t := (2, 0)) (hv4.tr (TrT.of e5)) (by decide +kernel)), (argT (t := (0, 0)) hv5 (by decide +kernel)), fun H6 e6 => ?_⟩
    have E6 := E5.trans e6
    walk_at "qq"
    refine (evT_t (K := K) evI_lit evI_lit) _ _ _ fun v7 H7 e7 hv7 => ?_
    have E7 := E6.trans e7
    walk_at "qq"
    refine (evT_t (K := K) evI_lit evI_lit) _ _ _ fun v8 H8 e8 hv8 => ?_
    have E8 := E7.trans e8
    walk_at "qq"
    refine ⟨_, _, _, _, wA, z0, (101, 0), (101, 1), rfl, (I.ex E8).a, (I.ex E8).z, okz, (argT (t := (101, 0)) (hv7.tr (TrT.of e8)) (by decide +kernel)), (argT (t := (101, 1)) hv8 (by decide +kernel)), fun H9 e9 => ?_⟩
    have E9 := E8.trans e9
    walk_at "qq"
    exact hrest _ _ ⟨rfl, I.ex E9⟩
  clear I7
  rintro σ H0 ⟨rfl, I7⟩
  refine g_cut1 (P := fun σ' H' => σ' = [some (.ref a), some (.ref r), some (.int n), some zv, some av, some nv, some ev] ∧ KI K zv av nv ev H') (fun rest' hrest => ?_) ?_
  · have I := I7
    have E0 := Evl.Ex.refl H0
    walk_at "qq"
    show tTup _ _ _ _
    refine g_litP (K := K) fun v1 H1 e1 hd1 => ?_
    have E1 := E0.trans e1
    have hw1 := way_dp (w := wB) hd1
    walk_at "qq"
    refine (evT_t (K := K) evI_lit evI_lit) _ _ _ fun v2 H2 e2 hv2 => ?_
    have E2 := E1.trans e2
    walk_at "qq"
    refine (evT_t (K := K) evI_lit evI_lit) _ _ _ fun v3 H3 e3 hv3 => ?_
    have E3 := E2.trans e3
    walk_at "qq"
    refine ⟨_, _, _, _, wB, z0, (101, 0), (101, 1), rfl, hw1.tr (TrT.of (e2.trans e3)), (I.ex E3).z, okz, (argT (t := (101, 0)) (hv2.tr (TrT.of e3)) (by decide +kernel)), (argT (t := (101, 1)) hv3 (by decide +kernel)), fun H4 e4 => ?_⟩
    have E4 := E3.trans e4
    walk_at "qq"
    refine (evT_t (K := K) evI_lit evI_lit) _ _ _ fun v5 H5 e5 hv5 => ?_
    have E5 := E4.trans e5
    walk_at "qq"
    refine (evT_t (K := K) evI_lit evI_lit) _ _ _ fun v6 H6 e6 hv6 => ?_
    have E6 := E5.trans e6
    walk_at "qq"
    refine ⟨_, _, _, _, wA, z0, (2, 0), (0, 0), rfl, (I.ex E6).a, (I.ex E6).z, okz, (argT (t := (2, 0)) (hv5.tr (TrT.of e6)) (by decide +kernel)), (argT (t := (0, 0)) hv6 (by decide +kernel)), fun H7 e7 => ?_⟩
    have E7 := E6.trans e7
    walk_at "qq"
    exact hrest _ _ ⟨rfl, I.ex E7⟩
  clear I7
  rintro σ H0 ⟨rfl, I7⟩
  refine g_cut1 (P := fun σ' H' => σ' = [some (.ref a), some (.ref r), some (.int n), some zv, some av, some nv, some ev] ∧ KI K zv av nv ev H') (fun rest' hrest => ?_) ?_
  · have I := I7
    have E0 := Evl.Ex.refl H0
    walk_at "qq"
    refine ⟨_, wA, "both", .elapsed, rfl, (I.ex E0).a, .inr (.inr (.inr rfl)), fun H1 e1 => ?_⟩
    have E1 := E0.trans e1
    walk_at "qq"
    refine ⟨_, wA, "both", .same, rfl, (I.ex E1).a, .inr (.inr (.inr rfl)), fun H2 e2 => ?_⟩
    have E2 := E1.trans e2
    walk_at "qq"
    refine ⟨_, wN, "both", .same, rfl, (I.ex E2).n, .inr (.inr (.inr rfl)), fun H3 e3 => ?_⟩
    have E3 := E2.trans e3
    walk_at "qq"
    exact hrest _ _ ⟨rfl, I.ex E3⟩
  clear I7
  rintro σ H0 ⟨rfl, I7⟩
  refine g_cut1 (P := fun σ' H' => σ' = [some (.ref a), some (.ref r), some (.int n), some zv, some av, some nv, some ev] ∧ KI K zv av nv ev H') (fun rest' hrest => ?_) ?_
  · have I := I7
    have E0 := Evl.Ex.refl H0
    walk_at "qq"
    refine ⟨_, wN, "both", .elapsed, rfl, (I.ex E0).n, .inr (.inr (.inr rfl)), fun v1 H1 e1 hv1 => ?_⟩
    have E1 := E0.trans e1
    have hv1 := dp_cex hv1 (show _ = some ((0, [(0, 2)]), [.t (-1, 0), .i 3]) from rfl)
    walk_at "qq"
    show tTup _ _ _ _
    refine g_litP (K := K) fun v2 H2 e2 hd2 => ?_
    have E2 := E1.trans e2
    refine g_neDp true (dp_ex e2 hv1) hd2 (by decide +kernel) ?_
    walk_at "qq"
    refine ⟨_, wA, "repeats", .same, rfl, (I.ex E2).a, .inr (.inr (.inl rfl)), fun v3 H3 e3 hv3 => ?_⟩
    have E3 := E2.trans e3
    have hv3 := dp_cex hv3 (show _ = some ((0, [(0, -2)]), [.t (-3, 0)]) from rfl)
    walk_at "qq"
    show tTup _ _ _ _
    refine g_litP (K := K) fun v4 H4 e4 hd4 => ?_
    have E4 := E3.trans e4
    refine g_neDp true (dp_ex e4 hv3) hd4 (by decide +kernel) ?_
    walk_at "qq"
    exact hrest _ _ ⟨rfl, I.ex E4⟩
  clear I7
  rintro σ H0 ⟨rfl, I7⟩
  refine g_cut1 (P := fun σ' H' => σ' = [some (.ref a), some (.ref r), some (.int n), some zv, some av, some nv, some ev] ∧ KI K zv av nv ev H') (fun rest' hrest => ?_) ?_
  · have I := I7
    have E0 := Evl.Ex.refl H0
    walk_at "qq"
    refine g_args (K := K) (its := [.t (101, 0), .i 1]) ?_ (by decide) fun v1 H1 e1 hv1 => ?_
    · walk_at "lt"
    have E1 := E0.trans e1
    obtain ⟨pa1, xa1, rfl, qa1, ia1⟩ := hv1
    walk_at "qq"
    refine ⟨_, _, wN, z0, .later, pa1, xa1, [.t (101, 0), .i 1], rfl, (I.ex E1).n, (I.ex E1).z, okz, qa1, ia1, .cons (.inl ⟨rfl, _, rfl, (by decide +kernel : (101, 0) ∈ times wN z0 101), by decide, by decide⟩) (.cons (.inr (.inl ⟨rfl, _, rfl, by decide, by decide⟩)) .nil), fun H2 e2 => ?_⟩
    have E2 := E1.trans e2
    walk_at "qq"
    refine g_args (K := K) (its := [.i 1]) ?_ (by decide) fun v3 H3 e3 hv3 => ?_
    · walk_at "lt"
    have E3 := E2.trans e3
    obtain ⟨pa3, xa3, rfl, qa3, ia3⟩ := hv3
    walk_at "qq"
    refine ⟨_, _, wE, z0, .every, pa3, xa3, [.i 1], rfl, (I.ex E3).e, (I.ex E3).z, okz, qa3, ia3, .cons (.inr (.inr ⟨by decide +kernel, by decide +kernel, _, rfl, by decide, by decide⟩)) .nil, fun H4 e4 => ?_⟩
    have E4 := E3.trans e4
    walk_at "qq"
    exact hrest _ _ ⟨rfl, I.ex E4⟩
  clear I7
  rintro σ H0 ⟨rfl, I7⟩
  refine g_cut1 (P := fun σ' H' => σ' = [some (.ref a), some (.ref r), some (.int n), some zv, some av, some nv, some ev] ∧ KI K zv av nv ev H') (fun rest' hrest => ?_) ?_
  · have I := I7
    have E0 := Evl.Ex.refl H0
    walk_at "qq"
    refine ⟨_, wN, "fixed", rfl, (I.ex E0).n, .inl rfl, fun p1 H1 e1 h1 => ?_⟩
    have E1 := E0.trans e1
    walk_at "qq"
    refine g_lenT h1 ?_
    rw [List.length_map]
    walk_at "qq"
    refine ⟨_, wA, "both", rfl, (I.ex E1).a, .inr (.inr (.inr rfl)), fun p2 H2 e2 h2 => ?_⟩
    have E2 := E1.trans e2
    walk_at "qq"
    refine g_lenT h2 ?_
    rw [List.length_map]
    walk_at "qq"
    refine ⟨"both", rfl, .inr (.inr (.inr rfl)), fun m p3 xs3 H3 top e3 h3 pw3 => ?_⟩
    have E3 := E2.trans e3
    obtain rfl := top.one top16
    rw [best16] at pw3
    walk_at "qq"
    show tTup _ _ _ _
    refine g_litP (K := K) fun v4 H4 e4 hd4 => ?_
    have E4 := E3.trans e4
    refine g_neDp true (dp_ex e4 (.tup h3 (dp_ways pw3))) hd4 (by decide +kernel) ?_
    walk_at "qq"
    exact hrest _ _ ⟨rfl, I.ex E4⟩
  clear I7
  rintro σ H0 ⟨rfl, I7⟩
  refine g_cut1 (P := fun σ' H' => σ' = [some (.ref a), some (.ref r), some (.int n), some zv, some av, some nv, some ev] ∧ KI K zv av nv ev H') (fun rest' hrest => ?_) ?_
  · have I := I7
    have E0 := Evl.Ex.refl H0
    walk_at "qq"
    refine ⟨"both", .elapsed, .sumD, rfl, .inr (.inr (.inr rfl)), fun H1 e1 => ?_⟩
    have E1 := E0.trans e1
    walk_at "qq"
    refine ⟨"both", .sumD, .elapsed, rfl, .inr (.inr (.inr rfl)), fun H2 e2 => ?_⟩
    have E2 := E1.trans e2
    walk_at "qq"
    exact hrest _ _ ⟨rfl, I.ex E2⟩
  clear I7
  rintro σ H0 ⟨rfl, I7⟩
  refine g_cut1 (P := fun σ' H' => σ' = [some (.ref a), some (.ref r), some (.int n), some zv, some av, some nv, some ev] ∧ KI K zv av nv ev H') (fun rest' hrest => ?_) ?_
  · have I := I7
    have E0 := Evl.Ex.refl H0
    walk_at "qq"
    refine ⟨"skips", .same, .toU, rfl, .inr (.inl rfl), fun v1 H1 e1 hv1 => ?_⟩
    have E1 := E0.trans e1
    have hv1 : WayV K H1 v1 _ := ow_is hv1 part1
    walk_at "qq"
    show tTup _ _ _ _
    refine g_litP (K := K) fun v2 H2 e2 hd2 => ?_
    have E2 := E1.trans e2
    refine g_neDp true (dp_ex e2 (dp_way hv1)) hd2 (by decide +kernel) ?_
    walk_at "qq"
    refine ⟨rfl, fun p3 xs3 H3 e3 h3 pw3 => ?_⟩
    have E3 := E2.trans e3
    walk_at "qq"
    refine g_lenT h3 ?_
    rw [Paired.length pw3, allWays_48]
    walk_at "qq"
    exact hrest _ _ ⟨rfl, I.ex E3⟩
  clear I7
  rintro σ H0 ⟨rfl, I7⟩
  walk_at "qq"
  refine g_tup ?_
  walk_at "mm"
  refine g_newT (by simp) fun p1 H1 n1 e1 h1 => ?_
  walk_at "qq"
  refine ⟨"both", p1, [.elapsed, .every], rfl, .inr (.inr (.inr rfl)), SqT.of h1, by decide, by decide, fun p2 xs2 H2 e2 h2 pw2 => ?_⟩
  rw [with1] at pw2
  walk_at "qq"
  show tTup _ _ _ _
  refine g_litP (K := K) fun v3 H3 e3 hd3 => ?_
  refine g_eqDp true (dp_ex e3 (.tup h2 (dp_ways pw2))) hd3 (by decide +kernel) ?_
  exact k _
end
end TH
set_option maxHeartbeats 0
namespace TH
open PySem PySem.Spec PyProof.Rows L2
theorem facts {P : Program} {w : World} {K : PySem.W.Frag} {h : Heap} {mg : Str → Option Value} {f : Addr} (X : K.In h) (G : h.Ns mainGlobals mg) (hfa : mg ("law" : Str) = some (.ref f)) (c : He.SaysX fa fn ts tfs (psB ps) w h K) :
    ∃ fd : FuncData, (∀ (s : Shared) (v : Value), BindsTo s fd ⟨[v], []⟩ [("script", v)]) ∧ ∀ base : Heap, K.In base → base.Ns mainGlobals mg → FnOk P w K mg base CX0 10 f fd ["script"] (sp_law K) := by
  have cp : ∀ (i : Nat) {p : PySem.W.Frag → Bool}, ps[i]? = some p → p K = true := fun i p hp => psB_at c.more hp
  obtain ⟨fd0, F0⟩ := c.t.d.def_ 0 (d := d_arguments_in_gap) rfl
  have b0 : Binds K fd0 ["library", "rule"] [] := FunD.bindsN F0 fun _ _ _ _ _ _ us hl => match us, hl with | [_, _], _ => rfl
  obtain ⟨fd1, F1⟩ := c.t.d.def_ 1 (d := d_arguments_in_fold) rfl
  have b1 : Binds K fd1 ["library", "rule"] [] := FunD.bindsN F1 fun _ _ _ _ _ _ us hl => match us, hl with | [_, _], _ => rfl
  obtain ⟨fd2, F2⟩ := c.t.d.def_ 2 (d := d_arguments_in_fold_for_wall_sums) rfl
  have b2 : Binds K fd2 ["fold", "rule"] [] := FunD.bindsN F2 fun _ _ _ _ _ _ us hl => match us, hl with | [_, _], _ => rfl
  obtain ⟨fd3, F3⟩ := c.t.d.def_ 3 (d := d_arguments_in_fold_for_elapsed_sums) rfl
  have b3 : Binds K fd3 ["fold", "rule"] [] := FunD.bindsN F3 fun _ _ _ _ _ _ us hl => match us, hl with | [_, _], _ => rfl
  obtain ⟨fd4, F4⟩ := c.t.d.def_ 4 (d := d_holds_over_gaps) rfl
  have b4 : Binds K fd4 ["library", "rule"] [] := FunD.bindsN F4 fun _ _ _ _ _ _ us hl => match us, hl with | [_, _], _ => rfl
  obtain ⟨fd5, F5⟩ := c.t.d.def_ 5 (d := d_holds_over_folds) rfl
  have b5 : Binds K fd5 ["library", "rule"] [] := FunD.bindsN F5 fun _ _ _ _ _ _ us hl => match us, hl with | [_, _], _ => rfl
  obtain ⟨fd6, F6⟩ := c.t.d.def_ 6 (d := d_offset_in_force) rfl
  have b6 : Binds K fd6 ["zone", "instant"] [] := FunD.bindsN F6 fun _ _ _ _ _ _ us hl => match us, hl with | [_, _], _ => rfl
  obtain ⟨fd7, F7⟩ := c.t.d.def_ 7 (d := d_instants_with) rfl
  have b7 : Binds K fd7 ["zone", "reading"] [] := FunD.bindsN F7 fun _ _ _ _ _ _ us hl => match us, hl with | [_, _], _ => rfl
  obtain ⟨fd8, F8⟩ := c.t.d.def_ 8 (d := d_offset_before_gap) rfl
  have b8 : Binds K fd8 ["zone", "reading"] [] := FunD.bindsN F8 fun _ _ _ _ _ _ us hl => match us, hl with | [_, _], _ => rfl
  obtain ⟨fd9, F9⟩ := c.t.d.def_ 9 (d := d_passes_at) rfl
  have b9 : Binds K fd9 ["library", "zone", "reading"] [] := FunD.bindsN F9 fun _ _ _ _ _ _ us hl => match us, hl with | [_, _, _], _ => rfl
  obtain ⟨fd10, F10⟩ := c.t.d.def_ 10 (d := d_instant_of_time) rfl
  have b10 : Binds K fd10 ["library", "zone", "time"] [] := FunD.bindsN F10 fun _ _ _ _ _ _ us hl => match us, hl with | [_, _, _], _ => rfl
  obtain ⟨fd11, F11⟩ := c.t.d.def_ 11 (d := d_time_at) rfl
  have b11 : Binds K fd11 ["library", "zone", "instant"] [] := FunD.bindsN F11 fun _ _ _ _ _ _ us hl => match us, hl with | [_, _, _], _ => rfl
  obtain ⟨fd12, F12⟩ := c.t.d.def_ 12 (d := d_time_read) rfl
  have b12 : Binds K fd12 ["library", "zone", "reading"] [] := FunD.bindsN F12 fun _ _ _ _ _ _ us hl => match us, hl with | [_, _, _], _ => rfl
  obtain ⟨fd13, F13⟩ := c.t.d.def_ 13 (d := d_is_between) rfl
  have b13 : Binds K fd13 ["value", "low", "high"] [] := FunD.bindsN F13 fun _ _ _ _ _ _ us hl => match us, hl with | [_, _, _], _ => rfl
  obtain ⟨fd14, F14⟩ := c.t.d.def_ 14 (d := d_is_tuple_of) rfl
  have b14 : Binds K fd14 ["many", "value"] [] := FunD.bindsN F14 fun _ _ _ _ _ _ us hl => match us, hl with | [_, _], _ => rfl
  obtain ⟨fd15, F15⟩ := c.t.d.def_ 15 (d := d_is_instant) rfl
  have b15 : Binds K fd15 ["value"] [] := FunD.bindsN F15 fun _ _ _ _ _ _ us hl => match us, hl with | [_], _ => rfl
  obtain ⟨fd16, F16⟩ := c.t.d.def_ 16 (d := d_is_reading) rfl
  have b16 : Binds K fd16 ["value"] [] := FunD.bindsN F16 fun _ _ _ _ _ _ us hl => match us, hl with | [_], _ => rfl
  obtain ⟨fd17, F17⟩ := c.t.d.def_ 17 (d := d_is_duration) rfl
  have b17 : Binds K fd17 ["value"] [] := FunD.bindsN F17 fun _ _ _ _ _ _ us hl => match us, hl with | [_], _ => rfl
  obtain ⟨fd18, F18⟩ := c.t.d.def_ 18 (d := d_is_zone) rfl
  have b18 : Binds K fd18 ["value"] [] := FunD.bindsN F18 fun _ _ _ _ _ _ us hl => match us, hl with | [_], _ => rfl
  obtain ⟨fd19, F19⟩ := c.t.d.def_ 19 (d := d_are_changes_after) rfl
  have b19 : Binds K fd19 ["offset", "changes"] [] := FunD.bindsN F19 fun _ _ _ _ _ _ us hl => match us, hl with | [_, _], _ => rfl
  obtain ⟨fd20, F20⟩ := c.t.d.def_ 20 (d := d_is_change_after) rfl
  have b20 : Binds K fd20 ["before", "earliest", "value"] [] := FunD.bindsN F20 fun _ _ _ _ _ _ us hl => match us, hl with | [_, _, _], _ => rfl
  obtain ⟨fd21, F21⟩ := c.t.d.def_ 21 (d := d_check_zone) rfl
  have b21 : Binds K fd21 ["value"] [] := FunD.bindsN F21 fun _ _ _ _ _ _ us hl => match us, hl with | [_], _ => rfl
  obtain ⟨fd22, F22⟩ := c.t.d.def_ 22 (d := d_check_instant) rfl
  have b22 : Binds K fd22 ["value"] [] := FunD.bindsN F22 fun _ _ _ _ _ _ us hl => match us, hl with | [_], _ => rfl
  obtain ⟨fd23, F23⟩ := c.t.d.def_ 23 (d := d_check_reading) rfl
  have b23 : Binds K fd23 ["value"] [] := FunD.bindsN F23 fun _ _ _ _ _ _ us hl => match us, hl with | [_], _ => rfl
  obtain ⟨fd24, F24⟩ := c.t.d.def_ 24 (d := d_offset_at) rfl
  have b24 : Binds K fd24 ["zone", "instant"] [] := FunD.bindsN F24 fun _ _ _ _ _ _ us hl => match us, hl with | [_, _], _ => rfl
  obtain ⟨fd25, F25⟩ := c.t.d.def_ 25 (d := d_kind_of) rfl
  have b25 : Binds K fd25 ["zone"] [] := FunD.bindsN F25 fun _ _ _ _ _ _ us hl => match us, hl with | [_], _ => rfl
  obtain ⟨fd26, F26⟩ := c.t.d.def_ 26 (d := d_instants_of) rfl
  have b26 : Binds K fd26 ["zone", "reading"] [] := FunD.bindsN F26 fun _ _ _ _ _ _ us hl => match us, hl with | [_, _], _ => rfl
  obtain ⟨fd27, F27⟩ := c.t.d.def_ 27 (d := d_is_library) rfl
  have b27 : Binds K fd27 ["value"] [] := FunD.bindsN F27 fun _ _ _ _ _ _ us hl => match us, hl with | [_], _ => rfl
  obtain ⟨fd28, F28⟩ := c.t.d.def_ 28 (d := d_all_libraries) rfl
  have b28 : Binds K fd28 [] [] := FunD.bindsN F28 fun _ _ _ _ _ _ us hl => match us, hl with | [], _ => rfl
  obtain ⟨fd29, F29⟩ := c.t.d.def_ 29 (d := d_check_library) rfl
  have b29 : Binds K fd29 ["value"] [] := FunD.bindsN F29 fun _ _ _ _ _ _ us hl => match us, hl with | [_], _ => rfl
  obtain ⟨fd30, F30⟩ := c.t.d.def_ 30 (d := d_is_time) rfl
  have b30 : Binds K fd30 ["library", "zone", "value"] [] := FunD.bindsN F30 fun _ _ _ _ _ _ us hl => match us, hl with | [_, _, _], _ => rfl
  obtain ⟨fd31, F31⟩ := c.t.d.def_ 31 (d := d_check_time) rfl
  have b31 : Binds K fd31 ["library", "zone", "value"] [] := FunD.bindsN F31 fun _ _ _ _ _ _ us hl => match us, hl with | [_, _, _], _ => rfl
  obtain ⟨fd32, F32⟩ := c.t.d.def_ 32 (d := d_to_instant) rfl
  have b32 : Binds K fd32 ["library", "zone", "time"] [] := FunD.bindsN F32 fun _ _ _ _ _ _ us hl => match us, hl with | [_, _, _], _ => rfl
  obtain ⟨fd33, F33⟩ := c.t.d.def_ 33 (d := d_from_instant) rfl
  have b33 : Binds K fd33 ["library", "zone", "instant"] [] := FunD.bindsN F33 fun _ _ _ _ _ _ us hl => match us, hl with | [_, _, _], _ => rfl
  obtain ⟨fd34, F34⟩ := c.t.d.def_ 34 (d := d_read) rfl
  have b34 : Binds K fd34 ["library", "zone", "reading"] [] := FunD.bindsN F34 fun _ _ _ _ _ _ us hl => match us, hl with | [_, _, _], _ => rfl
  obtain ⟨fd35, F35⟩ := c.t.d.def_ 35 (d := d_place_of) rfl
  have b35 : Binds K fd35 ["way", "library", "zone", "time"] [] := FunD.bindsN F35 fun _ _ _ _ _ _ us hl => match us, hl with | [_, _, _, _], _ => rfl
  obtain ⟨fd36, F36⟩ := c.t.d.def_ 36 (d := d_time_after) rfl
  have b36 : Binds K fd36 ["library", "zone", "time", "duration"] [] := FunD.bindsN F36 fun _ _ _ _ _ _ us hl => match us, hl with | [_, _, _, _], _ => rfl
  obtain ⟨fd37, F37⟩ := c.t.d.def_ 37 (d := d_hours_between) rfl
  have b37 : Binds K fd37 ["library", "zone", "one", "other"] [] := FunD.bindsN F37 fun _ _ _ _ _ _ us hl => match us, hl with | [_, _, _, _], _ => rfl
  obtain ⟨fd38, F38⟩ := c.t.d.def_ 38 (d := d_order_of) rfl
  have b38 : Binds K fd38 ["library", "zone", "one", "other"] [] := FunD.bindsN F38 fun _ _ _ _ _ _ us hl => match us, hl with | [_, _, _, _], _ => rfl
  obtain ⟨fd39, F39⟩ := c.t.d.def_ 39 (d := d_from_universal_and_back) rfl
  have b39 : Binds K fd39 ["library", "zone", "instant"] [] := FunD.bindsN F39 fun _ _ _ _ _ _ us hl => match us, hl with | [_, _, _], _ => rfl
  obtain ⟨fd40, F40⟩ := c.t.d.def_ 40 (d := d_to_universal_and_back) rfl
  have b40 : Binds K fd40 ["library", "zone", "time"] [] := FunD.bindsN F40 fun _ _ _ _ _ _ us hl => match us, hl with | [_, _, _], _ => rfl
  obtain ⟨fd41, F41⟩ := c.t.d.def_ 41 (d := d_every_reading) rfl
  have b41 : Binds K fd41 ["library", "zone", "reading"] [] := FunD.bindsN F41 fun _ _ _ _ _ _ us hl => match us, hl with | [_, _, _], _ => rfl
  obtain ⟨fd42, F42⟩ := c.t.d.def_ 42 (d := d_some_reading) rfl
  have b42 : Binds K fd42 ["library", "zone", "reading"] [] := FunD.bindsN F42 fun _ _ _ _ _ _ us hl => match us, hl with | [_, _, _], _ => rfl
  obtain ⟨fd43, F43⟩ := c.t.d.def_ 43 (d := d_there_and_back) rfl
  have b43 : Binds K fd43 ["library", "zone", "time", "duration"] [] := FunD.bindsN F43 fun _ _ _ _ _ _ us hl => match us, hl with | [_, _, _, _], _ => rfl
  obtain ⟨fd44, F44⟩ := c.t.d.def_ 44 (d := d_sum_of_durations) rfl
  have b44 : Binds K fd44 ["library", "zone", "time", "duration", "more"] [] := FunD.bindsN F44 fun _ _ _ _ _ _ us hl => match us, hl with | [_, _, _, _, _], _ => rfl
  obtain ⟨fd45, F45⟩ := c.t.d.def_ 45 (d := d_elapsed_time) rfl
  have b45 : Binds K fd45 ["library", "zone", "time", "duration"] [] := FunD.bindsN F45 fun _ _ _ _ _ _ us hl => match us, hl with | [_, _, _, _], _ => rfl
  obtain ⟨fd46, F46⟩ := c.t.d.def_ 46 (d := d_same_clock) rfl
  have b46 : Binds K fd46 ["library", "zone", "time"] [] := FunD.bindsN F46 fun _ _ _ _ _ _ us hl => match us, hl with | [_, _, _], _ => rfl
  obtain ⟨fd47, F47⟩ := c.t.d.def_ 47 (d := d_later) rfl
  have b47 : Binds K fd47 ["library", "zone", "time", "duration"] [] := FunD.bindsN F47 fun _ _ _ _ _ _ us hl => match us, hl with | [_, _, _, _], _ => rfl
  obtain ⟨fd48, F48⟩ := c.t.d.def_ 48 (d := d_sums_told) rfl
  have b48 : Binds K fd48 ["library", "zone", "time", "duration"] [] := FunD.bindsN F48 fun _ _ _ _ _ _ us hl => match us, hl with | [_, _, _, _], _ => rfl
  obtain ⟨fd49, F49⟩ := c.t.d.def_ 49 (d := d_difference_recovers) rfl
  have b49 : Binds K fd49 ["library", "zone", "one", "other"] [] := FunD.bindsN F49 fun _ _ _ _ _ _ us hl => match us, hl with | [_, _, _, _], _ => rfl
  obtain ⟨fd50, F50⟩ := c.t.d.def_ 50 (d := d_order_by_difference) rfl
  have b50 : Binds K fd50 ["library", "zone", "one", "other"] [] := FunD.bindsN F50 fun _ _ _ _ _ _ us hl => match us, hl with | [_, _, _, _], _ => rfl
  obtain ⟨fd51, F51⟩ := c.t.d.def_ 51 (d := d_have_one_instant) rfl
  have b51 : Binds K fd51 ["library", "zone", "one", "other"] [] := FunD.bindsN F51 fun _ _ _ _ _ _ us hl => match us, hl with | [_, _, _, _], _ => rfl
  obtain ⟨fd52, F52⟩ := c.t.d.def_ 52 (d := d_equal_means_one_instant) rfl
  have b52 : Binds K fd52 ["library", "zone", "one", "other"] [] := FunD.bindsN F52 fun _ _ _ _ _ _ us hl => match us, hl with | [_, _, _, _], _ => rfl
  obtain ⟨fd53, F53⟩ := c.t.d.def_ 53 (d := d_one_instant_means_equal) rfl
  have b53 : Binds K fd53 ["library", "zone", "one", "other"] [] := FunD.bindsN F53 fun _ _ _ _ _ _ us hl => match us, hl with | [_, _, _, _], _ => rfl
  obtain ⟨fd54, F54⟩ := c.t.d.def_ 54 (d := d_one_instant_one_time) rfl
  have b54 : Binds K fd54 ["library", "zone", "one", "other"] [] := FunD.bindsN F54 fun _ _ _ _ _ _ us hl => match us, hl with | [_, _, _, _], _ => rfl
  obtain ⟨fd55, F55⟩ := c.t.d.def_ 55 (d := d_order_of_instants) rfl
  have b55 : Binds K fd55 ["library", "zone", "one", "other"] [] := FunD.bindsN F55 fun _ _ _ _ _ _ us hl => match us, hl with | [_, _, _, _], _ => rfl
  obtain ⟨fd56, F56⟩ := c.t.d.def_ 56 (d := d_order_kept) rfl
  have b56 : Binds K fd56 ["library", "zone", "one", "other", "duration"] [] := FunD.bindsN F56 fun _ _ _ _ _ _ us hl => match us, hl with | [_, _, _, _, _], _ => rfl
  obtain ⟨fd57, F57⟩ := c.t.d.def_ 57 (d := d_equal_sums) rfl
  have b57 : Binds K fd57 ["library", "zone", "one", "other", "duration"] [] := FunD.bindsN F57 fun _ _ _ _ _ _ us hl => match us, hl with | [_, _, _, _, _], _ => rfl
  obtain ⟨fd58, F58⟩ := c.t.d.def_ 58 (d := d_are_sums_in_order) rfl
  have b58 : Binds K fd58 ["wanted", "library", "zone", "one", "other", "duration"] [] := FunD.bindsN F58 fun _ _ _ _ _ _ us hl => match us, hl with | [_, _, _, _, _, _], _ => rfl
  obtain ⟨fd59, F59⟩ := c.t.d.def_ 59 (d := d_is_true_of) rfl
  have b59 : Binds K fd59 ["library", "zone", "rule", "arguments"] [] := FunD.bindsN F59 fun _ _ _ _ _ _ us hl => match us, hl with | [_, _, _, _], _ => rfl
  obtain ⟨fd60, F60⟩ := c.t.d.def_ 60 (d := d_rules) rfl
  have b60 : Binds K fd60 [] [] := FunD.bindsN F60 fun _ _ _ _ _ _ us hl => match us, hl with | [], _ => rfl
  obtain ⟨fd61, F61⟩ := c.t.d.def_ 61 (d := d_is_rule) rfl
  have b61 : Binds K fd61 ["value"] [] := FunD.bindsN F61 fun _ _ _ _ _ _ us hl => match us, hl with | [_], _ => rfl
  obtain ⟨fd62, F62⟩ := c.t.d.def_ 62 (d := d_check_rule) rfl
  have b62 : Binds K fd62 ["value"] [] := FunD.bindsN F62 fun _ _ _ _ _ _ us hl => match us, hl with | [_], _ => rfl
  obtain ⟨fd63, F63⟩ := c.t.d.def_ 63 (d := d_holds_for) rfl
  have b63 : Binds K fd63 ["library", "zone", "rule", "arguments"] [] := FunD.bindsN F63 fun _ _ _ _ _ _ us hl => match us, hl with | [_, _, _, _], _ => rfl
  obtain ⟨fd64, F64⟩ := c.t.d.def_ 64 (d := d_are_arguments) rfl
  have b64 : Binds K fd64 ["library", "zone", "words", "value"] [] := FunD.bindsN F64 fun _ _ _ _ _ _ us hl => match us, hl with | [_, _, _, _], _ => rfl
  obtain ⟨fd65, F65⟩ := c.t.d.def_ 65 (d := d_is_argument) rfl
  have b65 : Binds K fd65 ["library", "zone", "word", "value"] [] := FunD.bindsN F65 fun _ _ _ _ _ _ us hl => match us, hl with | [_, _, _, _], _ => rfl
  obtain ⟨fd66, F66⟩ := c.t.d.def_ 66 (d := d_check_kind) rfl
  have b66 : Binds K fd66 ["value"] [] := FunD.bindsN F66 fun _ _ _ _ _ _ us hl => match us, hl with | [_], _ => rfl
  obtain ⟨fd67, F67⟩ := c.t.d.def_ 67 (d := d_holds) rfl
  have b67 : Binds K fd67 ["library", "kind", "rule"] [] := FunD.bindsN F67 fun _ _ _ _ _ _ us hl => match us, hl with | [_, _, _], _ => rfl
  obtain ⟨fd68, F68⟩ := c.t.d.def_ 68 (d := d_counterexample) rfl
  have b68 : Binds K fd68 ["library", "kind", "rule"] [] := FunD.bindsN F68 fun _ _ _ _ _ _ us hl => match us, hl with | [_, _, _], _ => rfl
  obtain ⟨fd69, F69⟩ := c.t.d.def_ 69 (d := d_check_rules) rfl
  have b69 : Binds K fd69 ["value"] [] := FunD.bindsN F69 fun _ _ _ _ _ _ us hl => match us, hl with | [_], _ => rfl
  obtain ⟨fd70, F70⟩ := c.t.d.def_ 70 (d := d_profile) rfl
  have b70 : Binds K fd70 ["library", "kind"] [] := FunD.bindsN F70 fun _ _ _ _ _ _ us hl => match us, hl with | [_, _], _ => rfl
  obtain ⟨fd71, F71⟩ := c.t.d.def_ 71 (d := d_implies) rfl
  have b71 : Binds K fd71 ["kind", "one", "other"] [] := FunD.bindsN F71 fun _ _ _ _ _ _ us hl => match us, hl with | [_, _, _], _ => rfl
  obtain ⟨fd72, F72⟩ := c.t.d.def_ 72 (d := d_parting) rfl
  have b72 : Binds K fd72 ["kind", "one", "other"] [] := FunD.bindsN F72 fun _ _ _ _ _ _ us hl => match us, hl with | [_, _, _], _ => rfl
  obtain ⟨fd73, F73⟩ := c.t.d.def_ 73 (d := d_libraries_with) rfl
  have b73 : Binds K fd73 ["kind", "wanted"] [] := FunD.bindsN F73 fun _ _ _ _ _ _ us hl => match us, hl with | [_, _], _ => rfl
  obtain ⟨fd74, F74⟩ := c.t.d.def_ 74 (d := d_keeps_all) rfl
  have b74 : Binds K fd74 ["library", "kind", "wanted"] [] := FunD.bindsN F74 fun _ _ _ _ _ _ us hl => match us, hl with | [_, _, _], _ => rfl
  obtain ⟨fd75, F75⟩ := c.t.d.def_ 75 (d := d_most_rules) rfl
  have b75 : Binds K fd75 ["kind"] [] := FunD.bindsN F75 fun _ _ _ _ _ _ us hl => match us, hl with | [_], _ => rfl
  obtain ⟨fd76, F76⟩ := c.t.d.def_ 76 (d := d_check_duration) rfl
  have b76 : Binds K fd76 ["value"] [] := FunD.bindsN F76 fun _ _ _ _ _ _ us hl => match us, hl with | [_], _ => rfl
  obtain ⟨fd77, F77⟩ := c.t.d.def_ 77 (d := d_add) rfl
  have b77 : Binds K fd77 ["library", "zone", "time", "duration"] [] := FunD.bindsN F77 fun _ _ _ _ _ _ us hl => match us, hl with | [_, _, _, _], _ => rfl
  obtain ⟨fd78, F78⟩ := c.t.d.def_ 78 (d := d_subtract) rfl
  have b78 : Binds K fd78 ["library", "zone", "one", "other"] [] := FunD.bindsN F78 fun _ _ _ _ _ _ us hl => match us, hl with | [_, _, _, _], _ => rfl
  obtain ⟨fd79, F79⟩ := c.t.d.def_ 79 (d := d_compare) rfl
  have b79 : Binds K fd79 ["library", "zone", "one", "other"] [] := FunD.bindsN F79 fun _ _ _ _ _ _ us hl => match us, hl with | [_, _, _, _], _ => rfl
  obtain ⟨fd80, F80⟩ := c.t.d.def_ 80 (d := d_integer_of) rfl
  have b80 : Binds K fd80 ["word"] [] := FunD.bindsN F80 fun _ _ _ _ _ _ us hl => match us, hl with | [_], _ => rfl
  obtain ⟨fd81, F81⟩ := c.t.d.def_ 81 (d := d_check_text) rfl
  have b81 : Binds K fd81 ["value"] [] := FunD.bindsN F81 fun _ _ _ _ _ _ us hl => match us, hl with | [_], _ => rfl
  obtain ⟨fd82, F82⟩ := c.t.d.def_ 82 (d := d_read_zone) rfl
  have b82 : Binds K fd82 ["text"] [] := FunD.bindsN F82 fun _ _ _ _ _ _ us hl => match us, hl with | [_], _ => rfl
  obtain ⟨fd83, F83⟩ := c.t.d.def_ 83 (d := d_change_of) rfl
  have b83 : Binds K fd83 ["word"] [] := FunD.bindsN F83 fun _ _ _ _ _ _ us hl => match us, hl with | [_], _ => rfl
  obtain ⟨fd84, F84⟩ := c.t.d.def_ 84 (d := d_law_taken) rfl
  have b84 : Binds K fd84 ["row", "many"] [] := FunD.bindsN F84 fun _ _ _ _ _ _ us hl => match us, hl with | [_, _], _ => rfl
  obtain ⟨fd85, F85⟩ := c.t.d.def_ 85 (d := d_law) rfl
  have b85 : Binds K fd85 ["script"] [] := FunD.bindsN F85 fun _ _ _ _ _ _ us hl => match us, hl with | [_], _ => rfl
  obtain ⟨u4, g4⟩ := He.str_ok X G (c.t.d.fact 105 (f := .str "REFUSED" "refused") rfl)
  obtain ⟨u5, g5⟩ := He.int_ok X G (c.t.d.fact 106 (f := .int "MOST_INSTANT" 100000) rfl)
  obtain ⟨u6, g6⟩ := He.int_ok X G (c.t.d.fact 107 (f := .int "MOST_READING" 90000) rfl)
  obtain ⟨u7, g7⟩ := He.int_ok X G (c.t.d.fact 108 (f := .int "MOST_DURATION" 9000) rfl)
  obtain ⟨u8, g8⟩ := He.int_ok X G (c.t.d.fact 109 (f := .int "MOST_FIRST_OFFSET" 12) rfl)
  obtain ⟨u9, g9⟩ := He.int_ok X G (c.t.d.fact 110 (f := .int "MOST_CHANGES" 8) rfl)
  obtain ⟨u10, g10⟩ := He.int_ok X G (c.t.d.fact 111 (f := .int "MOST_CHANGE_INSTANT" 1000) rfl)
  obtain ⟨u11, g11⟩ := He.int_ok X G (c.t.d.fact 112 (f := .int "LEAST_DISTANCE" 12) rfl)
  obtain ⟨u12, g12⟩ := He.int_ok X G (c.t.d.fact 113 (f := .int "MOST_STEP" 3) rfl)
  obtain ⟨u13, g13⟩ := He.int_ok X G (c.t.d.fact 114 (f := .int "MOST_LATER_OFFSET" 15) rfl)
  obtain ⟨u18, g18⟩ := He.int_ok X G (c.t.d.fact 119 (f := .int "HOURS_OF_A_DAY" 24) rfl)
  obtain ⟨u21, g21⟩ := He.int_ok X G (c.t.d.fact 122 (f := .int "MOST_DURATION_OF_RULES" 4000) rfl)
  obtain ⟨u25, g25⟩ := He.int_ok X G (c.t.d.fact 126 (f := .int "MOST_DIGITS" 9) rfl)
  obtain ⟨u26, g26⟩ := He.str_ok X G (c.t.d.fact 127 (f := .str "DIGITS" "0123456789") rfl)
  let T : Txt w K mg := ⟨⟨_, fd0, F0, b0, He.glo_ok X G (c.t.d.fact 0 (f := .glo "arguments_in_gap") rfl)⟩,
    ⟨_, fd1, F1, b1, He.glo_ok X G (c.t.d.fact 1 (f := .glo "arguments_in_fold") rfl)⟩,
    ⟨_, fd2, F2, b2, He.glo_ok X G (c.t.d.fact 2 (f := .glo "_arguments_in_fold_for_wall_sums") rfl)⟩,
    ⟨_, fd3, F3, b3, He.glo_ok X G (c.t.d.fact 3 (f := .glo "_arguments_in_fold_for_elapsed_sums") rfl)⟩,
    ⟨_, fd4, F4, b4, He.glo_ok X G (c.t.d.fact 4 (f := .glo "holds_over_gaps") rfl)⟩,
    ⟨_, fd5, F5, b5, He.glo_ok X G (c.t.d.fact 5 (f := .glo "holds_over_folds") rfl)⟩,
    ⟨_, fd6, F6, b6, He.glo_ok X G (c.t.d.fact 6 (f := .glo "offset_in_force") rfl)⟩,
    ⟨_, fd7, F7, b7, He.glo_ok X G (c.t.d.fact 7 (f := .glo "instants_with") rfl)⟩,
    ⟨_, fd8, F8, b8, He.glo_ok X G (c.t.d.fact 8 (f := .glo "offset_before_gap") rfl)⟩,
    ⟨_, fd9, F9, b9, He.glo_ok X G (c.t.d.fact 9 (f := .glo "passes_at") rfl)⟩,
    ⟨_, fd10, F10, b10, He.glo_ok X G (c.t.d.fact 10 (f := .glo "instant_of_time") rfl)⟩,
    ⟨_, fd11, F11, b11, He.glo_ok X G (c.t.d.fact 11 (f := .glo "time_at") rfl)⟩,
    ⟨_, fd12, F12, b12, He.glo_ok X G (c.t.d.fact 12 (f := .glo "time_read") rfl)⟩,
    ⟨_, fd13, F13, b13, He.glo_ok X G (c.t.d.fact 13 (f := .glo "is_between") rfl)⟩,
    ⟨_, fd14, F14, b14, He.glo_ok X G (c.t.d.fact 14 (f := .glo "is_tuple_of") rfl)⟩,
    ⟨_, fd15, F15, b15, He.glo_ok X G (c.t.d.fact 15 (f := .glo "is_instant") rfl)⟩,
    ⟨_, fd16, F16, b16, He.glo_ok X G (c.t.d.fact 16 (f := .glo "is_reading") rfl)⟩,
    ⟨_, fd17, F17, b17, He.glo_ok X G (c.t.d.fact 17 (f := .glo "is_duration") rfl)⟩,
    ⟨_, fd18, F18, b18, He.glo_ok X G (c.t.d.fact 18 (f := .glo "is_zone") rfl)⟩,
    ⟨_, fd19, F19, b19, He.glo_ok X G (c.t.d.fact 19 (f := .glo "_are_changes_after") rfl)⟩,
    ⟨_, fd20, F20, b20, He.glo_ok X G (c.t.d.fact 20 (f := .glo "_is_change_after") rfl)⟩,
    ⟨_, fd21, F21, b21, He.glo_ok X G (c.t.d.fact 21 (f := .glo "check_zone") rfl)⟩,
    ⟨_, fd22, F22, b22, He.glo_ok X G (c.t.d.fact 22 (f := .glo "check_instant") rfl)⟩,
    ⟨_, fd23, F23, b23, He.glo_ok X G (c.t.d.fact 23 (f := .glo "check_reading") rfl)⟩,
    ⟨_, fd24, F24, b24, He.glo_ok X G (c.t.d.fact 24 (f := .glo "offset_at") rfl)⟩,
    ⟨_, fd25, F25, b25, He.glo_ok X G (c.t.d.fact 25 (f := .glo "kind_of") rfl)⟩,
    ⟨_, fd26, F26, b26, He.glo_ok X G (c.t.d.fact 26 (f := .glo "instants_of") rfl)⟩,
    ⟨_, fd27, F27, b27, He.glo_ok X G (c.t.d.fact 27 (f := .glo "is_library") rfl)⟩,
    ⟨_, fd28, F28, b28, He.glo_ok X G (c.t.d.fact 28 (f := .glo "all_libraries") rfl)⟩,
    ⟨_, fd29, F29, b29, He.glo_ok X G (c.t.d.fact 29 (f := .glo "check_library") rfl)⟩,
    ⟨_, fd30, F30, b30, He.glo_ok X G (c.t.d.fact 30 (f := .glo "is_time") rfl)⟩,
    ⟨_, fd31, F31, b31, He.glo_ok X G (c.t.d.fact 31 (f := .glo "check_time") rfl)⟩,
    ⟨_, fd32, F32, b32, He.glo_ok X G (c.t.d.fact 32 (f := .glo "to_instant") rfl)⟩,
    ⟨_, fd33, F33, b33, He.glo_ok X G (c.t.d.fact 33 (f := .glo "from_instant") rfl)⟩,
    ⟨_, fd34, F34, b34, He.glo_ok X G (c.t.d.fact 34 (f := .glo "read") rfl)⟩,
    ⟨_, fd35, F35, b35, He.glo_ok X G (c.t.d.fact 35 (f := .glo "place_of") rfl)⟩,
    ⟨_, fd36, F36, b36, He.glo_ok X G (c.t.d.fact 36 (f := .glo "time_after") rfl)⟩,
    ⟨_, fd37, F37, b37, He.glo_ok X G (c.t.d.fact 37 (f := .glo "hours_between") rfl)⟩,
    ⟨_, fd38, F38, b38, He.glo_ok X G (c.t.d.fact 38 (f := .glo "order_of") rfl)⟩,
    ⟨_, fd39, F39, b39, He.glo_ok X G (c.t.d.fact 39 (f := .glo "_from_universal_and_back") rfl)⟩,
    ⟨_, fd40, F40, b40, He.glo_ok X G (c.t.d.fact 40 (f := .glo "_to_universal_and_back") rfl)⟩,
    ⟨_, fd41, F41, b41, He.glo_ok X G (c.t.d.fact 41 (f := .glo "_every_reading") rfl)⟩,
    ⟨_, fd42, F42, b42, He.glo_ok X G (c.t.d.fact 42 (f := .glo "_some_reading") rfl)⟩,
    ⟨_, fd43, F43, b43, He.glo_ok X G (c.t.d.fact 43 (f := .glo "_there_and_back") rfl)⟩,
    ⟨_, fd44, F44, b44, He.glo_ok X G (c.t.d.fact 44 (f := .glo "_sum_of_durations") rfl)⟩,
    ⟨_, fd45, F45, b45, He.glo_ok X G (c.t.d.fact 45 (f := .glo "_elapsed_time") rfl)⟩,
    ⟨_, fd46, F46, b46, He.glo_ok X G (c.t.d.fact 46 (f := .glo "_same_clock") rfl)⟩,
    ⟨_, fd47, F47, b47, He.glo_ok X G (c.t.d.fact 47 (f := .glo "_later") rfl)⟩,
    ⟨_, fd48, F48, b48, He.glo_ok X G (c.t.d.fact 48 (f := .glo "_sums_told") rfl)⟩,
    ⟨_, fd49, F49, b49, He.glo_ok X G (c.t.d.fact 49 (f := .glo "_difference_recovers") rfl)⟩,
    ⟨_, fd50, F50, b50, He.glo_ok X G (c.t.d.fact 50 (f := .glo "_order_by_difference") rfl)⟩,
    ⟨_, fd51, F51, b51, He.glo_ok X G (c.t.d.fact 51 (f := .glo "_have_one_instant") rfl)⟩,
    ⟨_, fd52, F52, b52, He.glo_ok X G (c.t.d.fact 52 (f := .glo "_equal_means_one_instant") rfl)⟩,
    ⟨_, fd53, F53, b53, He.glo_ok X G (c.t.d.fact 53 (f := .glo "_one_instant_means_equal") rfl)⟩,
    ⟨_, fd54, F54, b54, He.glo_ok X G (c.t.d.fact 54 (f := .glo "_one_instant_one_time") rfl)⟩,
    ⟨_, fd55, F55, b55, He.glo_ok X G (c.t.d.fact 55 (f := .glo "_order_of_instants") rfl)⟩,
    ⟨_, fd56, F56, b56, He.glo_ok X G (c.t.d.fact 56 (f := .glo "_order_kept") rfl)⟩,
    ⟨_, fd57, F57, b57, He.glo_ok X G (c.t.d.fact 57 (f := .glo "_equal_sums") rfl)⟩,
    ⟨_, fd58, F58, b58, He.glo_ok X G (c.t.d.fact 58 (f := .glo "_are_sums_in_order") rfl)⟩,
    ⟨_, fd59, F59, b59, He.glo_ok X G (c.t.d.fact 59 (f := .glo "is_true_of") rfl)⟩,
    ⟨_, fd60, F60, b60, He.glo_ok X G (c.t.d.fact 60 (f := .glo "rules") rfl)⟩,
    ⟨_, fd61, F61, b61, He.glo_ok X G (c.t.d.fact 61 (f := .glo "is_rule") rfl)⟩,
    ⟨_, fd62, F62, b62, He.glo_ok X G (c.t.d.fact 62 (f := .glo "check_rule") rfl)⟩,
    ⟨_, fd63, F63, b63, He.glo_ok X G (c.t.d.fact 63 (f := .glo "holds_for") rfl)⟩,
    ⟨_, fd64, F64, b64, He.glo_ok X G (c.t.d.fact 64 (f := .glo "_are_arguments") rfl)⟩,
    ⟨_, fd65, F65, b65, He.glo_ok X G (c.t.d.fact 65 (f := .glo "_is_argument") rfl)⟩,
    ⟨_, fd66, F66, b66, He.glo_ok X G (c.t.d.fact 66 (f := .glo "check_kind") rfl)⟩,
    ⟨_, fd67, F67, b67, He.glo_ok X G (c.t.d.fact 67 (f := .glo "holds") rfl)⟩,
    ⟨_, fd68, F68, b68, He.glo_ok X G (c.t.d.fact 68 (f := .glo "counterexample") rfl)⟩,
    ⟨_, fd69, F69, b69, He.glo_ok X G (c.t.d.fact 69 (f := .glo "check_rules") rfl)⟩,
    ⟨_, fd70, F70, b70, He.glo_ok X G (c.t.d.fact 70 (f := .glo "profile") rfl)⟩,
    ⟨_, fd71, F71, b71, He.glo_ok X G (c.t.d.fact 71 (f := .glo "implies") rfl)⟩,
    ⟨_, fd72, F72, b72, He.glo_ok X G (c.t.d.fact 72 (f := .glo "parting") rfl)⟩,
    ⟨_, fd73, F73, b73, He.glo_ok X G (c.t.d.fact 73 (f := .glo "libraries_with") rfl)⟩,
    ⟨_, fd74, F74, b74, He.glo_ok X G (c.t.d.fact 74 (f := .glo "_keeps_all") rfl)⟩,
    ⟨_, fd75, F75, b75, He.glo_ok X G (c.t.d.fact 75 (f := .glo "most_rules") rfl)⟩,
    ⟨_, fd76, F76, b76, He.glo_ok X G (c.t.d.fact 76 (f := .glo "check_duration") rfl)⟩,
    ⟨_, fd77, F77, b77, He.glo_ok X G (c.t.d.fact 77 (f := .glo "add") rfl)⟩,
    ⟨_, fd78, F78, b78, He.glo_ok X G (c.t.d.fact 78 (f := .glo "subtract") rfl)⟩,
    ⟨_, fd79, F79, b79, He.glo_ok X G (c.t.d.fact 79 (f := .glo "compare") rfl)⟩,
    ⟨_, fd80, F80, b80, He.glo_ok X G (c.t.d.fact 80 (f := .glo "integer_of") rfl)⟩,
    ⟨_, fd81, F81, b81, He.glo_ok X G (c.t.d.fact 81 (f := .glo "check_text") rfl)⟩,
    ⟨_, fd82, F82, b82, He.glo_ok X G (c.t.d.fact 82 (f := .glo "read_zone") rfl)⟩,
    ⟨_, fd83, F83, b83, He.glo_ok X G (c.t.d.fact 83 (f := .glo "_change_of") rfl)⟩,
    ⟨_, fd84, F84, b84, He.glo_ok X G (c.t.d.fact 84 (f := .glo "_law_taken") rfl)⟩,
    ⟨_, fd85, F85, b85, He.glo_ok X G (c.t.d.fact 85 (f := .glo "law") rfl)⟩,
    gaF "TimeError" K,
    He.glo_ok X G (c.t.d.fact 86 (f := .glo "TimeError") rfl),
    gaF "NotText" K,
    He.glo_ok X G (c.t.d.fact 87 (f := .glo "NotText") rfl),
    errB_ok (cp 102 (p := errB (gaF "NotText")) rfl),
    of_decide_eq_true (cp 103 (p := excB (gaF "NotText") (gaF "TimeError")) rfl),
    gaF "InvalidText" K,
    He.glo_ok X G (c.t.d.fact 88 (f := .glo "InvalidText") rfl),
    errB_ok (cp 104 (p := errB (gaF "InvalidText")) rfl),
    of_decide_eq_true (cp 105 (p := excB (gaF "InvalidText") (gaF "TimeError")) rfl),
    kits_ok (cp 106 (p := kitsB [gaF "NotText", gaF "InvalidText"]) rfl) (cp 107 (p := apartB [gaF "NotText", gaF "InvalidText"]) rfl),
    He.free_ok X G (c.t.d.fact 89 (f := .free "tuple") rfl),
    He.free_ok X G (c.t.d.fact 90 (f := .free "sorted") rfl),
    He.free_ok X G (c.t.d.fact 91 (f := .free "len") rfl),
    He.free_ok X G (c.t.d.fact 92 (f := .free "isinstance") rfl),
    He.free_ok X G (c.t.d.fact 93 (f := .free "bool") rfl),
    He.free_ok X G (c.t.d.fact 94 (f := .free "int") rfl),
    He.free_ok X G (c.t.d.fact 95 (f := .free "abs") rfl),
    He.free_ok X G (c.t.d.fact 96 (f := .free "str") rfl),
    He.free_ok X G (c.t.d.fact 97 (f := .free "all") rfl),
    He.free_ok X G (c.t.d.fact 98 (f := .free "zip") rfl),
    He.free_ok X G (c.t.d.fact 99 (f := .free "set") rfl),
    He.free_ok X G (c.t.d.fact 100 (f := .free "max") rfl),
    He.ga K "IN_GAP",
    He.glo_ok X G (c.t.d.fact 101 (f := .glo "IN_GAP") rfl),
    (c.t.tab 0 (t := (gaF "IN_GAP", ["to universal and back", "every reading", "some reading", "sum of durations", "elapsed time", "sums told", "difference recovers", "order by difference", "one instant means equal", "one instant, one time", "order of instants"])) rfl),
    (itmAt (dctAt (gaF "IN_GAP") "to universal and back") 0 K),
    fun H => tupD_ok (cp 1 (p := tupD (itmAt (dctAt (gaF "IN_GAP") "to universal and back") 0) [.int 0, .int 0]) rfl) H,
    (dctAt (gaF "IN_GAP") "to universal and back" K),
    fun H => tupD_ok (cp 2 (p := tupD (dctAt (gaF "IN_GAP") "to universal and back") [.adr (itmAt (dctAt (gaF "IN_GAP") "to universal and back") 0)]) rfl) H,
    kdct_of (a := gaF "IN_GAP") (c.t.tab 0 (t := (gaF "IN_GAP", ["to universal and back", "every reading", "some reading", "sum of durations", "elapsed time", "sums told", "difference recovers", "order by difference", "one instant means equal", "one instant, one time", "order of instants"])) rfl) (cp 0 (p := valsD (gaF "IN_GAP") [(("to universal and back" : Str), .adr (dctAt (gaF "IN_GAP") "to universal and back")), (("every reading" : Str), .adr (dctAt (gaF "IN_GAP") "every reading")), (("some reading" : Str), .adr (dctAt (gaF "IN_GAP") "some reading")), (("sum of durations" : Str), .adr (dctAt (gaF "IN_GAP") "sum of durations")), (("elapsed time" : Str), .adr (dctAt (gaF "IN_GAP") "elapsed time")), (("sums told" : Str), .adr (dctAt (gaF "IN_GAP") "sums told")), (("difference recovers" : Str), .adr (dctAt (gaF "IN_GAP") "difference recovers")), (("order by difference" : Str), .adr (dctAt (gaF "IN_GAP") "order by difference")), (("one instant means equal" : Str), .adr (dctAt (gaF "IN_GAP") "one instant means equal")), (("one instant, one time" : Str), .adr (dctAt (gaF "IN_GAP") "one instant, one time")), (("order of instants" : Str), .adr (dctAt (gaF "IN_GAP") "order of instants"))]) rfl) (List.mem_of_getElem? (i := 0) rfl),
    (dctAt (gaF "IN_GAP") "every reading" K),
    fun H => tupD_ok (cp 3 (p := tupD (dctAt (gaF "IN_GAP") "every reading") [.int 0]) rfl) H,
    kdct_of (a := gaF "IN_GAP") (c.t.tab 0 (t := (gaF "IN_GAP", ["to universal and back", "every reading", "some reading", "sum of durations", "elapsed time", "sums told", "difference recovers", "order by difference", "one instant means equal", "one instant, one time", "order of instants"])) rfl) (cp 0 (p := valsD (gaF "IN_GAP") [(("to universal and back" : Str), .adr (dctAt (gaF "IN_GAP") "to universal and back")), (("every reading" : Str), .adr (dctAt (gaF "IN_GAP") "every reading")), (("some reading" : Str), .adr (dctAt (gaF "IN_GAP") "some reading")), (("sum of durations" : Str), .adr (dctAt (gaF "IN_GAP") "sum of durations")), (("elapsed time" : Str), .adr (dctAt (gaF "IN_GAP") "elapsed time")), (("sums told" : Str), .adr (dctAt (gaF "IN_GAP") "sums told")), (("difference recovers" : Str), .adr (dctAt (gaF "IN_GAP") "difference recovers")), (("order by difference" : Str), .adr (dctAt (gaF "IN_GAP") "order by difference")), (("one instant means equal" : Str), .adr (dctAt (gaF "IN_GAP") "one instant means equal")), (("one instant, one time" : Str), .adr (dctAt (gaF "IN_GAP") "one instant, one time")), (("order of instants" : Str), .adr (dctAt (gaF "IN_GAP") "order of instants"))]) rfl) (List.mem_of_getElem? (i := 1) rfl),
    (dctAt (gaF "IN_GAP") "some reading" K),
    fun H => tupD_ok (cp 4 (p := tupD (dctAt (gaF "IN_GAP") "some reading") [.int 0]) rfl) H,
    kdct_of (a := gaF "IN_GAP") (c.t.tab 0 (t := (gaF "IN_GAP", ["to universal and back", "every reading", "some reading", "sum of durations", "elapsed time", "sums told", "difference recovers", "order by difference", "one instant means equal", "one instant, one time", "order of instants"])) rfl) (cp 0 (p := valsD (gaF "IN_GAP") [(("to universal and back" : Str), .adr (dctAt (gaF "IN_GAP") "to universal and back")), (("every reading" : Str), .adr (dctAt (gaF "IN_GAP") "every reading")), (("some reading" : Str), .adr (dctAt (gaF "IN_GAP") "some reading")), (("sum of durations" : Str), .adr (dctAt (gaF "IN_GAP") "sum of durations")), (("elapsed time" : Str), .adr (dctAt (gaF "IN_GAP") "elapsed time")), (("sums told" : Str), .adr (dctAt (gaF "IN_GAP") "sums told")), (("difference recovers" : Str), .adr (dctAt (gaF "IN_GAP") "difference recovers")), (("order by difference" : Str), .adr (dctAt (gaF "IN_GAP") "order by difference")), (("one instant means equal" : Str), .adr (dctAt (gaF "IN_GAP") "one instant means equal")), (("one instant, one time" : Str), .adr (dctAt (gaF "IN_GAP") "one instant, one time")), (("order of instants" : Str), .adr (dctAt (gaF "IN_GAP") "order of instants"))]) rfl) (List.mem_of_getElem? (i := 2) rfl),
    (itmAt (dctAt (gaF "IN_GAP") "sum of durations") 0 K),
    fun H => tupD_ok (cp 5 (p := tupD (itmAt (dctAt (gaF "IN_GAP") "sum of durations") 0) [.int (-1), .int 0]) rfl) H,
    (dctAt (gaF "IN_GAP") "sum of durations" K),
    fun H => tupD_ok (cp 6 (p := tupD (dctAt (gaF "IN_GAP") "sum of durations") [.adr (itmAt (dctAt (gaF "IN_GAP") "sum of durations") 0), .int 1, .int 2]) rfl) H,
    kdct_of (a := gaF "IN_GAP") (c.t.tab 0 (t := (gaF "IN_GAP", ["to universal and back", "every reading", "some reading", "sum of durations", "elapsed time", "sums told", "difference recovers", "order by difference", "one instant means equal", "one instant, one time", "order of instants"])) rfl) (cp 0 (p := valsD (gaF "IN_GAP") [(("to universal and back" : Str), .adr (dctAt (gaF "IN_GAP") "to universal and back")), (("every reading" : Str), .adr (dctAt (gaF "IN_GAP") "every reading")), (("some reading" : Str), .adr (dctAt (gaF "IN_GAP") "some reading")), (("sum of durations" : Str), .adr (dctAt (gaF "IN_GAP") "sum of durations")), (("elapsed time" : Str), .adr (dctAt (gaF "IN_GAP") "elapsed time")), (("sums told" : Str), .adr (dctAt (gaF "IN_GAP") "sums told")), (("difference recovers" : Str), .adr (dctAt (gaF "IN_GAP") "difference recovers")), (("order by difference" : Str), .adr (dctAt (gaF "IN_GAP") "order by difference")), (("one instant means equal" : Str), .adr (dctAt (gaF "IN_GAP") "one instant means equal")), (("one instant, one time" : Str), .adr (dctAt (gaF "IN_GAP") "one instant, one time")), (("order of instants" : Str), .adr (dctAt (gaF "IN_GAP") "order of instants"))]) rfl) (List.mem_of_getElem? (i := 3) rfl),
    (itmAt (dctAt (gaF "IN_GAP") "elapsed time") 0 K),
    fun H => tupD_ok (cp 7 (p := tupD (itmAt (dctAt (gaF "IN_GAP") "elapsed time") 0) [.int (-1), .int 0]) rfl) H,
    (dctAt (gaF "IN_GAP") "elapsed time" K),
    fun H => tupD_ok (cp 8 (p := tupD (dctAt (gaF "IN_GAP") "elapsed time") [.adr (itmAt (dctAt (gaF "IN_GAP") "elapsed time") 0), .int 3]) rfl) H,
    kdct_of (a := gaF "IN_GAP") (c.t.tab 0 (t := (gaF "IN_GAP", ["to universal and back", "every reading", "some reading", "sum of durations", "elapsed time", "sums told", "difference recovers", "order by difference", "one instant means equal", "one instant, one time", "order of instants"])) rfl) (cp 0 (p := valsD (gaF "IN_GAP") [(("to universal and back" : Str), .adr (dctAt (gaF "IN_GAP") "to universal and back")), (("every reading" : Str), .adr (dctAt (gaF "IN_GAP") "every reading")), (("some reading" : Str), .adr (dctAt (gaF "IN_GAP") "some reading")), (("sum of durations" : Str), .adr (dctAt (gaF "IN_GAP") "sum of durations")), (("elapsed time" : Str), .adr (dctAt (gaF "IN_GAP") "elapsed time")), (("sums told" : Str), .adr (dctAt (gaF "IN_GAP") "sums told")), (("difference recovers" : Str), .adr (dctAt (gaF "IN_GAP") "difference recovers")), (("order by difference" : Str), .adr (dctAt (gaF "IN_GAP") "order by difference")), (("one instant means equal" : Str), .adr (dctAt (gaF "IN_GAP") "one instant means equal")), (("one instant, one time" : Str), .adr (dctAt (gaF "IN_GAP") "one instant, one time")), (("order of instants" : Str), .adr (dctAt (gaF "IN_GAP") "order of instants"))]) rfl) (List.mem_of_getElem? (i := 4) rfl),
    (itmAt (dctAt (gaF "IN_GAP") "sums told") 0 K),
    fun H => tupD_ok (cp 9 (p := tupD (itmAt (dctAt (gaF "IN_GAP") "sums told") 0) [.int (-1), .int 0]) rfl) H,
    (dctAt (gaF "IN_GAP") "sums told" K),
    fun H => tupD_ok (cp 10 (p := tupD (dctAt (gaF "IN_GAP") "sums told") [.adr (itmAt (dctAt (gaF "IN_GAP") "sums told") 0), .int 1]) rfl) H,
    kdct_of (a := gaF "IN_GAP") (c.t.tab 0 (t := (gaF "IN_GAP", ["to universal and back", "every reading", "some reading", "sum of durations", "elapsed time", "sums told", "difference recovers", "order by difference", "one instant means equal", "one instant, one time", "order of instants"])) rfl) (cp 0 (p := valsD (gaF "IN_GAP") [(("to universal and back" : Str), .adr (dctAt (gaF "IN_GAP") "to universal and back")), (("every reading" : Str), .adr (dctAt (gaF "IN_GAP") "every reading")), (("some reading" : Str), .adr (dctAt (gaF "IN_GAP") "some reading")), (("sum of durations" : Str), .adr (dctAt (gaF "IN_GAP") "sum of durations")), (("elapsed time" : Str), .adr (dctAt (gaF "IN_GAP") "elapsed time")), (("sums told" : Str), .adr (dctAt (gaF "IN_GAP") "sums told")), (("difference recovers" : Str), .adr (dctAt (gaF "IN_GAP") "difference recovers")), (("order by difference" : Str), .adr (dctAt (gaF "IN_GAP") "order by difference")), (("one instant means equal" : Str), .adr (dctAt (gaF "IN_GAP") "one instant means equal")), (("one instant, one time" : Str), .adr (dctAt (gaF "IN_GAP") "one instant, one time")), (("order of instants" : Str), .adr (dctAt (gaF "IN_GAP") "order of instants"))]) rfl) (List.mem_of_getElem? (i := 5) rfl),
    (itmAt (dctAt (gaF "IN_GAP") "difference recovers") 0 K),
    fun H => tupD_ok (cp 11 (p := tupD (itmAt (dctAt (gaF "IN_GAP") "difference recovers") 0) [.int (-1), .int 0]) rfl) H,
    (itmAt (dctAt (gaF "IN_GAP") "difference recovers") 1 K),
    fun H => tupD_ok (cp 12 (p := tupD (itmAt (dctAt (gaF "IN_GAP") "difference recovers") 1) [.int 0, .int 0]) rfl) H,
    (dctAt (gaF "IN_GAP") "difference recovers" K),
    fun H => tupD_ok (cp 13 (p := tupD (dctAt (gaF "IN_GAP") "difference recovers") [.adr (itmAt (dctAt (gaF "IN_GAP") "difference recovers") 0), .adr (itmAt (dctAt (gaF "IN_GAP") "difference recovers") 1)]) rfl) H,
    kdct_of (a := gaF "IN_GAP") (c.t.tab 0 (t := (gaF "IN_GAP", ["to universal and back", "every reading", "some reading", "sum of durations", "elapsed time", "sums told", "difference recovers", "order by difference", "one instant means equal", "one instant, one time", "order of instants"])) rfl) (cp 0 (p := valsD (gaF "IN_GAP") [(("to universal and back" : Str), .adr (dctAt (gaF "IN_GAP") "to universal and back")), (("every reading" : Str), .adr (dctAt (gaF "IN_GAP") "every reading")), (("some reading" : Str), .adr (dctAt (gaF "IN_GAP") "some reading")), (("sum of durations" : Str), .adr (dctAt (gaF "IN_GAP") "sum of durations")), (("elapsed time" : Str), .adr (dctAt (gaF "IN_GAP") "elapsed time")), (("sums told" : Str), .adr (dctAt (gaF "IN_GAP") "sums told")), (("difference recovers" : Str), .adr (dctAt (gaF "IN_GAP") "difference recovers")), (("order by difference" : Str), .adr (dctAt (gaF "IN_GAP") "order by difference")), (("one instant means equal" : Str), .adr (dctAt (gaF "IN_GAP") "one instant means equal")), (("one instant, one time" : Str), .adr (dctAt (gaF "IN_GAP") "one instant, one time")), (("order of instants" : Str), .adr (dctAt (gaF "IN_GAP") "order of instants"))]) rfl) (List.mem_of_getElem? (i := 6) rfl),
    (itmAt (dctAt (gaF "IN_GAP") "order by difference") 0 K),
    fun H => tupD_ok (cp 14 (p := tupD (itmAt (dctAt (gaF "IN_GAP") "order by difference") 0) [.int 0, .int 0]) rfl) H,
    (itmAt (dctAt (gaF "IN_GAP") "order by difference") 1 K),
    fun H => tupD_ok (cp 15 (p := tupD (itmAt (dctAt (gaF "IN_GAP") "order by difference") 1) [.int 2, .int 0]) rfl) H,
    (dctAt (gaF "IN_GAP") "order by difference" K),
    fun H => tupD_ok (cp 16 (p := tupD (dctAt (gaF "IN_GAP") "order by difference") [.adr (itmAt (dctAt (gaF "IN_GAP") "order by difference") 0), .adr (itmAt (dctAt (gaF "IN_GAP") "order by difference") 1)]) rfl) H,
    kdct_of (a := gaF "IN_GAP") (c.t.tab 0 (t := (gaF "IN_GAP", ["to universal and back", "every reading", "some reading", "sum of durations", "elapsed time", "sums told", "difference recovers", "order by difference", "one instant means equal", "one instant, one time", "order of instants"])) rfl) (cp 0 (p := valsD (gaF "IN_GAP") [(("to universal and back" : Str), .adr (dctAt (gaF "IN_GAP") "to universal and back")), (("every reading" : Str), .adr (dctAt (gaF "IN_GAP") "every reading")), (("some reading" : Str), .adr (dctAt (gaF "IN_GAP") "some reading")), (("sum of durations" : Str), .adr (dctAt (gaF "IN_GAP") "sum of durations")), (("elapsed time" : Str), .adr (dctAt (gaF "IN_GAP") "elapsed time")), (("sums told" : Str), .adr (dctAt (gaF "IN_GAP") "sums told")), (("difference recovers" : Str), .adr (dctAt (gaF "IN_GAP") "difference recovers")), (("order by difference" : Str), .adr (dctAt (gaF "IN_GAP") "order by difference")), (("one instant means equal" : Str), .adr (dctAt (gaF "IN_GAP") "one instant means equal")), (("one instant, one time" : Str), .adr (dctAt (gaF "IN_GAP") "one instant, one time")), (("order of instants" : Str), .adr (dctAt (gaF "IN_GAP") "order of instants"))]) rfl) (List.mem_of_getElem? (i := 7) rfl),
    (itmAt (dctAt (gaF "IN_GAP") "one instant means equal") 0 K),
    fun H => tupD_ok (cp 17 (p := tupD (itmAt (dctAt (gaF "IN_GAP") "one instant means equal") 0) [.int 0, .int 0]) rfl) H,
    (itmAt (dctAt (gaF "IN_GAP") "one instant means equal") 1 K),
    fun H => tupD_ok (cp 18 (p := tupD (itmAt (dctAt (gaF "IN_GAP") "one instant means equal") 1) [.int 2, .int 0]) rfl) H,
    (dctAt (gaF "IN_GAP") "one instant means equal" K),
    fun H => tupD_ok (cp 19 (p := tupD (dctAt (gaF "IN_GAP") "one instant means equal") [.adr (itmAt (dctAt (gaF "IN_GAP") "one instant means equal") 0), .adr (itmAt (dctAt (gaF "IN_GAP") "one instant means equal") 1)]) rfl) H,
    kdct_of (a := gaF "IN_GAP") (c.t.tab 0 (t := (gaF "IN_GAP", ["to universal and back", "every reading", "some reading", "sum of durations", "elapsed time", "sums told", "difference recovers", "order by difference", "one instant means equal", "one instant, one time", "order of instants"])) rfl) (cp 0 (p := valsD (gaF "IN_GAP") [(("to universal and back" : Str), .adr (dctAt (gaF "IN_GAP") "to universal and back")), (("every reading" : Str), .adr (dctAt (gaF "IN_GAP") "every reading")), (("some reading" : Str), .adr (dctAt (gaF "IN_GAP") "some reading")), (("sum of durations" : Str), .adr (dctAt (gaF "IN_GAP") "sum of durations")), (("elapsed time" : Str), .adr (dctAt (gaF "IN_GAP") "elapsed time")), (("sums told" : Str), .adr (dctAt (gaF "IN_GAP") "sums told")), (("difference recovers" : Str), .adr (dctAt (gaF "IN_GAP") "difference recovers")), (("order by difference" : Str), .adr (dctAt (gaF "IN_GAP") "order by difference")), (("one instant means equal" : Str), .adr (dctAt (gaF "IN_GAP") "one instant means equal")), (("one instant, one time" : Str), .adr (dctAt (gaF "IN_GAP") "one instant, one time")), (("order of instants" : Str), .adr (dctAt (gaF "IN_GAP") "order of instants"))]) rfl) (List.mem_of_getElem? (i := 8) rfl),
    (itmAt (dctAt (gaF "IN_GAP") "one instant, one time") 0 K),
    fun H => tupD_ok (cp 20 (p := tupD (itmAt (dctAt (gaF "IN_GAP") "one instant, one time") 0) [.int 0, .int 0]) rfl) H,
    (itmAt (dctAt (gaF "IN_GAP") "one instant, one time") 1 K),
    fun H => tupD_ok (cp 21 (p := tupD (itmAt (dctAt (gaF "IN_GAP") "one instant, one time") 1) [.int 2, .int 0]) rfl) H,
    (dctAt (gaF "IN_GAP") "one instant, one time" K),
    fun H => tupD_ok (cp 22 (p := tupD (dctAt (gaF "IN_GAP") "one instant, one time") [.adr (itmAt (dctAt (gaF "IN_GAP") "one instant, one time") 0), .adr (itmAt (dctAt (gaF "IN_GAP") "one instant, one time") 1)]) rfl) H,
    kdct_of (a := gaF "IN_GAP") (c.t.tab 0 (t := (gaF "IN_GAP", ["to universal and back", "every reading", "some reading", "sum of durations", "elapsed time", "sums told", "difference recovers", "order by difference", "one instant means equal", "one instant, one time", "order of instants"])) rfl) (cp 0 (p := valsD (gaF "IN_GAP") [(("to universal and back" : Str), .adr (dctAt (gaF "IN_GAP") "to universal and back")), (("every reading" : Str), .adr (dctAt (gaF "IN_GAP") "every reading")), (("some reading" : Str), .adr (dctAt (gaF "IN_GAP") "some reading")), (("sum of durations" : Str), .adr (dctAt (gaF "IN_GAP") "sum of durations")), (("elapsed time" : Str), .adr (dctAt (gaF "IN_GAP") "elapsed time")), (("sums told" : Str), .adr (dctAt (gaF "IN_GAP") "sums told")), (("difference recovers" : Str), .adr (dctAt (gaF "IN_GAP") "difference recovers")), (("order by difference" : Str), .adr (dctAt (gaF "IN_GAP") "order by difference")), (("one instant means equal" : Str), .adr (dctAt (gaF "IN_GAP") "one instant means equal")), (("one instant, one time" : Str), .adr (dctAt (gaF "IN_GAP") "one instant, one time")), (("order of instants" : Str), .adr (dctAt (gaF "IN_GAP") "order of instants"))]) rfl) (List.mem_of_getElem? (i := 9) rfl),
    (itmAt (dctAt (gaF "IN_GAP") "order of instants") 0 K),
    fun H => tupD_ok (cp 23 (p := tupD (itmAt (dctAt (gaF "IN_GAP") "order of instants") 0) [.int 0, .int 0]) rfl) H,
    (itmAt (dctAt (gaF "IN_GAP") "order of instants") 1 K),
    fun H => tupD_ok (cp 24 (p := tupD (itmAt (dctAt (gaF "IN_GAP") "order of instants") 1) [.int 2, .int 0]) rfl) H,
    (dctAt (gaF "IN_GAP") "order of instants" K),
    fun H => tupD_ok (cp 25 (p := tupD (dctAt (gaF "IN_GAP") "order of instants") [.adr (itmAt (dctAt (gaF "IN_GAP") "order of instants") 0), .adr (itmAt (dctAt (gaF "IN_GAP") "order of instants") 1)]) rfl) H,
    kdct_of (a := gaF "IN_GAP") (c.t.tab 0 (t := (gaF "IN_GAP", ["to universal and back", "every reading", "some reading", "sum of durations", "elapsed time", "sums told", "difference recovers", "order by difference", "one instant means equal", "one instant, one time", "order of instants"])) rfl) (cp 0 (p := valsD (gaF "IN_GAP") [(("to universal and back" : Str), .adr (dctAt (gaF "IN_GAP") "to universal and back")), (("every reading" : Str), .adr (dctAt (gaF "IN_GAP") "every reading")), (("some reading" : Str), .adr (dctAt (gaF "IN_GAP") "some reading")), (("sum of durations" : Str), .adr (dctAt (gaF "IN_GAP") "sum of durations")), (("elapsed time" : Str), .adr (dctAt (gaF "IN_GAP") "elapsed time")), (("sums told" : Str), .adr (dctAt (gaF "IN_GAP") "sums told")), (("difference recovers" : Str), .adr (dctAt (gaF "IN_GAP") "difference recovers")), (("order by difference" : Str), .adr (dctAt (gaF "IN_GAP") "order by difference")), (("one instant means equal" : Str), .adr (dctAt (gaF "IN_GAP") "one instant means equal")), (("one instant, one time" : Str), .adr (dctAt (gaF "IN_GAP") "one instant, one time")), (("order of instants" : Str), .adr (dctAt (gaF "IN_GAP") "order of instants"))]) rfl) (List.mem_of_getElem? (i := 10) rfl),
    He.eqO_ok (cp 26 (p := nonB (gaF "IN_GAP") "from universal and back") rfl),
    He.eqO_ok (cp 27 (p := nonB (gaF "IN_GAP") "there and back") rfl),
    He.eqO_ok (cp 28 (p := nonB (gaF "IN_GAP") "same clock") rfl),
    He.eqO_ok (cp 29 (p := nonB (gaF "IN_GAP") "later") rfl),
    He.eqO_ok (cp 30 (p := nonB (gaF "IN_GAP") "equal means one instant") rfl),
    He.eqO_ok (cp 31 (p := nonB (gaF "IN_GAP") "order kept") rfl),
    He.eqO_ok (cp 32 (p := nonB (gaF "IN_GAP") "equal sums") rfl),
    He.ga K "IN_FOLD",
    He.glo_ok X G (c.t.d.fact 102 (f := .glo "IN_FOLD") rfl),
    (c.t.tab 1 (t := (gaF "IN_FOLD", ["every reading", "some reading", "sums told", "difference recovers", "order by difference", "equal means one instant", "order of instants"])) rfl),
    (dctAt (gaF "IN_FOLD") "every reading" K),
    fun H => tupD_ok (cp 34 (p := tupD (dctAt (gaF "IN_FOLD") "every reading") [.int (-1)]) rfl) H,
    kdct_of (a := gaF "IN_FOLD") (c.t.tab 1 (t := (gaF "IN_FOLD", ["every reading", "some reading", "sums told", "difference recovers", "order by difference", "equal means one instant", "order of instants"])) rfl) (cp 33 (p := valsD (gaF "IN_FOLD") [(("every reading" : Str), .adr (dctAt (gaF "IN_FOLD") "every reading")), (("some reading" : Str), .adr (dctAt (gaF "IN_FOLD") "some reading")), (("sums told" : Str), .adr (dctAt (gaF "IN_FOLD") "sums told")), (("difference recovers" : Str), .adr (dctAt (gaF "IN_FOLD") "difference recovers")), (("order by difference" : Str), .adr (dctAt (gaF "IN_FOLD") "order by difference")), (("equal means one instant" : Str), .adr (dctAt (gaF "IN_FOLD") "equal means one instant")), (("order of instants" : Str), .adr (dctAt (gaF "IN_FOLD") "order of instants"))]) rfl) (List.mem_of_getElem? (i := 0) rfl),
    (dctAt (gaF "IN_FOLD") "some reading" K),
    fun H => tupD_ok (cp 35 (p := tupD (dctAt (gaF "IN_FOLD") "some reading") [.int (-1)]) rfl) H,
    kdct_of (a := gaF "IN_FOLD") (c.t.tab 1 (t := (gaF "IN_FOLD", ["every reading", "some reading", "sums told", "difference recovers", "order by difference", "equal means one instant", "order of instants"])) rfl) (cp 33 (p := valsD (gaF "IN_FOLD") [(("every reading" : Str), .adr (dctAt (gaF "IN_FOLD") "every reading")), (("some reading" : Str), .adr (dctAt (gaF "IN_FOLD") "some reading")), (("sums told" : Str), .adr (dctAt (gaF "IN_FOLD") "sums told")), (("difference recovers" : Str), .adr (dctAt (gaF "IN_FOLD") "difference recovers")), (("order by difference" : Str), .adr (dctAt (gaF "IN_FOLD") "order by difference")), (("equal means one instant" : Str), .adr (dctAt (gaF "IN_FOLD") "equal means one instant")), (("order of instants" : Str), .adr (dctAt (gaF "IN_FOLD") "order of instants"))]) rfl) (List.mem_of_getElem? (i := 1) rfl),
    (itmAt (dctAt (gaF "IN_FOLD") "sums told") 0 K),
    fun H => tupD_ok (cp 36 (p := tupD (itmAt (dctAt (gaF "IN_FOLD") "sums told") 0) [.int (-3), .int 0]) rfl) H,
    (dctAt (gaF "IN_FOLD") "sums told" K),
    fun H => tupD_ok (cp 37 (p := tupD (dctAt (gaF "IN_FOLD") "sums told") [.adr (itmAt (dctAt (gaF "IN_FOLD") "sums told") 0), .int 2]) rfl) H,
    kdct_of (a := gaF "IN_FOLD") (c.t.tab 1 (t := (gaF "IN_FOLD", ["every reading", "some reading", "sums told", "difference recovers", "order by difference", "equal means one instant", "order of instants"])) rfl) (cp 33 (p := valsD (gaF "IN_FOLD") [(("every reading" : Str), .adr (dctAt (gaF "IN_FOLD") "every reading")), (("some reading" : Str), .adr (dctAt (gaF "IN_FOLD") "some reading")), (("sums told" : Str), .adr (dctAt (gaF "IN_FOLD") "sums told")), (("difference recovers" : Str), .adr (dctAt (gaF "IN_FOLD") "difference recovers")), (("order by difference" : Str), .adr (dctAt (gaF "IN_FOLD") "order by difference")), (("equal means one instant" : Str), .adr (dctAt (gaF "IN_FOLD") "equal means one instant")), (("order of instants" : Str), .adr (dctAt (gaF "IN_FOLD") "order of instants"))]) rfl) (List.mem_of_getElem? (i := 2) rfl),
    (itmAt (dctAt (gaF "IN_FOLD") "difference recovers") 0 K),
    fun H => tupD_ok (cp 38 (p := tupD (itmAt (dctAt (gaF "IN_FOLD") "difference recovers") 0) [.int (-3), .int 0]) rfl) H,
    (itmAt (dctAt (gaF "IN_FOLD") "difference recovers") 1 K),
    fun H => tupD_ok (cp 39 (p := tupD (itmAt (dctAt (gaF "IN_FOLD") "difference recovers") 1) [.int (-1), .int 1]) rfl) H,
    (dctAt (gaF "IN_FOLD") "difference recovers" K),
    fun H => tupD_ok (cp 40 (p := tupD (dctAt (gaF "IN_FOLD") "difference recovers") [.adr (itmAt (dctAt (gaF "IN_FOLD") "difference recovers") 0), .adr (itmAt (dctAt (gaF "IN_FOLD") "difference recovers") 1)]) rfl) H,
    kdct_of (a := gaF "IN_FOLD") (c.t.tab 1 (t := (gaF "IN_FOLD", ["every reading", "some reading", "sums told", "difference recovers", "order by difference", "equal means one instant", "order of instants"])) rfl) (cp 33 (p := valsD (gaF "IN_FOLD") [(("every reading" : Str), .adr (dctAt (gaF "IN_FOLD") "every reading")), (("some reading" : Str), .adr (dctAt (gaF "IN_FOLD") "some reading")), (("sums told" : Str), .adr (dctAt (gaF "IN_FOLD") "sums told")), (("difference recovers" : Str), .adr (dctAt (gaF "IN_FOLD") "difference recovers")), (("order by difference" : Str), .adr (dctAt (gaF "IN_FOLD") "order by difference")), (("equal means one instant" : Str), .adr (dctAt (gaF "IN_FOLD") "equal means one instant")), (("order of instants" : Str), .adr (dctAt (gaF "IN_FOLD") "order of instants"))]) rfl) (List.mem_of_getElem? (i := 3) rfl),
    (itmAt (dctAt (gaF "IN_FOLD") "order by difference") 0 K),
    fun H => tupD_ok (cp 41 (p := tupD (itmAt (dctAt (gaF "IN_FOLD") "order by difference") 0) [.int (-1), .int 0]) rfl) H,
    (itmAt (dctAt (gaF "IN_FOLD") "order by difference") 1 K),
    fun H => tupD_ok (cp 42 (p := tupD (itmAt (dctAt (gaF "IN_FOLD") "order by difference") 1) [.int (-1), .int 1]) rfl) H,
    (dctAt (gaF "IN_FOLD") "order by difference" K),
    fun H => tupD_ok (cp 43 (p := tupD (dctAt (gaF "IN_FOLD") "order by difference") [.adr (itmAt (dctAt (gaF "IN_FOLD") "order by difference") 0), .adr (itmAt (dctAt (gaF "IN_FOLD") "order by difference") 1)]) rfl) H,
    kdct_of (a := gaF "IN_FOLD") (c.t.tab 1 (t := (gaF "IN_FOLD", ["every reading", "some reading", "sums told", "difference recovers", "order by difference", "equal means one instant", "order of instants"])) rfl) (cp 33 (p := valsD (gaF "IN_FOLD") [(("every reading" : Str), .adr (dctAt (gaF "IN_FOLD") "every reading")), (("some reading" : Str), .adr (dctAt (gaF "IN_FOLD") "some reading")), (("sums told" : Str), .adr (dctAt (gaF "IN_FOLD") "sums told")), (("difference recovers" : Str), .adr (dctAt (gaF "IN_FOLD") "difference recovers")), (("order by difference" : Str), .adr (dctAt (gaF "IN_FOLD") "order by difference")), (("equal means one instant" : Str), .adr (dctAt (gaF "IN_FOLD") "equal means one instant")), (("order of instants" : Str), .adr (dctAt (gaF "IN_FOLD") "order of instants"))]) rfl) (List.mem_of_getElem? (i := 4) rfl),
    (itmAt (dctAt (gaF "IN_FOLD") "equal means one instant") 0 K),
    fun H => tupD_ok (cp 44 (p := tupD (itmAt (dctAt (gaF "IN_FOLD") "equal means one instant") 0) [.int (-1), .int 0]) rfl) H,
    (itmAt (dctAt (gaF "IN_FOLD") "equal means one instant") 1 K),
    fun H => tupD_ok (cp 45 (p := tupD (itmAt (dctAt (gaF "IN_FOLD") "equal means one instant") 1) [.int (-1), .int 1]) rfl) H,
    (dctAt (gaF "IN_FOLD") "equal means one instant" K),
    fun H => tupD_ok (cp 46 (p := tupD (dctAt (gaF "IN_FOLD") "equal means one instant") [.adr (itmAt (dctAt (gaF "IN_FOLD") "equal means one instant") 0), .adr (itmAt (dctAt (gaF "IN_FOLD") "equal means one instant") 1)]) rfl) H,
    kdct_of (a := gaF "IN_FOLD") (c.t.tab 1 (t := (gaF "IN_FOLD", ["every reading", "some reading", "sums told", "difference recovers", "order by difference", "equal means one instant", "order of instants"])) rfl) (cp 33 (p := valsD (gaF "IN_FOLD") [(("every reading" : Str), .adr (dctAt (gaF "IN_FOLD") "every reading")), (("some reading" : Str), .adr (dctAt (gaF "IN_FOLD") "some reading")), (("sums told" : Str), .adr (dctAt (gaF "IN_FOLD") "sums told")), (("difference recovers" : Str), .adr (dctAt (gaF "IN_FOLD") "difference recovers")), (("order by difference" : Str), .adr (dctAt (gaF "IN_FOLD") "order by difference")), (("equal means one instant" : Str), .adr (dctAt (gaF "IN_FOLD") "equal means one instant")), (("order of instants" : Str), .adr (dctAt (gaF "IN_FOLD") "order of instants"))]) rfl) (List.mem_of_getElem? (i := 5) rfl),
    (itmAt (dctAt (gaF "IN_FOLD") "order of instants") 0 K),
    fun H => tupD_ok (cp 47 (p := tupD (itmAt (dctAt (gaF "IN_FOLD") "order of instants") 0) [.int (-1), .int 0]) rfl) H,
    (itmAt (dctAt (gaF "IN_FOLD") "order of instants") 1 K),
    fun H => tupD_ok (cp 48 (p := tupD (itmAt (dctAt (gaF "IN_FOLD") "order of instants") 1) [.int (-1), .int 1]) rfl) H,
    (dctAt (gaF "IN_FOLD") "order of instants" K),
    fun H => tupD_ok (cp 49 (p := tupD (dctAt (gaF "IN_FOLD") "order of instants") [.adr (itmAt (dctAt (gaF "IN_FOLD") "order of instants") 0), .adr (itmAt (dctAt (gaF "IN_FOLD") "order of instants") 1)]) rfl) H,
    kdct_of (a := gaF "IN_FOLD") (c.t.tab 1 (t := (gaF "IN_FOLD", ["every reading", "some reading", "sums told", "difference recovers", "order by difference", "equal means one instant", "order of instants"])) rfl) (cp 33 (p := valsD (gaF "IN_FOLD") [(("every reading" : Str), .adr (dctAt (gaF "IN_FOLD") "every reading")), (("some reading" : Str), .adr (dctAt (gaF "IN_FOLD") "some reading")), (("sums told" : Str), .adr (dctAt (gaF "IN_FOLD") "sums told")), (("difference recovers" : Str), .adr (dctAt (gaF "IN_FOLD") "difference recovers")), (("order by difference" : Str), .adr (dctAt (gaF "IN_FOLD") "order by difference")), (("equal means one instant" : Str), .adr (dctAt (gaF "IN_FOLD") "equal means one instant")), (("order of instants" : Str), .adr (dctAt (gaF "IN_FOLD") "order of instants"))]) rfl) (List.mem_of_getElem? (i := 6) rfl),
    He.eqO_ok (cp 50 (p := nonB (gaF "IN_FOLD") "from universal and back") rfl),
    He.eqO_ok (cp 51 (p := nonB (gaF "IN_FOLD") "to universal and back") rfl),
    He.eqO_ok (cp 52 (p := nonB (gaF "IN_FOLD") "there and back") rfl),
    He.eqO_ok (cp 53 (p := nonB (gaF "IN_FOLD") "sum of durations") rfl),
    He.eqO_ok (cp 54 (p := nonB (gaF "IN_FOLD") "elapsed time") rfl),
    He.eqO_ok (cp 55 (p := nonB (gaF "IN_FOLD") "same clock") rfl),
    He.eqO_ok (cp 56 (p := nonB (gaF "IN_FOLD") "later") rfl),
    He.eqO_ok (cp 57 (p := nonB (gaF "IN_FOLD") "one instant means equal") rfl),
    He.eqO_ok (cp 58 (p := nonB (gaF "IN_FOLD") "one instant, one time") rfl),
    He.eqO_ok (cp 59 (p := nonB (gaF "IN_FOLD") "order kept") rfl),
    He.eqO_ok (cp 60 (p := nonB (gaF "IN_FOLD") "equal sums") rfl),
    He.ga K "PASSES_IN_GAP",
    He.glo_ok X G (c.t.d.fact 103 (f := .glo "PASSES_IN_GAP") rfl),
    (c.t.tab 2 (t := (gaF "PASSES_IN_GAP", ["keep", "refuse", "shift"])) rfl),
    (dctAt (gaF "PASSES_IN_GAP") "keep" K),
    fun H => tupD_ok (cp 62 (p := tupD (dctAt (gaF "PASSES_IN_GAP") "keep") [.int 0]) rfl) H,
    kdct_of (a := gaF "PASSES_IN_GAP") (c.t.tab 2 (t := (gaF "PASSES_IN_GAP", ["keep", "refuse", "shift"])) rfl) (cp 61 (p := valsD (gaF "PASSES_IN_GAP") [(("keep" : Str), .adr (dctAt (gaF "PASSES_IN_GAP") "keep")), (("refuse" : Str), .adr (dctAt (gaF "PASSES_IN_GAP") "refuse")), (("shift" : Str), .adr (dctAt (gaF "PASSES_IN_GAP") "shift"))]) rfl) (List.mem_of_getElem? (i := 0) rfl),
    (dctAt (gaF "PASSES_IN_GAP") "refuse" K),
    fun H => tupD_ok (cp 63 (p := tupD (dctAt (gaF "PASSES_IN_GAP") "refuse") []) rfl) H,
    kdct_of (a := gaF "PASSES_IN_GAP") (c.t.tab 2 (t := (gaF "PASSES_IN_GAP", ["keep", "refuse", "shift"])) rfl) (cp 61 (p := valsD (gaF "PASSES_IN_GAP") [(("keep" : Str), .adr (dctAt (gaF "PASSES_IN_GAP") "keep")), (("refuse" : Str), .adr (dctAt (gaF "PASSES_IN_GAP") "refuse")), (("shift" : Str), .adr (dctAt (gaF "PASSES_IN_GAP") "shift"))]) rfl) (List.mem_of_getElem? (i := 1) rfl),
    (dctAt (gaF "PASSES_IN_GAP") "shift" K),
    fun H => tupD_ok (cp 64 (p := tupD (dctAt (gaF "PASSES_IN_GAP") "shift") []) rfl) H,
    kdct_of (a := gaF "PASSES_IN_GAP") (c.t.tab 2 (t := (gaF "PASSES_IN_GAP", ["keep", "refuse", "shift"])) rfl) (cp 61 (p := valsD (gaF "PASSES_IN_GAP") [(("keep" : Str), .adr (dctAt (gaF "PASSES_IN_GAP") "keep")), (("refuse" : Str), .adr (dctAt (gaF "PASSES_IN_GAP") "refuse")), (("shift" : Str), .adr (dctAt (gaF "PASSES_IN_GAP") "shift"))]) rfl) (List.mem_of_getElem? (i := 2) rfl),
    He.ga K "PASSES_IN_FOLD",
    He.glo_ok X G (c.t.d.fact 104 (f := .glo "PASSES_IN_FOLD") rfl),
    (c.t.tab 3 (t := (gaF "PASSES_IN_FOLD", ["both", "first", "refuse", "second"])) rfl),
    (dctAt (gaF "PASSES_IN_FOLD") "both" K),
    fun H => tupD_ok (cp 66 (p := tupD (dctAt (gaF "PASSES_IN_FOLD") "both") [.int 0, .int 1]) rfl) H,
    kdct_of (a := gaF "PASSES_IN_FOLD") (c.t.tab 3 (t := (gaF "PASSES_IN_FOLD", ["both", "first", "refuse", "second"])) rfl) (cp 65 (p := valsD (gaF "PASSES_IN_FOLD") [(("both" : Str), .adr (dctAt (gaF "PASSES_IN_FOLD") "both")), (("first" : Str), .adr (dctAt (gaF "PASSES_IN_FOLD") "first")), (("refuse" : Str), .adr (dctAt (gaF "PASSES_IN_FOLD") "refuse")), (("second" : Str), .adr (dctAt (gaF "PASSES_IN_FOLD") "second"))]) rfl) (List.mem_of_getElem? (i := 0) rfl),
    (dctAt (gaF "PASSES_IN_FOLD") "first" K),
    fun H => tupD_ok (cp 67 (p := tupD (dctAt (gaF "PASSES_IN_FOLD") "first") [.int 0]) rfl) H,
    kdct_of (a := gaF "PASSES_IN_FOLD") (c.t.tab 3 (t := (gaF "PASSES_IN_FOLD", ["both", "first", "refuse", "second"])) rfl) (cp 65 (p := valsD (gaF "PASSES_IN_FOLD") [(("both" : Str), .adr (dctAt (gaF "PASSES_IN_FOLD") "both")), (("first" : Str), .adr (dctAt (gaF "PASSES_IN_FOLD") "first")), (("refuse" : Str), .adr (dctAt (gaF "PASSES_IN_FOLD") "refuse")), (("second" : Str), .adr (dctAt (gaF "PASSES_IN_FOLD") "second"))]) rfl) (List.mem_of_getElem? (i := 1) rfl),
    (dctAt (gaF "PASSES_IN_FOLD") "refuse" K),
    fun H => tupD_ok (cp 68 (p := tupD (dctAt (gaF "PASSES_IN_FOLD") "refuse") []) rfl) H,
    kdct_of (a := gaF "PASSES_IN_FOLD") (c.t.tab 3 (t := (gaF "PASSES_IN_FOLD", ["both", "first", "refuse", "second"])) rfl) (cp 65 (p := valsD (gaF "PASSES_IN_FOLD") [(("both" : Str), .adr (dctAt (gaF "PASSES_IN_FOLD") "both")), (("first" : Str), .adr (dctAt (gaF "PASSES_IN_FOLD") "first")), (("refuse" : Str), .adr (dctAt (gaF "PASSES_IN_FOLD") "refuse")), (("second" : Str), .adr (dctAt (gaF "PASSES_IN_FOLD") "second"))]) rfl) (List.mem_of_getElem? (i := 2) rfl),
    (dctAt (gaF "PASSES_IN_FOLD") "second" K),
    fun H => tupD_ok (cp 69 (p := tupD (dctAt (gaF "PASSES_IN_FOLD") "second") [.int 0]) rfl) H,
    kdct_of (a := gaF "PASSES_IN_FOLD") (c.t.tab 3 (t := (gaF "PASSES_IN_FOLD", ["both", "first", "refuse", "second"])) rfl) (cp 65 (p := valsD (gaF "PASSES_IN_FOLD") [(("both" : Str), .adr (dctAt (gaF "PASSES_IN_FOLD") "both")), (("first" : Str), .adr (dctAt (gaF "PASSES_IN_FOLD") "first")), (("refuse" : Str), .adr (dctAt (gaF "PASSES_IN_FOLD") "refuse")), (("second" : Str), .adr (dctAt (gaF "PASSES_IN_FOLD") "second"))]) rfl) (List.mem_of_getElem? (i := 3) rfl),
    u4,
    g4,
    u5,
    g5,
    u6,
    g6,
    u7,
    g7,
    u8,
    g8,
    u9,
    g9,
    u10,
    g10,
    u11,
    g11,
    u12,
    g12,
    u13,
    g13,
    He.ga K "SUMS",
    He.glo_ok X G (c.t.d.fact 115 (f := .glo "SUMS") rfl),
    fun H => tupD_ok (cp 70 (p := tupD (gaF "SUMS") [.str "elapsed", .str "wall"]) rfl) H,
    He.ga K "ORDERS",
    He.glo_ok X G (c.t.d.fact 116 (f := .glo "ORDERS") rfl),
    fun H => tupD_ok (cp 71 (p := tupD (gaF "ORDERS") [.str "elapsed", .str "wall"]) rfl) H,
    He.ga K "GAPS",
    He.glo_ok X G (c.t.d.fact 117 (f := .glo "GAPS") rfl),
    fun H => tupD_ok (cp 72 (p := tupD (gaF "GAPS") [.str "keep", .str "refuse", .str "shift"]) rfl) H,
    He.ga K "FOLDS",
    He.glo_ok X G (c.t.d.fact 118 (f := .glo "FOLDS") rfl),
    fun H => tupD_ok (cp 73 (p := tupD (gaF "FOLDS") [.str "both", .str "first", .str "refuse", .str "second"]) rfl) H,
    u18,
    g18,
    He.ga K "STATEMENTS",
    He.glo_ok X G (c.t.d.fact 120 (f := .glo "STATEMENTS") rfl),
    (c.t.tab 4 (t := (gaF "STATEMENTS", ["from universal and back", "to universal and back", "every reading", "some reading", "there and back", "sum of durations", "elapsed time", "same clock", "later", "sums told", "difference recovers", "order by difference", "equal means one instant", "one instant means equal", "one instant, one time", "order of instants", "order kept", "equal sums"])) rfl),
    kdct_of (a := gaF "STATEMENTS") (c.t.tab 4 (t := (gaF "STATEMENTS", ["from universal and back", "to universal and back", "every reading", "some reading", "there and back", "sum of durations", "elapsed time", "same clock", "later", "sums told", "difference recovers", "order by difference", "equal means one instant", "one instant means equal", "one instant, one time", "order of instants", "order kept", "equal sums"])) rfl) (cp 74 (p := valsD (gaF "STATEMENTS") [(("from universal and back" : Str), .glo "_from_universal_and_back"), (("to universal and back" : Str), .glo "_to_universal_and_back"), (("every reading" : Str), .glo "_every_reading"), (("some reading" : Str), .glo "_some_reading"), (("there and back" : Str), .glo "_there_and_back"), (("sum of durations" : Str), .glo "_sum_of_durations"), (("elapsed time" : Str), .glo "_elapsed_time"), (("same clock" : Str), .glo "_same_clock"), (("later" : Str), .glo "_later"), (("sums told" : Str), .glo "_sums_told"), (("difference recovers" : Str), .glo "_difference_recovers"), (("order by difference" : Str), .glo "_order_by_difference"), (("equal means one instant" : Str), .glo "_equal_means_one_instant"), (("one instant means equal" : Str), .glo "_one_instant_means_equal"), (("one instant, one time" : Str), .glo "_one_instant_one_time"), (("order of instants" : Str), .glo "_order_of_instants"), (("order kept" : Str), .glo "_order_kept"), (("equal sums" : Str), .glo "_equal_sums")]) rfl) (List.mem_of_getElem? (i := 0) rfl),
    kdct_of (a := gaF "STATEMENTS") (c.t.tab 4 (t := (gaF "STATEMENTS", ["from universal and back", "to universal and back", "every reading", "some reading", "there and back", "sum of durations", "elapsed time", "same clock", "later", "sums told", "difference recovers", "order by difference", "equal means one instant", "one instant means equal", "one instant, one time", "order of instants", "order kept", "equal sums"])) rfl) (cp 74 (p := valsD (gaF "STATEMENTS") [(("from universal and back" : Str), .glo "_from_universal_and_back"), (("to universal and back" : Str), .glo "_to_universal_and_back"), (("every reading" : Str), .glo "_every_reading"), (("some reading" : Str), .glo "_some_reading"), (("there and back" : Str), .glo "_there_and_back"), (("sum of durations" : Str), .glo "_sum_of_durations"), (("elapsed time" : Str), .glo "_elapsed_time"), (("same clock" : Str), .glo "_same_clock"), (("later" : Str), .glo "_later"), (("sums told" : Str), .glo "_sums_told"), (("difference recovers" : Str), .glo "_difference_recovers"), (("order by difference" : Str), .glo "_order_by_difference"), (("equal means one instant" : Str), .glo "_equal_means_one_instant"), (("one instant means equal" : Str), .glo "_one_instant_means_equal"), (("one instant, one time" : Str), .glo "_one_instant_one_time"), (("order of instants" : Str), .glo "_order_of_instants"), (("order kept" : Str), .glo "_order_kept"), (("equal sums" : Str), .glo "_equal_sums")]) rfl) (List.mem_of_getElem? (i := 1) rfl),
    kdct_of (a := gaF "STATEMENTS") (c.t.tab 4 (t := (gaF "STATEMENTS", ["from universal and back", "to universal and back", "every reading", "some reading", "there and back", "sum of durations", "elapsed time", "same clock", "later", "sums told", "difference recovers", "order by difference", "equal means one instant", "one instant means equal", "one instant, one time", "order of instants", "order kept", "equal sums"])) rfl) (cp 74 (p := valsD (gaF "STATEMENTS") [(("from universal and back" : Str), .glo "_from_universal_and_back"), (("to universal and back" : Str), .glo "_to_universal_and_back"), (("every reading" : Str), .glo "_every_reading"), (("some reading" : Str), .glo "_some_reading"), (("there and back" : Str), .glo "_there_and_back"), (("sum of durations" : Str), .glo "_sum_of_durations"), (("elapsed time" : Str), .glo "_elapsed_time"), (("same clock" : Str), .glo "_same_clock"), (("later" : Str), .glo "_later"), (("sums told" : Str), .glo "_sums_told"), (("difference recovers" : Str), .glo "_difference_recovers"), (("order by difference" : Str), .glo "_order_by_difference"), (("equal means one instant" : Str), .glo "_equal_means_one_instant"), (("one instant means equal" : Str), .glo "_one_instant_means_equal"), (("one instant, one time" : Str), .glo "_one_instant_one_time"), (("order of instants" : Str), .glo "_order_of_instants"), (("order kept" : Str), .glo "_order_kept"), (("equal sums" : Str), .glo "_equal_sums")]) rfl) (List.mem_of_getElem? (i := 2) rfl),
    kdct_of (a := gaF "STATEMENTS") (c.t.tab 4 (t := (gaF "STATEMENTS", ["from universal and back", "to universal and back", "every reading", "some reading", "there and back", "sum of durations", "elapsed time", "same clock", "later", "sums told", "difference recovers", "order by difference", "equal means one instant", "one instant means equal", "one instant, one time", "order of instants", "order kept", "equal sums"])) rfl) (cp 74 (p := valsD (gaF "STATEMENTS") [(("from universal and back" : Str), .glo "_from_universal_and_back"), (("to universal and back" : Str), .glo "_to_universal_and_back"), (("every reading" : Str), .glo "_every_reading"), (("some reading" : Str), .glo "_some_reading"), (("there and back" : Str), .glo "_there_and_back"), (("sum of durations" : Str), .glo "_sum_of_durations"), (("elapsed time" : Str), .glo "_elapsed_time"), (("same clock" : Str), .glo "_same_clock"), (("later" : Str), .glo "_later"), (("sums told" : Str), .glo "_sums_told"), (("difference recovers" : Str), .glo "_difference_recovers"), (("order by difference" : Str), .glo "_order_by_difference"), (("equal means one instant" : Str), .glo "_equal_means_one_instant"), (("one instant means equal" : Str), .glo "_one_instant_means_equal"), (("one instant, one time" : Str), .glo "_one_instant_one_time"), (("order of instants" : Str), .glo "_order_of_instants"), (("order kept" : Str), .glo "_order_kept"), (("equal sums" : Str), .glo "_equal_sums")]) rfl) (List.mem_of_getElem? (i := 3) rfl),
    kdct_of (a := gaF "STATEMENTS") (c.t.tab 4 (t := (gaF "STATEMENTS", ["from universal and back", "to universal and back", "every reading", "some reading", "there and back", "sum of durations", "elapsed time", "same clock", "later", "sums told", "difference recovers", "order by difference", "equal means one instant", "one instant means equal", "one instant, one time", "order of instants", "order kept", "equal sums"])) rfl) (cp 74 (p := valsD (gaF "STATEMENTS") [(("from universal and back" : Str), .glo "_from_universal_and_back"), (("to universal and back" : Str), .glo "_to_universal_and_back"), (("every reading" : Str), .glo "_every_reading"), (("some reading" : Str), .glo "_some_reading"), (("there and back" : Str), .glo "_there_and_back"), (("sum of durations" : Str), .glo "_sum_of_durations"), (("elapsed time" : Str), .glo "_elapsed_time"), (("same clock" : Str), .glo "_same_clock"), (("later" : Str), .glo "_later"), (("sums told" : Str), .glo "_sums_told"), (("difference recovers" : Str), .glo "_difference_recovers"), (("order by difference" : Str), .glo "_order_by_difference"), (("equal means one instant" : Str), .glo "_equal_means_one_instant"), (("one instant means equal" : Str), .glo "_one_instant_means_equal"), (("one instant, one time" : Str), .glo "_one_instant_one_time"), (("order of instants" : Str), .glo "_order_of_instants"), (("order kept" : Str), .glo "_order_kept"), (("equal sums" : Str), .glo "_equal_sums")]) rfl) (List.mem_of_getElem? (i := 4) rfl),
    kdct_of (a := gaF "STATEMENTS") (c.t.tab 4 (t := (gaF "STATEMENTS", ["from universal and back", "to universal and back", "every reading", "some reading", "there and back", "sum of durations", "elapsed time", "same clock", "later", "sums told", "difference recovers", "order by difference", "equal means one instant", "one instant means equal", "one instant, one time", "order of instants", "order kept", "equal sums"])) rfl) (cp 74 (p := valsD (gaF "STATEMENTS") [(("from universal and back" : Str), .glo "_from_universal_and_back"), (("to universal and back" : Str), .glo "_to_universal_and_back"), (("every reading" : Str), .glo "_every_reading"), (("some reading" : Str), .glo "_some_reading"), (("there and back" : Str), .glo "_there_and_back"), (("sum of durations" : Str), .glo "_sum_of_durations"), (("elapsed time" : Str), .glo "_elapsed_time"), (("same clock" : Str), .glo "_same_clock"), (("later" : Str), .glo "_later"), (("sums told" : Str), .glo "_sums_told"), (("difference recovers" : Str), .glo "_difference_recovers"), (("order by difference" : Str), .glo "_order_by_difference"), (("equal means one instant" : Str), .glo "_equal_means_one_instant"), (("one instant means equal" : Str), .glo "_one_instant_means_equal"), (("one instant, one time" : Str), .glo "_one_instant_one_time"), (("order of instants" : Str), .glo "_order_of_instants"), (("order kept" : Str), .glo "_order_kept"), (("equal sums" : Str), .glo "_equal_sums")]) rfl) (List.mem_of_getElem? (i := 5) rfl),
    kdct_of (a := gaF "STATEMENTS") (c.t.tab 4 (t := (gaF "STATEMENTS", ["from universal and back", "to universal and back", "every reading", "some reading", "there and back", "sum of durations", "elapsed time", "same clock", "later", "sums told", "difference recovers", "order by difference", "equal means one instant", "one instant means equal", "one instant, one time", "order of instants", "order kept", "equal sums"])) rfl) (cp 74 (p := valsD (gaF "STATEMENTS") [(("from universal and back" : Str), .glo "_from_universal_and_back"), (("to universal and back" : Str), .glo "_to_universal_and_back"), (("every reading" : Str), .glo "_every_reading"), (("some reading" : Str), .glo "_some_reading"), (("there and back" : Str), .glo "_there_and_back"), (("sum of durations" : Str), .glo "_sum_of_durations"), (("elapsed time" : Str), .glo "_elapsed_time"), (("same clock" : Str), .glo "_same_clock"), (("later" : Str), .glo "_later"), (("sums told" : Str), .glo "_sums_told"), (("difference recovers" : Str), .glo "_difference_recovers"), (("order by difference" : Str), .glo "_order_by_difference"), (("equal means one instant" : Str), .glo "_equal_means_one_instant"), (("one instant means equal" : Str), .glo "_one_instant_means_equal"), (("one instant, one time" : Str), .glo "_one_instant_one_time"), (("order of instants" : Str), .glo "_order_of_instants"), (("order kept" : Str), .glo "_order_kept"), (("equal sums" : Str), .glo "_equal_sums")]) rfl) (List.mem_of_getElem? (i := 6) rfl),
    kdct_of (a := gaF "STATEMENTS") (c.t.tab 4 (t := (gaF "STATEMENTS", ["from universal and back", "to universal and back", "every reading", "some reading", "there and back", "sum of durations", "elapsed time", "same clock", "later", "sums told", "difference recovers", "order by difference", "equal means one instant", "one instant means equal", "one instant, one time", "order of instants", "order kept", "equal sums"])) rfl) (cp 74 (p := valsD (gaF "STATEMENTS") [(("from universal and back" : Str), .glo "_from_universal_and_back"), (("to universal and back" : Str), .glo "_to_universal_and_back"), (("every reading" : Str), .glo "_every_reading"), (("some reading" : Str), .glo "_some_reading"), (("there and back" : Str), .glo "_there_and_back"), (("sum of durations" : Str), .glo "_sum_of_durations"), (("elapsed time" : Str), .glo "_elapsed_time"), (("same clock" : Str), .glo "_same_clock"), (("later" : Str), .glo "_later"), (("sums told" : Str), .glo "_sums_told"), (("difference recovers" : Str), .glo "_difference_recovers"), (("order by difference" : Str), .glo "_order_by_difference"), (("equal means one instant" : Str), .glo "_equal_means_one_instant"), (("one instant means equal" : Str), .glo "_one_instant_means_equal"), (("one instant, one time" : Str), .glo "_one_instant_one_time"), (("order of instants" : Str), .glo "_order_of_instants"), (("order kept" : Str), .glo "_order_kept"), (("equal sums" : Str), .glo "_equal_sums")]) rfl) (List.mem_of_getElem? (i := 7) rfl),
    kdct_of (a := gaF "STATEMENTS") (c.t.tab 4 (t := (gaF "STATEMENTS", ["from universal and back", "to universal and back", "every reading", "some reading", "there and back", "sum of durations", "elapsed time", "same clock", "later", "sums told", "difference recovers", "order by difference", "equal means one instant", "one instant means equal", "one instant, one time", "order of instants", "order kept", "equal sums"])) rfl) (cp 74 (p := valsD (gaF "STATEMENTS") [(("from universal and back" : Str), .glo "_from_universal_and_back"), (("to universal and back" : Str), .glo "_to_universal_and_back"), (("every reading" : Str), .glo "_every_reading"), (("some reading" : Str), .glo "_some_reading"), (("there and back" : Str), .glo "_there_and_back"), (("sum of durations" : Str), .glo "_sum_of_durations"), (("elapsed time" : Str), .glo "_elapsed_time"), (("same clock" : Str), .glo "_same_clock"), (("later" : Str), .glo "_later"), (("sums told" : Str), .glo "_sums_told"), (("difference recovers" : Str), .glo "_difference_recovers"), (("order by difference" : Str), .glo "_order_by_difference"), (("equal means one instant" : Str), .glo "_equal_means_one_instant"), (("one instant means equal" : Str), .glo "_one_instant_means_equal"), (("one instant, one time" : Str), .glo "_one_instant_one_time"), (("order of instants" : Str), .glo "_order_of_instants"), (("order kept" : Str), .glo "_order_kept"), (("equal sums" : Str), .glo "_equal_sums")]) rfl) (List.mem_of_getElem? (i := 8) rfl),
    kdct_of (a := gaF "STATEMENTS") (c.t.tab 4 (t := (gaF "STATEMENTS", ["from universal and back", "to universal and back", "every reading", "some reading", "there and back", "sum of durations", "elapsed time", "same clock", "later", "sums told", "difference recovers", "order by difference", "equal means one instant", "one instant means equal", "one instant, one time", "order of instants", "order kept", "equal sums"])) rfl) (cp 74 (p := valsD (gaF "STATEMENTS") [(("from universal and back" : Str), .glo "_from_universal_and_back"), (("to universal and back" : Str), .glo "_to_universal_and_back"), (("every reading" : Str), .glo "_every_reading"), (("some reading" : Str), .glo "_some_reading"), (("there and back" : Str), .glo "_there_and_back"), (("sum of durations" : Str), .glo "_sum_of_durations"), (("elapsed time" : Str), .glo "_elapsed_time"), (("same clock" : Str), .glo "_same_clock"), (("later" : Str), .glo "_later"), (("sums told" : Str), .glo "_sums_told"), (("difference recovers" : Str), .glo "_difference_recovers"), (("order by difference" : Str), .glo "_order_by_difference"), (("equal means one instant" : Str), .glo "_equal_means_one_instant"), (("one instant means equal" : Str), .glo "_one_instant_means_equal"), (("one instant, one time" : Str), .glo "_one_instant_one_time"), (("order of instants" : Str), .glo "_order_of_instants"), (("order kept" : Str), .glo "_order_kept"), (("equal sums" : Str), .glo "_equal_sums")]) rfl) (List.mem_of_getElem? (i := 9) rfl),
    kdct_of (a := gaF "STATEMENTS") (c.t.tab 4 (t := (gaF "STATEMENTS", ["from universal and back", "to universal and back", "every reading", "some reading", "there and back", "sum of durations", "elapsed time", "same clock", "later", "sums told", "difference recovers", "order by difference", "equal means one instant", "one instant means equal", "one instant, one time", "order of instants", "order kept", "equal sums"])) rfl) (cp 74 (p := valsD (gaF "STATEMENTS") [(("from universal and back" : Str), .glo "_from_universal_and_back"), (("to universal and back" : Str), .glo "_to_universal_and_back"), (("every reading" : Str), .glo "_every_reading"), (("some reading" : Str), .glo "_some_reading"), (("there and back" : Str), .glo "_there_and_back"), (("sum of durations" : Str), .glo "_sum_of_durations"), (("elapsed time" : Str), .glo "_elapsed_time"), (("same clock" : Str), .glo "_same_clock"), (("later" : Str), .glo "_later"), (("sums told" : Str), .glo "_sums_told"), (("difference recovers" : Str), .glo "_difference_recovers"), (("order by difference" : Str), .glo "_order_by_difference"), (("equal means one instant" : Str), .glo "_equal_means_one_instant"), (("one instant means equal" : Str), .glo "_one_instant_means_equal"), (("one instant, one time" : Str), .glo "_one_instant_one_time"), (("order of instants" : Str), .glo "_order_of_instants"), (("order kept" : Str), .glo "_order_kept"), (("equal sums" : Str), .glo "_equal_sums")]) rfl) (List.mem_of_getElem? (i := 10) rfl),
    kdct_of (a := gaF "STATEMENTS") (c.t.tab 4 (t := (gaF "STATEMENTS", ["from universal and back", "to universal and back", "every reading", "some reading", "there and back", "sum of durations", "elapsed time", "same clock", "later", "sums told", "difference recovers", "order by difference", "equal means one instant", "one instant means equal", "one instant, one time", "order of instants", "order kept", "equal sums"])) rfl) (cp 74 (p := valsD (gaF "STATEMENTS") [(("from universal and back" : Str), .glo "_from_universal_and_back"), (("to universal and back" : Str), .glo "_to_universal_and_back"), (("every reading" : Str), .glo "_every_reading"), (("some reading" : Str), .glo "_some_reading"), (("there and back" : Str), .glo "_there_and_back"), (("sum of durations" : Str), .glo "_sum_of_durations"), (("elapsed time" : Str), .glo "_elapsed_time"), (("same clock" : Str), .glo "_same_clock"), (("later" : Str), .glo "_later"), (("sums told" : Str), .glo "_sums_told"), (("difference recovers" : Str), .glo "_difference_recovers"), (("order by difference" : Str), .glo "_order_by_difference"), (("equal means one instant" : Str), .glo "_equal_means_one_instant"), (("one instant means equal" : Str), .glo "_one_instant_means_equal"), (("one instant, one time" : Str), .glo "_one_instant_one_time"), (("order of instants" : Str), .glo "_order_of_instants"), (("order kept" : Str), .glo "_order_kept"), (("equal sums" : Str), .glo "_equal_sums")]) rfl) (List.mem_of_getElem? (i := 11) rfl),
    kdct_of (a := gaF "STATEMENTS") (c.t.tab 4 (t := (gaF "STATEMENTS", ["from universal and back", "to universal and back", "every reading", "some reading", "there and back", "sum of durations", "elapsed time", "same clock", "later", "sums told", "difference recovers", "order by difference", "equal means one instant", "one instant means equal", "one instant, one time", "order of instants", "order kept", "equal sums"])) rfl) (cp 74 (p := valsD (gaF "STATEMENTS") [(("from universal and back" : Str), .glo "_from_universal_and_back"), (("to universal and back" : Str), .glo "_to_universal_and_back"), (("every reading" : Str), .glo "_every_reading"), (("some reading" : Str), .glo "_some_reading"), (("there and back" : Str), .glo "_there_and_back"), (("sum of durations" : Str), .glo "_sum_of_durations"), (("elapsed time" : Str), .glo "_elapsed_time"), (("same clock" : Str), .glo "_same_clock"), (("later" : Str), .glo "_later"), (("sums told" : Str), .glo "_sums_told"), (("difference recovers" : Str), .glo "_difference_recovers"), (("order by difference" : Str), .glo "_order_by_difference"), (("equal means one instant" : Str), .glo "_equal_means_one_instant"), (("one instant means equal" : Str), .glo "_one_instant_means_equal"), (("one instant, one time" : Str), .glo "_one_instant_one_time"), (("order of instants" : Str), .glo "_order_of_instants"), (("order kept" : Str), .glo "_order_kept"), (("equal sums" : Str), .glo "_equal_sums")]) rfl) (List.mem_of_getElem? (i := 12) rfl),
    kdct_of (a := gaF "STATEMENTS") (c.t.tab 4 (t := (gaF "STATEMENTS", ["from universal and back", "to universal and back", "every reading", "some reading", "there and back", "sum of durations", "elapsed time", "same clock", "later", "sums told", "difference recovers", "order by difference", "equal means one instant", "one instant means equal", "one instant, one time", "order of instants", "order kept", "equal sums"])) rfl) (cp 74 (p := valsD (gaF "STATEMENTS") [(("from universal and back" : Str), .glo "_from_universal_and_back"), (("to universal and back" : Str), .glo "_to_universal_and_back"), (("every reading" : Str), .glo "_every_reading"), (("some reading" : Str), .glo "_some_reading"), (("there and back" : Str), .glo "_there_and_back"), (("sum of durations" : Str), .glo "_sum_of_durations"), (("elapsed time" : Str), .glo "_elapsed_time"), (("same clock" : Str), .glo "_same_clock"), (("later" : Str), .glo "_later"), (("sums told" : Str), .glo "_sums_told"), (("difference recovers" : Str), .glo "_difference_recovers"), (("order by difference" : Str), .glo "_order_by_difference"), (("equal means one instant" : Str), .glo "_equal_means_one_instant"), (("one instant means equal" : Str), .glo "_one_instant_means_equal"), (("one instant, one time" : Str), .glo "_one_instant_one_time"), (("order of instants" : Str), .glo "_order_of_instants"), (("order kept" : Str), .glo "_order_kept"), (("equal sums" : Str), .glo "_equal_sums")]) rfl) (List.mem_of_getElem? (i := 13) rfl),
    kdct_of (a := gaF "STATEMENTS") (c.t.tab 4 (t := (gaF "STATEMENTS", ["from universal and back", "to universal and back", "every reading", "some reading", "there and back", "sum of durations", "elapsed time", "same clock", "later", "sums told", "difference recovers", "order by difference", "equal means one instant", "one instant means equal", "one instant, one time", "order of instants", "order kept", "equal sums"])) rfl) (cp 74 (p := valsD (gaF "STATEMENTS") [(("from universal and back" : Str), .glo "_from_universal_and_back"), (("to universal and back" : Str), .glo "_to_universal_and_back"), (("every reading" : Str), .glo "_every_reading"), (("some reading" : Str), .glo "_some_reading"), (("there and back" : Str), .glo "_there_and_back"), (("sum of durations" : Str), .glo "_sum_of_durations"), (("elapsed time" : Str), .glo "_elapsed_time"), (("same clock" : Str), .glo "_same_clock"), (("later" : Str), .glo "_later"), (("sums told" : Str), .glo "_sums_told"), (("difference recovers" : Str), .glo "_difference_recovers"), (("order by difference" : Str), .glo "_order_by_difference"), (("equal means one instant" : Str), .glo "_equal_means_one_instant"), (("one instant means equal" : Str), .glo "_one_instant_means_equal"), (("one instant, one time" : Str), .glo "_one_instant_one_time"), (("order of instants" : Str), .glo "_order_of_instants"), (("order kept" : Str), .glo "_order_kept"), (("equal sums" : Str), .glo "_equal_sums")]) rfl) (List.mem_of_getElem? (i := 14) rfl),
    kdct_of (a := gaF "STATEMENTS") (c.t.tab 4 (t := (gaF "STATEMENTS", ["from universal and back", "to universal and back", "every reading", "some reading", "there and back", "sum of durations", "elapsed time", "same clock", "later", "sums told", "difference recovers", "order by difference", "equal means one instant", "one instant means equal", "one instant, one time", "order of instants", "order kept", "equal sums"])) rfl) (cp 74 (p := valsD (gaF "STATEMENTS") [(("from universal and back" : Str), .glo "_from_universal_and_back"), (("to universal and back" : Str), .glo "_to_universal_and_back"), (("every reading" : Str), .glo "_every_reading"), (("some reading" : Str), .glo "_some_reading"), (("there and back" : Str), .glo "_there_and_back"), (("sum of durations" : Str), .glo "_sum_of_durations"), (("elapsed time" : Str), .glo "_elapsed_time"), (("same clock" : Str), .glo "_same_clock"), (("later" : Str), .glo "_later"), (("sums told" : Str), .glo "_sums_told"), (("difference recovers" : Str), .glo "_difference_recovers"), (("order by difference" : Str), .glo "_order_by_difference"), (("equal means one instant" : Str), .glo "_equal_means_one_instant"), (("one instant means equal" : Str), .glo "_one_instant_means_equal"), (("one instant, one time" : Str), .glo "_one_instant_one_time"), (("order of instants" : Str), .glo "_order_of_instants"), (("order kept" : Str), .glo "_order_kept"), (("equal sums" : Str), .glo "_equal_sums")]) rfl) (List.mem_of_getElem? (i := 15) rfl),
    kdct_of (a := gaF "STATEMENTS") (c.t.tab 4 (t := (gaF "STATEMENTS", ["from universal and back", "to universal and back", "every reading", "some reading", "there and back", "sum of durations", "elapsed time", "same clock", "later", "sums told", "difference recovers", "order by difference", "equal means one instant", "one instant means equal", "one instant, one time", "order of instants", "order kept", "equal sums"])) rfl) (cp 74 (p := valsD (gaF "STATEMENTS") [(("from universal and back" : Str), .glo "_from_universal_and_back"), (("to universal and back" : Str), .glo "_to_universal_and_back"), (("every reading" : Str), .glo "_every_reading"), (("some reading" : Str), .glo "_some_reading"), (("there and back" : Str), .glo "_there_and_back"), (("sum of durations" : Str), .glo "_sum_of_durations"), (("elapsed time" : Str), .glo "_elapsed_time"), (("same clock" : Str), .glo "_same_clock"), (("later" : Str), .glo "_later"), (("sums told" : Str), .glo "_sums_told"), (("difference recovers" : Str), .glo "_difference_recovers"), (("order by difference" : Str), .glo "_order_by_difference"), (("equal means one instant" : Str), .glo "_equal_means_one_instant"), (("one instant means equal" : Str), .glo "_one_instant_means_equal"), (("one instant, one time" : Str), .glo "_one_instant_one_time"), (("order of instants" : Str), .glo "_order_of_instants"), (("order kept" : Str), .glo "_order_kept"), (("equal sums" : Str), .glo "_equal_sums")]) rfl) (List.mem_of_getElem? (i := 16) rfl),
    kdct_of (a := gaF "STATEMENTS") (c.t.tab 4 (t := (gaF "STATEMENTS", ["from universal and back", "to universal and back", "every reading", "some reading", "there and back", "sum of durations", "elapsed time", "same clock", "later", "sums told", "difference recovers", "order by difference", "equal means one instant", "one instant means equal", "one instant, one time", "order of instants", "order kept", "equal sums"])) rfl) (cp 74 (p := valsD (gaF "STATEMENTS") [(("from universal and back" : Str), .glo "_from_universal_and_back"), (("to universal and back" : Str), .glo "_to_universal_and_back"), (("every reading" : Str), .glo "_every_reading"), (("some reading" : Str), .glo "_some_reading"), (("there and back" : Str), .glo "_there_and_back"), (("sum of durations" : Str), .glo "_sum_of_durations"), (("elapsed time" : Str), .glo "_elapsed_time"), (("same clock" : Str), .glo "_same_clock"), (("later" : Str), .glo "_later"), (("sums told" : Str), .glo "_sums_told"), (("difference recovers" : Str), .glo "_difference_recovers"), (("order by difference" : Str), .glo "_order_by_difference"), (("equal means one instant" : Str), .glo "_equal_means_one_instant"), (("one instant means equal" : Str), .glo "_one_instant_means_equal"), (("one instant, one time" : Str), .glo "_one_instant_one_time"), (("order of instants" : Str), .glo "_order_of_instants"), (("order kept" : Str), .glo "_order_kept"), (("equal sums" : Str), .glo "_equal_sums")]) rfl) (List.mem_of_getElem? (i := 17) rfl),
    He.ga K "SHAPES",
    He.glo_ok X G (c.t.d.fact 121 (f := .glo "SHAPES") rfl),
    (c.t.tab 5 (t := (gaF "SHAPES", ["from universal and back", "to universal and back", "every reading", "some reading", "there and back", "sum of durations", "elapsed time", "same clock", "later", "sums told", "difference recovers", "order by difference", "equal means one instant", "one instant means equal", "one instant, one time", "order of instants", "order kept", "equal sums"])) rfl),
    (dctAt (gaF "SHAPES") "from universal and back" K),
    fun H => tupD_ok (cp 76 (p := tupD (dctAt (gaF "SHAPES") "from universal and back") [.str "instant"]) rfl) H,
    kdct_of (a := gaF "SHAPES") (c.t.tab 5 (t := (gaF "SHAPES", ["from universal and back", "to universal and back", "every reading", "some reading", "there and back", "sum of durations", "elapsed time", "same clock", "later", "sums told", "difference recovers", "order by difference", "equal means one instant", "one instant means equal", "one instant, one time", "order of instants", "order kept", "equal sums"])) rfl) (cp 75 (p := valsD (gaF "SHAPES") [(("from universal and back" : Str), .adr (dctAt (gaF "SHAPES") "from universal and back")), (("to universal and back" : Str), .adr (dctAt (gaF "SHAPES") "to universal and back")), (("every reading" : Str), .adr (dctAt (gaF "SHAPES") "every reading")), (("some reading" : Str), .adr (dctAt (gaF "SHAPES") "some reading")), (("there and back" : Str), .adr (dctAt (gaF "SHAPES") "there and back")), (("sum of durations" : Str), .adr (dctAt (gaF "SHAPES") "sum of durations")), (("elapsed time" : Str), .adr (dctAt (gaF "SHAPES") "elapsed time")), (("same clock" : Str), .adr (dctAt (gaF "SHAPES") "same clock")), (("later" : Str), .adr (dctAt (gaF "SHAPES") "later")), (("sums told" : Str), .adr (dctAt (gaF "SHAPES") "sums told")), (("difference recovers" : Str), .adr (dctAt (gaF "SHAPES") "difference recovers")), (("order by difference" : Str), .adr (dctAt (gaF "SHAPES") "order by difference")), (("equal means one instant" : Str), .adr (dctAt (gaF "SHAPES") "equal means one instant")), (("one instant means equal" : Str), .adr (dctAt (gaF "SHAPES") "one instant means equal")), (("one instant, one time" : Str), .adr (dctAt (gaF "SHAPES") "one instant, one time")), (("order of instants" : Str), .adr (dctAt (gaF "SHAPES") "order of instants")), (("order kept" : Str), .adr (dctAt (gaF "SHAPES") "order kept")), (("equal sums" : Str), .adr (dctAt (gaF "SHAPES") "equal sums"))]) rfl) (List.mem_of_getElem? (i := 0) rfl),
    (dctAt (gaF "SHAPES") "to universal and back" K),
    fun H => tupD_ok (cp 77 (p := tupD (dctAt (gaF "SHAPES") "to universal and back") [.str "time"]) rfl) H,
    kdct_of (a := gaF "SHAPES") (c.t.tab 5 (t := (gaF "SHAPES", ["from universal and back", "to universal and back", "every reading", "some reading", "there and back", "sum of durations", "elapsed time", "same clock", "later", "sums told", "difference recovers", "order by difference", "equal means one instant", "one instant means equal", "one instant, one time", "order of instants", "order kept", "equal sums"])) rfl) (cp 75 (p := valsD (gaF "SHAPES") [(("from universal and back" : Str), .adr (dctAt (gaF "SHAPES") "from universal and back")), (("to universal and back" : Str), .adr (dctAt (gaF "SHAPES") "to universal and back")), (("every reading" : Str), .adr (dctAt (gaF "SHAPES") "every reading")), (("some reading" : Str), .adr (dctAt (gaF "SHAPES") "some reading")), (("there and back" : Str), .adr (dctAt (gaF "SHAPES") "there and back")), (("sum of durations" : Str), .adr (dctAt (gaF "SHAPES") "sum of durations")), (("elapsed time" : Str), .adr (dctAt (gaF "SHAPES") "elapsed time")), (("same clock" : Str), .adr (dctAt (gaF "SHAPES") "same clock")), (("later" : Str), .adr (dctAt (gaF "SHAPES") "later")), (("sums told" : Str), .adr (dctAt (gaF "SHAPES") "sums told")), (("difference recovers" : Str), .adr (dctAt (gaF "SHAPES") "difference recovers")), (("order by difference" : Str), .adr (dctAt (gaF "SHAPES") "order by difference")), (("equal means one instant" : Str), .adr (dctAt (gaF "SHAPES") "equal means one instant")), (("one instant means equal" : Str), .adr (dctAt (gaF "SHAPES") "one instant means equal")), (("one instant, one time" : Str), .adr (dctAt (gaF "SHAPES") "one instant, one time")), (("order of instants" : Str), .adr (dctAt (gaF "SHAPES") "order of instants")), (("order kept" : Str), .adr (dctAt (gaF "SHAPES") "order kept")), (("equal sums" : Str), .adr (dctAt (gaF "SHAPES") "equal sums"))]) rfl) (List.mem_of_getElem? (i := 1) rfl),
    (dctAt (gaF "SHAPES") "every reading" K),
    fun H => tupD_ok (cp 78 (p := tupD (dctAt (gaF "SHAPES") "every reading") [.str "reading"]) rfl) H,
    kdct_of (a := gaF "SHAPES") (c.t.tab 5 (t := (gaF "SHAPES", ["from universal and back", "to universal and back", "every reading", "some reading", "there and back", "sum of durations", "elapsed time", "same clock", "later", "sums told", "difference recovers", "order by difference", "equal means one instant", "one instant means equal", "one instant, one time", "order of instants", "order kept", "equal sums"])) rfl) (cp 75 (p := valsD (gaF "SHAPES") [(("from universal and back" : Str), .adr (dctAt (gaF "SHAPES") "from universal and back")), (("to universal and back" : Str), .adr (dctAt (gaF "SHAPES") "to universal and back")), (("every reading" : Str), .adr (dctAt (gaF "SHAPES") "every reading")), (("some reading" : Str), .adr (dctAt (gaF "SHAPES") "some reading")), (("there and back" : Str), .adr (dctAt (gaF "SHAPES") "there and back")), (("sum of durations" : Str), .adr (dctAt (gaF "SHAPES") "sum of durations")), (("elapsed time" : Str), .adr (dctAt (gaF "SHAPES") "elapsed time")), (("same clock" : Str), .adr (dctAt (gaF "SHAPES") "same clock")), (("later" : Str), .adr (dctAt (gaF "SHAPES") "later")), (("sums told" : Str), .adr (dctAt (gaF "SHAPES") "sums told")), (("difference recovers" : Str), .adr (dctAt (gaF "SHAPES") "difference recovers")), (("order by difference" : Str), .adr (dctAt (gaF "SHAPES") "order by difference")), (("equal means one instant" : Str), .adr (dctAt (gaF "SHAPES") "equal means one instant")), (("one instant means equal" : Str), .adr (dctAt (gaF "SHAPES") "one instant means equal")), (("one instant, one time" : Str), .adr (dctAt (gaF "SHAPES") "one instant, one time")), (("order of instants" : Str), .adr (dctAt (gaF "SHAPES") "order of instants")), (("order kept" : Str), .adr (dctAt (gaF "SHAPES") "order kept")), (("equal sums" : Str), .adr (dctAt (gaF "SHAPES") "equal sums"))]) rfl) (List.mem_of_getElem? (i := 2) rfl),
    (dctAt (gaF "SHAPES") "some reading" K),
    fun H => tupD_ok (cp 79 (p := tupD (dctAt (gaF "SHAPES") "some reading") [.str "reading"]) rfl) H,
    kdct_of (a := gaF "SHAPES") (c.t.tab 5 (t := (gaF "SHAPES", ["from universal and back", "to universal and back", "every reading", "some reading", "there and back", "sum of durations", "elapsed time", "same clock", "later", "sums told", "difference recovers", "order by difference", "equal means one instant", "one instant means equal", "one instant, one time", "order of instants", "order kept", "equal sums"])) rfl) (cp 75 (p := valsD (gaF "SHAPES") [(("from universal and back" : Str), .adr (dctAt (gaF "SHAPES") "from universal and back")), (("to universal and back" : Str), .adr (dctAt (gaF "SHAPES") "to universal and back")), (("every reading" : Str), .adr (dctAt (gaF "SHAPES") "every reading")), (("some reading" : Str), .adr (dctAt (gaF "SHAPES") "some reading")), (("there and back" : Str), .adr (dctAt (gaF "SHAPES") "there and back")), (("sum of durations" : Str), .adr (dctAt (gaF "SHAPES") "sum of durations")), (("elapsed time" : Str), .adr (dctAt (gaF "SHAPES") "elapsed time")), (("same clock" : Str), .adr (dctAt (gaF "SHAPES") "same clock")), (("later" : Str), .adr (dctAt (gaF "SHAPES") "later")), (("sums told" : Str), .adr (dctAt (gaF "SHAPES") "sums told")), (("difference recovers" : Str), .adr (dctAt (gaF "SHAPES") "difference recovers")), (("order by difference" : Str), .adr (dctAt (gaF "SHAPES") "order by difference")), (("equal means one instant" : Str), .adr (dctAt (gaF "SHAPES") "equal means one instant")), (("one instant means equal" : Str), .adr (dctAt (gaF "SHAPES") "one instant means equal")), (("one instant, one time" : Str), .adr (dctAt (gaF "SHAPES") "one instant, one time")), (("order of instants" : Str), .adr (dctAt (gaF "SHAPES") "order of instants")), (("order kept" : Str), .adr (dctAt (gaF "SHAPES") "order kept")), (("equal sums" : Str), .adr (dctAt (gaF "SHAPES") "equal sums"))]) rfl) (List.mem_of_getElem? (i := 3) rfl),
    (dctAt (gaF "SHAPES") "there and back" K),
    fun H => tupD_ok (cp 80 (p := tupD (dctAt (gaF "SHAPES") "there and back") [.str "time", .str "duration"]) rfl) H,
    kdct_of (a := gaF "SHAPES") (c.t.tab 5 (t := (gaF "SHAPES", ["from universal and back", "to universal and back", "every reading", "some reading", "there and back", "sum of durations", "elapsed time", "same clock", "later", "sums told", "difference recovers", "order by difference", "equal means one instant", "one instant means equal", "one instant, one time", "order of instants", "order kept", "equal sums"])) rfl) (cp 75 (p := valsD (gaF "SHAPES") [(("from universal and back" : Str), .adr (dctAt (gaF "SHAPES") "from universal and back")), (("to universal and back" : Str), .adr (dctAt (gaF "SHAPES") "to universal and back")), (("every reading" : Str), .adr (dctAt (gaF "SHAPES") "every reading")), (("some reading" : Str), .adr (dctAt (gaF "SHAPES") "some reading")), (("there and back" : Str), .adr (dctAt (gaF "SHAPES") "there and back")), (("sum of durations" : Str), .adr (dctAt (gaF "SHAPES") "sum of durations")), (("elapsed time" : Str), .adr (dctAt (gaF "SHAPES") "elapsed time")), (("same clock" : Str), .adr (dctAt (gaF "SHAPES") "same clock")), (("later" : Str), .adr (dctAt (gaF "SHAPES") "later")), (("sums told" : Str), .adr (dctAt (gaF "SHAPES") "sums told")), (("difference recovers" : Str), .adr (dctAt (gaF "SHAPES") "difference recovers")), (("order by difference" : Str), .adr (dctAt (gaF "SHAPES") "order by difference")), (("equal means one instant" : Str), .adr (dctAt (gaF "SHAPES") "equal means one instant")), (("one instant means equal" : Str), .adr (dctAt (gaF "SHAPES") "one instant means equal")), (("one instant, one time" : Str), .adr (dctAt (gaF "SHAPES") "one instant, one time")), (("order of instants" : Str), .adr (dctAt (gaF "SHAPES") "order of instants")), (("order kept" : Str), .adr (dctAt (gaF "SHAPES") "order kept")), (("equal sums" : Str), .adr (dctAt (gaF "SHAPES") "equal sums"))]) rfl) (List.mem_of_getElem? (i := 4) rfl),
    (dctAt (gaF "SHAPES") "sum of durations" K),
    fun H => tupD_ok (cp 81 (p := tupD (dctAt (gaF "SHAPES") "sum of durations") [.str "time", .str "duration", .str "duration"]) rfl) H,
    kdct_of (a := gaF "SHAPES") (c.t.tab 5 (t := (gaF "SHAPES", ["from universal and back", "to universal and back", "every reading", "some reading", "there and back", "sum of durations", "elapsed time", "same clock", "later", "sums told", "difference recovers", "order by difference", "equal means one instant", "one instant means equal", "one instant, one time", "order of instants", "order kept", "equal sums"])) rfl) (cp 75 (p := valsD (gaF "SHAPES") [(("from universal and back" : Str), .adr (dctAt (gaF "SHAPES") "from universal and back")), (("to universal and back" : Str), .adr (dctAt (gaF "SHAPES") "to universal and back")), (("every reading" : Str), .adr (dctAt (gaF "SHAPES") "every reading")), (("some reading" : Str), .adr (dctAt (gaF "SHAPES") "some reading")), (("there and back" : Str), .adr (dctAt (gaF "SHAPES") "there and back")), (("sum of durations" : Str), .adr (dctAt (gaF "SHAPES") "sum of durations")), (("elapsed time" : Str), .adr (dctAt (gaF "SHAPES") "elapsed time")), (("same clock" : Str), .adr (dctAt (gaF "SHAPES") "same clock")), (("later" : Str), .adr (dctAt (gaF "SHAPES") "later")), (("sums told" : Str), .adr (dctAt (gaF "SHAPES") "sums told")), (("difference recovers" : Str), .adr (dctAt (gaF "SHAPES") "difference recovers")), (("order by difference" : Str), .adr (dctAt (gaF "SHAPES") "order by difference")), (("equal means one instant" : Str), .adr (dctAt (gaF "SHAPES") "equal means one instant")), (("one instant means equal" : Str), .adr (dctAt (gaF "SHAPES") "one instant means equal")), (("one instant, one time" : Str), .adr (dctAt (gaF "SHAPES") "one instant, one time")), (("order of instants" : Str), .adr (dctAt (gaF "SHAPES") "order of instants")), (("order kept" : Str), .adr (dctAt (gaF "SHAPES") "order kept")), (("equal sums" : Str), .adr (dctAt (gaF "SHAPES") "equal sums"))]) rfl) (List.mem_of_getElem? (i := 5) rfl),
    (dctAt (gaF "SHAPES") "elapsed time" K),
    fun H => tupD_ok (cp 82 (p := tupD (dctAt (gaF "SHAPES") "elapsed time") [.str "time", .str "duration"]) rfl) H,
    kdct_of (a := gaF "SHAPES") (c.t.tab 5 (t := (gaF "SHAPES", ["from universal and back", "to universal and back", "every reading", "some reading", "there and back", "sum of durations", "elapsed time", "same clock", "later", "sums told", "difference recovers", "order by difference", "equal means one instant", "one instant means equal", "one instant, one time", "order of instants", "order kept", "equal sums"])) rfl) (cp 75 (p := valsD (gaF "SHAPES") [(("from universal and back" : Str), .adr (dctAt (gaF "SHAPES") "from universal and back")), (("to universal and back" : Str), .adr (dctAt (gaF "SHAPES") "to universal and back")), (("every reading" : Str), .adr (dctAt (gaF "SHAPES") "every reading")), (("some reading" : Str), .adr (dctAt (gaF "SHAPES") "some reading")), (("there and back" : Str), .adr (dctAt (gaF "SHAPES") "there and back")), (("sum of durations" : Str), .adr (dctAt (gaF "SHAPES") "sum of durations")), (("elapsed time" : Str), .adr (dctAt (gaF "SHAPES") "elapsed time")), (("same clock" : Str), .adr (dctAt (gaF "SHAPES") "same clock")), (("later" : Str), .adr (dctAt (gaF "SHAPES") "later")), (("sums told" : Str), .adr (dctAt (gaF "SHAPES") "sums told")), (("difference recovers" : Str), .adr (dctAt (gaF "SHAPES") "difference recovers")), (("order by difference" : Str), .adr (dctAt (gaF "SHAPES") "order by difference")), (("equal means one instant" : Str), .adr (dctAt (gaF "SHAPES") "equal means one instant")), (("one instant means equal" : Str), .adr (dctAt (gaF "SHAPES") "one instant means equal")), (("one instant, one time" : Str), .adr (dctAt (gaF "SHAPES") "one instant, one time")), (("order of instants" : Str), .adr (dctAt (gaF "SHAPES") "order of instants")), (("order kept" : Str), .adr (dctAt (gaF "SHAPES") "order kept")), (("equal sums" : Str), .adr (dctAt (gaF "SHAPES") "equal sums"))]) rfl) (List.mem_of_getElem? (i := 6) rfl),
    (dctAt (gaF "SHAPES") "same clock" K),
    fun H => tupD_ok (cp 83 (p := tupD (dctAt (gaF "SHAPES") "same clock") [.str "time"]) rfl) H,
    kdct_of (a := gaF "SHAPES") (c.t.tab 5 (t := (gaF "SHAPES", ["from universal and back", "to universal and back", "every reading", "some reading", "there and back", "sum of durations", "elapsed time", "same clock", "later", "sums told", "difference recovers", "order by difference", "equal means one instant", "one instant means equal", "one instant, one time", "order of instants", "order kept", "equal sums"])) rfl) (cp 75 (p := valsD (gaF "SHAPES") [(("from universal and back" : Str), .adr (dctAt (gaF "SHAPES") "from universal and back")), (("to universal and back" : Str), .adr (dctAt (gaF "SHAPES") "to universal and back")), (("every reading" : Str), .adr (dctAt (gaF "SHAPES") "every reading")), (("some reading" : Str), .adr (dctAt (gaF "SHAPES") "some reading")), (("there and back" : Str), .adr (dctAt (gaF "SHAPES") "there and back")), (("sum of durations" : Str), .adr (dctAt (gaF "SHAPES") "sum of durations")), (("elapsed time" : Str), .adr (dctAt (gaF "SHAPES") "elapsed time")), (("same clock" : Str), .adr (dctAt (gaF "SHAPES") "same clock")), (("later" : Str), .adr (dctAt (gaF "SHAPES") "later")), (("sums told" : Str), .adr (dctAt (gaF "SHAPES") "sums told")), (("difference recovers" : Str), .adr (dctAt (gaF "SHAPES") "difference recovers")), (("order by difference" : Str), .adr (dctAt (gaF "SHAPES") "order by difference")), (("equal means one instant" : Str), .adr (dctAt (gaF "SHAPES") "equal means one instant")), (("one instant means equal" : Str), .adr (dctAt (gaF "SHAPES") "one instant means equal")), (("one instant, one time" : Str), .adr (dctAt (gaF "SHAPES") "one instant, one time")), (("order of instants" : Str), .adr (dctAt (gaF "SHAPES") "order of instants")), (("order kept" : Str), .adr (dctAt (gaF "SHAPES") "order kept")), (("equal sums" : Str), .adr (dctAt (gaF "SHAPES") "equal sums"))]) rfl) (List.mem_of_getElem? (i := 7) rfl),
    (dctAt (gaF "SHAPES") "later" K),
    fun H => tupD_ok (cp 84 (p := tupD (dctAt (gaF "SHAPES") "later") [.str "time", .str "duration"]) rfl) H,
    kdct_of (a := gaF "SHAPES") (c.t.tab 5 (t := (gaF "SHAPES", ["from universal and back", "to universal and back", "every reading", "some reading", "there and back", "sum of durations", "elapsed time", "same clock", "later", "sums told", "difference recovers", "order by difference", "equal means one instant", "one instant means equal", "one instant, one time", "order of instants", "order kept", "equal sums"])) rfl) (cp 75 (p := valsD (gaF "SHAPES") [(("from universal and back" : Str), .adr (dctAt (gaF "SHAPES") "from universal and back")), (("to universal and back" : Str), .adr (dctAt (gaF "SHAPES") "to universal and back")), (("every reading" : Str), .adr (dctAt (gaF "SHAPES") "every reading")), (("some reading" : Str), .adr (dctAt (gaF "SHAPES") "some reading")), (("there and back" : Str), .adr (dctAt (gaF "SHAPES") "there and back")), (("sum of durations" : Str), .adr (dctAt (gaF "SHAPES") "sum of durations")), (("elapsed time" : Str), .adr (dctAt (gaF "SHAPES") "elapsed time")), (("same clock" : Str), .adr (dctAt (gaF "SHAPES") "same clock")), (("later" : Str), .adr (dctAt (gaF "SHAPES") "later")), (("sums told" : Str), .adr (dctAt (gaF "SHAPES") "sums told")), (("difference recovers" : Str), .adr (dctAt (gaF "SHAPES") "difference recovers")), (("order by difference" : Str), .adr (dctAt (gaF "SHAPES") "order by difference")), (("equal means one instant" : Str), .adr (dctAt (gaF "SHAPES") "equal means one instant")), (("one instant means equal" : Str), .adr (dctAt (gaF "SHAPES") "one instant means equal")), (("one instant, one time" : Str), .adr (dctAt (gaF "SHAPES") "one instant, one time")), (("order of instants" : Str), .adr (dctAt (gaF "SHAPES") "order of instants")), (("order kept" : Str), .adr (dctAt (gaF "SHAPES") "order kept")), (("equal sums" : Str), .adr (dctAt (gaF "SHAPES") "equal sums"))]) rfl) (List.mem_of_getElem? (i := 8) rfl),
    (dctAt (gaF "SHAPES") "sums told" K),
    fun H => tupD_ok (cp 85 (p := tupD (dctAt (gaF "SHAPES") "sums told") [.str "time", .str "duration"]) rfl) H,
    kdct_of (a := gaF "SHAPES") (c.t.tab 5 (t := (gaF "SHAPES", ["from universal and back", "to universal and back", "every reading", "some reading", "there and back", "sum of durations", "elapsed time", "same clock", "later", "sums told", "difference recovers", "order by difference", "equal means one instant", "one instant means equal", "one instant, one time", "order of instants", "order kept", "equal sums"])) rfl) (cp 75 (p := valsD (gaF "SHAPES") [(("from universal and back" : Str), .adr (dctAt (gaF "SHAPES") "from universal and back")), (("to universal and back" : Str), .adr (dctAt (gaF "SHAPES") "to universal and back")), (("every reading" : Str), .adr (dctAt (gaF "SHAPES") "every reading")), (("some reading" : Str), .adr (dctAt (gaF "SHAPES") "some reading")), (("there and back" : Str), .adr (dctAt (gaF "SHAPES") "there and back")), (("sum of durations" : Str), .adr (dctAt (gaF "SHAPES") "sum of durations")), (("elapsed time" : Str), .adr (dctAt (gaF "SHAPES") "elapsed time")), (("same clock" : Str), .adr (dctAt (gaF "SHAPES") "same clock")), (("later" : Str), .adr (dctAt (gaF "SHAPES") "later")), (("sums told" : Str), .adr (dctAt (gaF "SHAPES") "sums told")), (("difference recovers" : Str), .adr (dctAt (gaF "SHAPES") "difference recovers")), (("order by difference" : Str), .adr (dctAt (gaF "SHAPES") "order by difference")), (("equal means one instant" : Str), .adr (dctAt (gaF "SHAPES") "equal means one instant")), (("one instant means equal" : Str), .adr (dctAt (gaF "SHAPES") "one instant means equal")), (("one instant, one time" : Str), .adr (dctAt (gaF "SHAPES") "one instant, one time")), (("order of instants" : Str), .adr (dctAt (gaF "SHAPES") "order of instants")), (("order kept" : Str), .adr (dctAt (gaF "SHAPES") "order kept")), (("equal sums" : Str), .adr (dctAt (gaF "SHAPES") "equal sums"))]) rfl) (List.mem_of_getElem? (i := 9) rfl),
    (dctAt (gaF "SHAPES") "difference recovers" K),
    fun H => tupD_ok (cp 86 (p := tupD (dctAt (gaF "SHAPES") "difference recovers") [.str "time", .str "time"]) rfl) H,
    kdct_of (a := gaF "SHAPES") (c.t.tab 5 (t := (gaF "SHAPES", ["from universal and back", "to universal and back", "every reading", "some reading", "there and back", "sum of durations", "elapsed time", "same clock", "later", "sums told", "difference recovers", "order by difference", "equal means one instant", "one instant means equal", "one instant, one time", "order of instants", "order kept", "equal sums"])) rfl) (cp 75 (p := valsD (gaF "SHAPES") [(("from universal and back" : Str), .adr (dctAt (gaF "SHAPES") "from universal and back")), (("to universal and back" : Str), .adr (dctAt (gaF "SHAPES") "to universal and back")), (("every reading" : Str), .adr (dctAt (gaF "SHAPES") "every reading")), (("some reading" : Str), .adr (dctAt (gaF "SHAPES") "some reading")), (("there and back" : Str), .adr (dctAt (gaF "SHAPES") "there and back")), (("sum of durations" : Str), .adr (dctAt (gaF "SHAPES") "sum of durations")), (("elapsed time" : Str), .adr (dctAt (gaF "SHAPES") "elapsed time")), (("same clock" : Str), .adr (dctAt (gaF "SHAPES") "same clock")), (("later" : Str), .adr (dctAt (gaF "SHAPES") "later")), (("sums told" : Str), .adr (dctAt (gaF "SHAPES") "sums told")), (("difference recovers" : Str), .adr (dctAt (gaF "SHAPES") "difference recovers")), (("order by difference" : Str), .adr (dctAt (gaF "SHAPES") "order by difference")), (("equal means one instant" : Str), .adr (dctAt (gaF "SHAPES") "equal means one instant")), (("one instant means equal" : Str), .adr (dctAt (gaF "SHAPES") "one instant means equal")), (("one instant, one time" : Str), .adr (dctAt (gaF "SHAPES") "one instant, one time")), (("order of instants" : Str), .adr (dctAt (gaF "SHAPES") "order of instants")), (("order kept" : Str), .adr (dctAt (gaF "SHAPES") "order kept")), (("equal sums" : Str), .adr (dctAt (gaF "SHAPES") "equal sums"))]) rfl) (List.mem_of_getElem? (i := 10) rfl),
    (dctAt (gaF "SHAPES") "order by difference" K),
    fun H => tupD_ok (cp 87 (p := tupD (dctAt (gaF "SHAPES") "order by difference") [.str "time", .str "time"]) rfl) H,
    kdct_of (a := gaF "SHAPES") (c.t.tab 5 (t := (gaF "SHAPES", ["from universal and back", "to universal and back", "every reading", "some reading", "there and back", "sum of durations", "elapsed time", "same clock", "later", "sums told", "difference recovers", "order by difference", "equal means one instant", "one instant means equal", "one instant, one time", "order of instants", "order kept", "equal sums"])) rfl) (cp 75 (p := valsD (gaF "SHAPES") [(("from universal and back" : Str), .adr (dctAt (gaF "SHAPES") "from universal and back")), (("to universal and back" : Str), .adr (dctAt (gaF "SHAPES") "to universal and back")), (("every reading" : Str), .adr (dctAt (gaF "SHAPES") "every reading")), (("some reading" : Str), .adr (dctAt (gaF "SHAPES") "some reading")), (("there and back" : Str), .adr (dctAt (gaF "SHAPES") "there and back")), (("sum of durations" : Str), .adr (dctAt (gaF "SHAPES") "sum of durations")), (("elapsed time" : Str), .adr (dctAt (gaF "SHAPES") "elapsed time")), (("same clock" : Str), .adr (dctAt (gaF "SHAPES") "same clock")), (("later" : Str), .adr (dctAt (gaF "SHAPES") "later")), (("sums told" : Str), .adr (dctAt (gaF "SHAPES") "sums told")), (("difference recovers" : Str), .adr (dctAt (gaF "SHAPES") "difference recovers")), (("order by difference" : Str), .adr (dctAt (gaF "SHAPES") "order by difference")), (("equal means one instant" : Str), .adr (dctAt (gaF "SHAPES") "equal means one instant")), (("one instant means equal" : Str), .adr (dctAt (gaF "SHAPES") "one instant means equal")), (("one instant, one time" : Str), .adr (dctAt (gaF "SHAPES") "one instant, one time")), (("order of instants" : Str), .adr (dctAt (gaF "SHAPES") "order of instants")), (("order kept" : Str), .adr (dctAt (gaF "SHAPES") "order kept")), (("equal sums" : Str), .adr (dctAt (gaF "SHAPES") "equal sums"))]) rfl) (List.mem_of_getElem? (i := 11) rfl),
    (dctAt (gaF "SHAPES") "equal means one instant" K),
    fun H => tupD_ok (cp 88 (p := tupD (dctAt (gaF "SHAPES") "equal means one instant") [.str "time", .str "time"]) rfl) H,
    kdct_of (a := gaF "SHAPES") (c.t.tab 5 (t := (gaF "SHAPES", ["from universal and back", "to universal and back", "every reading", "some reading", "there and back", "sum of durations", "elapsed time", "same clock", "later", "sums told", "difference recovers", "order by difference", "equal means one instant", "one instant means equal", "one instant, one time", "order of instants", "order kept", "equal sums"])) rfl) (cp 75 (p := valsD (gaF "SHAPES") [(("from universal and back" : Str), .adr (dctAt (gaF "SHAPES") "from universal and back")), (("to universal and back" : Str), .adr (dctAt (gaF "SHAPES") "to universal and back")), (("every reading" : Str), .adr (dctAt (gaF "SHAPES") "every reading")), (("some reading" : Str), .adr (dctAt (gaF "SHAPES") "some reading")), (("there and back" : Str), .adr (dctAt (gaF "SHAPES") "there and back")), (("sum of durations" : Str), .adr (dctAt (gaF "SHAPES") "sum of durations")), (("elapsed time" : Str), .adr (dctAt (gaF "SHAPES") "elapsed time")), (("same clock" : Str), .adr (dctAt (gaF "SHAPES") "same clock")), (("later" : Str), .adr (dctAt (gaF "SHAPES") "later")), (("sums told" : Str), .adr (dctAt (gaF "SHAPES") "sums told")), (("difference recovers" : Str), .adr (dctAt (gaF "SHAPES") "difference recovers")), (("order by difference" : Str), .adr (dctAt (gaF "SHAPES") "order by difference")), (("equal means one instant" : Str), .adr (dctAt (gaF "SHAPES") "equal means one instant")), (("one instant means equal" : Str), .adr (dctAt (gaF "SHAPES") "one instant means equal")), (("one instant, one time" : Str), .adr (dctAt (gaF "SHAPES") "one instant, one time")), (("order of instants" : Str), .adr (dctAt (gaF "SHAPES") "order of instants")), (("order kept" : Str), .adr (dctAt (gaF "SHAPES") "order kept")), (("equal sums" : Str), .adr (dctAt (gaF "SHAPES") "equal sums"))]) rfl) (List.mem_of_getElem? (i := 12) rfl),
    (dctAt (gaF "SHAPES") "one instant means equal" K),
    fun H => tupD_ok (cp 89 (p := tupD (dctAt (gaF "SHAPES") "one instant means equal") [.str "time", .str "time"]) rfl) H,
    kdct_of (a := gaF "SHAPES") (c.t.tab 5 (t := (gaF "SHAPES", ["from universal and back", "to universal and back", "every reading", "some reading", "there and back", "sum of durations", "elapsed time", "same clock", "later", "sums told", "difference recovers", "order by difference", "equal means one instant", "one instant means equal", "one instant, one time", "order of instants", "order kept", "equal sums"])) rfl) (cp 75 (p := valsD (gaF "SHAPES") [(("from universal and back" : Str), .adr (dctAt (gaF "SHAPES") "from universal and back")), (("to universal and back" : Str), .adr (dctAt (gaF "SHAPES") "to universal and back")), (("every reading" : Str), .adr (dctAt (gaF "SHAPES") "every reading")), (("some reading" : Str), .adr (dctAt (gaF "SHAPES") "some reading")), (("there and back" : Str), .adr (dctAt (gaF "SHAPES") "there and back")), (("sum of durations" : Str), .adr (dctAt (gaF "SHAPES") "sum of durations")), (("elapsed time" : Str), .adr (dctAt (gaF "SHAPES") "elapsed time")), (("same clock" : Str), .adr (dctAt (gaF "SHAPES") "same clock")), (("later" : Str), .adr (dctAt (gaF "SHAPES") "later")), (("sums told" : Str), .adr (dctAt (gaF "SHAPES") "sums told")), (("difference recovers" : Str), .adr (dctAt (gaF "SHAPES") "difference recovers")), (("order by difference" : Str), .adr (dctAt (gaF "SHAPES") "order by difference")), (("equal means one instant" : Str), .adr (dctAt (gaF "SHAPES") "equal means one instant")), (("one instant means equal" : Str), .adr (dctAt (gaF "SHAPES") "one instant means equal")), (("one instant, one time" : Str), .adr (dctAt (gaF "SHAPES") "one instant, one time")), (("order of instants" : Str), .adr (dctAt (gaF "SHAPES") "order of instants")), (("order kept" : Str), .adr (dctAt (gaF "SHAPES") "order kept")), (("equal sums" : Str), .adr (dctAt (gaF "SHAPES") "equal sums"))]) rfl) (List.mem_of_getElem? (i := 13) rfl),
    (dctAt (gaF "SHAPES") "one instant, one time" K),
    fun H => tupD_ok (cp 90 (p := tupD (dctAt (gaF "SHAPES") "one instant, one time") [.str "time", .str "time"]) rfl) H,
    kdct_of (a := gaF "SHAPES") (c.t.tab 5 (t := (gaF "SHAPES", ["from universal and back", "to universal and back", "every reading", "some reading", "there and back", "sum of durations", "elapsed time", "same clock", "later", "sums told", "difference recovers", "order by difference", "equal means one instant", "one instant means equal", "one instant, one time", "order of instants", "order kept", "equal sums"])) rfl) (cp 75 (p := valsD (gaF "SHAPES") [(("from universal and back" : Str), .adr (dctAt (gaF "SHAPES") "from universal and back")), (("to universal and back" : Str), .adr (dctAt (gaF "SHAPES") "to universal and back")), (("every reading" : Str), .adr (dctAt (gaF "SHAPES") "every reading")), (("some reading" : Str), .adr (dctAt (gaF "SHAPES") "some reading")), (("there and back" : Str), .adr (dctAt (gaF "SHAPES") "there and back")), (("sum of durations" : Str), .adr (dctAt (gaF "SHAPES") "sum of durations")), (("elapsed time" : Str), .adr (dctAt (gaF "SHAPES") "elapsed time")), (("same clock" : Str), .adr (dctAt (gaF "SHAPES") "same clock")), (("later" : Str), .adr (dctAt (gaF "SHAPES") "later")), (("sums told" : Str), .adr (dctAt (gaF "SHAPES") "sums told")), (("difference recovers" : Str), .adr (dctAt (gaF "SHAPES") "difference recovers")), (("order by difference" : Str), .adr (dctAt (gaF "SHAPES") "order by difference")), (("equal means one instant" : Str), .adr (dctAt (gaF "SHAPES") "equal means one instant")), (("one instant means equal" : Str), .adr (dctAt (gaF "SHAPES") "one instant means equal")), (("one instant, one time" : Str), .adr (dctAt (gaF "SHAPES") "one instant, one time")), (("order of instants" : Str), .adr (dctAt (gaF "SHAPES") "order of instants")), (("order kept" : Str), .adr (dctAt (gaF "SHAPES") "order kept")), (("equal sums" : Str), .adr (dctAt (gaF "SHAPES") "equal sums"))]) rfl) (List.mem_of_getElem? (i := 14) rfl),
    (dctAt (gaF "SHAPES") "order of instants" K),
    fun H => tupD_ok (cp 91 (p := tupD (dctAt (gaF "SHAPES") "order of instants") [.str "time", .str "time"]) rfl) H,
    kdct_of (a := gaF "SHAPES") (c.t.tab 5 (t := (gaF "SHAPES", ["from universal and back", "to universal and back", "every reading", "some reading", "there and back", "sum of durations", "elapsed time", "same clock", "later", "sums told", "difference recovers", "order by difference", "equal means one instant", "one instant means equal", "one instant, one time", "order of instants", "order kept", "equal sums"])) rfl) (cp 75 (p := valsD (gaF "SHAPES") [(("from universal and back" : Str), .adr (dctAt (gaF "SHAPES") "from universal and back")), (("to universal and back" : Str), .adr (dctAt (gaF "SHAPES") "to universal and back")), (("every reading" : Str), .adr (dctAt (gaF "SHAPES") "every reading")), (("some reading" : Str), .adr (dctAt (gaF "SHAPES") "some reading")), (("there and back" : Str), .adr (dctAt (gaF "SHAPES") "there and back")), (("sum of durations" : Str), .adr (dctAt (gaF "SHAPES") "sum of durations")), (("elapsed time" : Str), .adr (dctAt (gaF "SHAPES") "elapsed time")), (("same clock" : Str), .adr (dctAt (gaF "SHAPES") "same clock")), (("later" : Str), .adr (dctAt (gaF "SHAPES") "later")), (("sums told" : Str), .adr (dctAt (gaF "SHAPES") "sums told")), (("difference recovers" : Str), .adr (dctAt (gaF "SHAPES") "difference recovers")), (("order by difference" : Str), .adr (dctAt (gaF "SHAPES") "order by difference")), (("equal means one instant" : Str), .adr (dctAt (gaF "SHAPES") "equal means one instant")), (("one instant means equal" : Str), .adr (dctAt (gaF "SHAPES") "one instant means equal")), (("one instant, one time" : Str), .adr (dctAt (gaF "SHAPES") "one instant, one time")), (("order of instants" : Str), .adr (dctAt (gaF "SHAPES") "order of instants")), (("order kept" : Str), .adr (dctAt (gaF "SHAPES") "order kept")), (("equal sums" : Str), .adr (dctAt (gaF "SHAPES") "equal sums"))]) rfl) (List.mem_of_getElem? (i := 15) rfl),
    (dctAt (gaF "SHAPES") "order kept" K),
    fun H => tupD_ok (cp 92 (p := tupD (dctAt (gaF "SHAPES") "order kept") [.str "time", .str "time", .str "duration"]) rfl) H,
    kdct_of (a := gaF "SHAPES") (c.t.tab 5 (t := (gaF "SHAPES", ["from universal and back", "to universal and back", "every reading", "some reading", "there and back", "sum of durations", "elapsed time", "same clock", "later", "sums told", "difference recovers", "order by difference", "equal means one instant", "one instant means equal", "one instant, one time", "order of instants", "order kept", "equal sums"])) rfl) (cp 75 (p := valsD (gaF "SHAPES") [(("from universal and back" : Str), .adr (dctAt (gaF "SHAPES") "from universal and back")), (("to universal and back" : Str), .adr (dctAt (gaF "SHAPES") "to universal and back")), (("every reading" : Str), .adr (dctAt (gaF "SHAPES") "every reading")), (("some reading" : Str), .adr (dctAt (gaF "SHAPES") "some reading")), (("there and back" : Str), .adr (dctAt (gaF "SHAPES") "there and back")), (("sum of durations" : Str), .adr (dctAt (gaF "SHAPES") "sum of durations")), (("elapsed time" : Str), .adr (dctAt (gaF "SHAPES") "elapsed time")), (("same clock" : Str), .adr (dctAt (gaF "SHAPES") "same clock")), (("later" : Str), .adr (dctAt (gaF "SHAPES") "later")), (("sums told" : Str), .adr (dctAt (gaF "SHAPES") "sums told")), (("difference recovers" : Str), .adr (dctAt (gaF "SHAPES") "difference recovers")), (("order by difference" : Str), .adr (dctAt (gaF "SHAPES") "order by difference")), (("equal means one instant" : Str), .adr (dctAt (gaF "SHAPES") "equal means one instant")), (("one instant means equal" : Str), .adr (dctAt (gaF "SHAPES") "one instant means equal")), (("one instant, one time" : Str), .adr (dctAt (gaF "SHAPES") "one instant, one time")), (("order of instants" : Str), .adr (dctAt (gaF "SHAPES") "order of instants")), (("order kept" : Str), .adr (dctAt (gaF "SHAPES") "order kept")), (("equal sums" : Str), .adr (dctAt (gaF "SHAPES") "equal sums"))]) rfl) (List.mem_of_getElem? (i := 16) rfl),
    (dctAt (gaF "SHAPES") "equal sums" K),
    fun H => tupD_ok (cp 93 (p := tupD (dctAt (gaF "SHAPES") "equal sums") [.str "time", .str "time", .str "duration"]) rfl) H,
    kdct_of (a := gaF "SHAPES") (c.t.tab 5 (t := (gaF "SHAPES", ["from universal and back", "to universal and back", "every reading", "some reading", "there and back", "sum of durations", "elapsed time", "same clock", "later", "sums told", "difference recovers", "order by difference", "equal means one instant", "one instant means equal", "one instant, one time", "order of instants", "order kept", "equal sums"])) rfl) (cp 75 (p := valsD (gaF "SHAPES") [(("from universal and back" : Str), .adr (dctAt (gaF "SHAPES") "from universal and back")), (("to universal and back" : Str), .adr (dctAt (gaF "SHAPES") "to universal and back")), (("every reading" : Str), .adr (dctAt (gaF "SHAPES") "every reading")), (("some reading" : Str), .adr (dctAt (gaF "SHAPES") "some reading")), (("there and back" : Str), .adr (dctAt (gaF "SHAPES") "there and back")), (("sum of durations" : Str), .adr (dctAt (gaF "SHAPES") "sum of durations")), (("elapsed time" : Str), .adr (dctAt (gaF "SHAPES") "elapsed time")), (("same clock" : Str), .adr (dctAt (gaF "SHAPES") "same clock")), (("later" : Str), .adr (dctAt (gaF "SHAPES") "later")), (("sums told" : Str), .adr (dctAt (gaF "SHAPES") "sums told")), (("difference recovers" : Str), .adr (dctAt (gaF "SHAPES") "difference recovers")), (("order by difference" : Str), .adr (dctAt (gaF "SHAPES") "order by difference")), (("equal means one instant" : Str), .adr (dctAt (gaF "SHAPES") "equal means one instant")), (("one instant means equal" : Str), .adr (dctAt (gaF "SHAPES") "one instant means equal")), (("one instant, one time" : Str), .adr (dctAt (gaF "SHAPES") "one instant, one time")), (("order of instants" : Str), .adr (dctAt (gaF "SHAPES") "order of instants")), (("order kept" : Str), .adr (dctAt (gaF "SHAPES") "order kept")), (("equal sums" : Str), .adr (dctAt (gaF "SHAPES") "equal sums"))]) rfl) (List.mem_of_getElem? (i := 17) rfl),
    keysD_ok (c.t.tab 5 (t := (gaF "SHAPES", ["from universal and back", "to universal and back", "every reading", "some reading", "there and back", "sum of durations", "elapsed time", "same clock", "later", "sums told", "difference recovers", "order by difference", "equal means one instant", "one instant means equal", "one instant, one time", "order of instants", "order kept", "equal sums"])) rfl) (cp 94 (p := keysD (gaF "SHAPES") ["from universal and back", "to universal and back", "every reading", "some reading", "there and back", "sum of durations", "elapsed time", "same clock", "later", "sums told", "difference recovers", "order by difference", "equal means one instant", "one instant means equal", "one instant, one time", "order of instants", "order kept", "equal sums"]) rfl),
    u21,
    g21,
    He.ga K "KINDS",
    He.glo_ok X G (c.t.d.fact 123 (f := .glo "KINDS") rfl),
    fun H => tupD_ok (cp 95 (p := tupD (gaF "KINDS") [.str "fixed", .str "skips", .str "repeats", .str "both"]) rfl) H,
    He.ga K "GAP_ZONE",
    He.glo_ok X G (c.t.d.fact 124 (f := .glo "GAP_ZONE") rfl),
    (itmAt (itmAt (gaF "GAP_ZONE") 1) 0 K),
    fun H => tupD_ok (cp 96 (p := tupD (itmAt (itmAt (gaF "GAP_ZONE") 1) 0) [.int 0, .int 2]) rfl) H,
    (itmAt (gaF "GAP_ZONE") 1 K),
    fun H => tupD_ok (cp 97 (p := tupD (itmAt (gaF "GAP_ZONE") 1) [.adr (itmAt (itmAt (gaF "GAP_ZONE") 1) 0)]) rfl) H,
    fun H => tupD_ok (cp 98 (p := tupD (gaF "GAP_ZONE") [.int 0, .adr (itmAt (gaF "GAP_ZONE") 1)]) rfl) H,
    He.ga K "FOLD_ZONE",
    He.glo_ok X G (c.t.d.fact 125 (f := .glo "FOLD_ZONE") rfl),
    (itmAt (itmAt (gaF "FOLD_ZONE") 1) 0 K),
    fun H => tupD_ok (cp 99 (p := tupD (itmAt (itmAt (gaF "FOLD_ZONE") 1) 0) [.int 0, .int (-2)]) rfl) H,
    (itmAt (gaF "FOLD_ZONE") 1 K),
    fun H => tupD_ok (cp 100 (p := tupD (itmAt (gaF "FOLD_ZONE") 1) [.adr (itmAt (itmAt (gaF "FOLD_ZONE") 1) 0)]) rfl) H,
    fun H => tupD_ok (cp 101 (p := tupD (gaF "FOLD_ZONE") [.int 0, .adr (itmAt (gaF "FOLD_ZONE") 1)]) rfl) H,
    u25,
    g25,
    u26,
    g26⟩
  have e := hfa.symm.trans (He.glo_ok X G (c.t.d.fact 85 (f := .glo "law") rfl))
  cases e
  have b := FunD.bindsA (ps := ["script"]) F85 fun _ _ _ _ _ _ us hl => match us, hl with | [_], _ => rfl
  exact ⟨fd85, fun s v => b s [v] rfl, fun base _ _ => ok_law T⟩
end TH
open PySem PySem.W PySem.Calls PyProof.Rows in
set_option maxRecDepth 100000 in
set_option maxHeartbeats 0 in
theorem PySem.Challenge.cw_timeheld_k10_known_times_holds : PySem.Challenge.rw_timeheld_k10_known_times.Holds := by
  w_on; o_law
  refine HandSHeadRun.head_any (r := OpenLaw.row PySem.Challenge.rw_timeheld_k10_known_times) (q := view (OpenLaw.row PySem.Challenge.rw_timeheld_k10_known_times).prog [142]) (H := TH.hk) (ob := TH.ob) (M := 12000) (loose := TH.loose) (d := HandSHeadRun.topDef (OpenLaw.row PySem.Challenge.rw_timeheld_k10_known_times).prog 142) (kwd := []) TH.ob_eq
    (by kernel_rfl) (fun s => by kernel_rfl) TH.run (by kernel_rfl) (by kernel_rfl) (by kernel_rfl) (by rfl) (by first | assumption | decide +kernel) (by decide +kernel) ⟨rfl, rfl, rfl, rfl, rfl, by decide +kernel⟩ ?hw ?hc
  case hw => w_witness2
  case hc =>
    refine L2.walk_ofE (l := PySem.Challenge.rw_timeheld_k10_known_times) (n := 63) (k := 10) (x := "script") (CX := L2.CX0) rfl (by decide) (by kernel_rfl) ⟨rfl, by decide, by decide⟩ ?F (fun _ _ _ _ z => z)
    intro w mg fa h Y G hmg0
    obtain ⟨K, KX, c⟩ := Y
    have hmg : mg ("law" : PySem.Str) = some (.ref fa) := by
      have e : (HandSHeadRun.topDef (OpenLaw.row PySem.Challenge.rw_timeheld_k10_known_times).prog 142).name = ("law" : PySem.Str) := by kernel_rfl
      rw [← e]
      exact hmg0
    obtain ⟨fd, hb, hF⟩ := TH.facts (P := (PySem.Challenge.rw_timeheld_k10_known_times).prog) (w := w) KX G hmg c
    exact ⟨K, fd, TH.sp_law K, KX, hb, fun H a ns hl _ hS => ⟨a, ns, rfl, hS, hl, fun _ => rfl⟩, hF⟩
