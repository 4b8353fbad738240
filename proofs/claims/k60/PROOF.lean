import PyProof.Rows.All
import Wide.All
import OpenK.AllK
import Wide.FinOn
import KE.KStateDown
import KE.KExcInit
import HandS.Base
import HandS.Call
import HandS.Words
import HandS.Head0
import HandS.Head1
import HandS.Head2
import HandS.HeadEnd
import HandS.HeadHook1
import HandS.HeadHook2
import HandS.HeadNt
import HandS.ForMost
import PyProof.ReprRoads
import HandS.NoneIn
import HandS.IsInst
import HandS.Conv
import KE.GoesMore
import HandS.Style
import HandS.RevRange
import HandS.TupAny
import HandS.Flow
import PyProof.EqKinds
import PyProof.NeKinds
import PyProof.EqAt
import PyProof.ListStr
import PyProof.StrLawsOcc
import HandS.Text
import HandS.Zip
import HandS.Sort
import HandS.SortOrd
import HandS.SortRule
import HandS.SortInts
import HandS.SortKw
import KE.DataMinKey
import PyProof.SeqI3
import PyProof.ListCopy
import PyProof.Rows.SortShell
import HandS.Small
import HandS.Dict
import KE.SortKeyHeap
import KE.SortData
import HandS.SetFor
import PyProof.Rows.IntBool
import HandS.TupMul
import KE.KEqDict
import HandS.Replace
import HandS.ReplaceList
import PyProof.ReprBulk
import HandS.ForExc
import HandS.ExcField
import KE.KExcIs
import HandS.WordsExc
import HandS.ExcIs
import KE.KIndexOf
import PyProof.Rows.StrInSeq3
import HandS.Property
import KE.KCallOwn
import OpenK.KOps
import HandS.FStr
import HandS.Defaults
import HandS.Wide
import KE.DataMinMax
import HandS.TupSets
import KE.KDictDisplayH
import HandS.Star
import PySem.Challenge.RW_duelsets_k60_benches_and_edits
set_option Elab.async false
set_option linter.all false
set_option maxRecDepth 100000
set_option maxHeartbeats 4000000
namespace DS
open PySem PySem.Spec PyProof.Rows L2
/-! ### a head by facts: any Bool over what the module's names reach, and defs -/
abbrev FxL : Type := List (PySem.W.Frag → Bool)
def obsX (fx : FxL) (fn : List He5.DefA) (K : PySem.W.Frag) : He.AlD := ((fx.all fun f => f K) && fn.all fun d => d.ok K, fn.map fun d => He5.fnA K (d.at_ K))
def SaysX (fx : FxL) (fn : List He5.DefA) (K : PySem.W.Frag) : Prop := obsX fx fn K = He5.valA fn
/-- what an object of the module names, as far as we look -/
def refsX (o : Obj) : List Addr := match o.data with
  | .dict es _ => es.toList.flatMap fun e => He.refV e.val
  | .func fd => He.refV fd.code ++ (He.refV fd.defaults ++ He.refV fd.kwdefaults)
  | .cls cd => [cd.ns]
  | .fields vs => (match o.cls with
    | .type "property" => vs.toList.flatMap He.refV
    | _ => [])
  | _ => []
def growX (g : Addr → Option Obj) (as : List Addr) : List Addr := as.flatMap fun a => match g a with
  | some o => refsX o
  | none => []
def asX (g : Addr → Option Obj) : Nat → List Addr → List Addr
  | 0, as => as
  | n + 1, as => as ++ asX g n (growX g as)
def obsXG (n : Nat) (fx : FxL) (fn : List He5.DefA) (g : Addr → Option Obj) : He.AlD := obsX fx fn (He.frG g (asX g n [mainGlobals] ++ [cStatics]))
def hookX (n : Nat) (fx : FxL) (fn : List He5.DefA) : PySem.W.Hook where
  α := He.AlD
  obs := fun s => obsXG n fx fn s.heap.get?
  val := fun _ => He5.valA fn
  says := fun _ h => ∃ K : PySem.W.Frag, K.In h ∧ SaysX fx fn K
  of := fun _ _ e => ⟨_, He.frG_in, e⟩
  keeps := fun _ _ _ ⟨K, hK, c⟩ k => ⟨K, PySem.W.Frag.In.keeps hK k, c⟩
theorem obsXG_eq {n : Nat} {fx : FxL} {fn : List He5.DefA} {g : Addr → Option Obj} {s : Shared} (h : ∀ a, g a = s.heap.get? a) : obsXG n fx fn g = (hookX n fx fn).obs s := by
  have e : g = s.heap.get? := funext h
  rw [e] <;> rfl
section
variable {fx : FxL} {fn : List He5.DefA} {K : PySem.W.Frag}
theorem SaysX.fact (c : SaysX fx fn K) (i : Nat) {f : PySem.W.Frag → Bool} (h : fx[i]? = some f := by rfl) : f K = true := by
  have c1 := (He.ba (show ((fx.all fun f => f K) && fn.all fun d => d.ok K) = true from congrArg (fun z : He.AlD => z.1) c)).1
  exact List.all_eq_true.mp c1 f (List.mem_of_getElem? h)
theorem SaysX.def_ (c : SaysX fx fn K) (i : Nat) {d : He5.DefA} (h : fn[i]? = some d := by rfl) : ∃ fd, L2.FunD K d.name d.qual d.params d.body d.scope (d.dvs K) (d.kws K) (d.at_ K) fd := by
  have c2 := (He.ba (show ((fx.all fun f => f K) && fn.all fun d => d.ok K) = true from congrArg (fun z : He.AlD => z.1) c)).2
  have e : fn.map (fun d => He5.fnA K (d.at_ K)) = fn.map He5.DefA.val := congrArg (fun z : He.AlD => z.2) c
  have e2 : (fn.map fun d => He5.fnA K (d.at_ K))[i]? = (fn.map He5.DefA.val)[i]? := by rw [e]
  rw [List.getElem?_map, List.getElem?_map, h] at e2
  exact He5.DefA.funD (Option.some.inj e2) (List.all_eq_true.mp c2 d (List.mem_of_getElem? h))
end
/-- a property's getter -/
def pga (K : PySem.W.Frag) (p : Addr) : Addr := match PySem.W.recIn K p "property" with
  | some (.ref f :: _) => f
  | _ => 0
def pgB (K : PySem.W.Frag) (p : Addr) : Bool := match PySem.W.recIn K p "property" with
  | some (.ref f :: _) => decide (f = pga K p)
  | _ => false
theorem pgB_ok {K : PySem.W.Frag} {p : Addr} (h : pgB K p = true) : ∃ rest, PySem.W.recIn K p "property" = some (.ref (pga K p) :: rest) := by
  unfold pgB at h
  split at h
  · rename_i f r e
    have h := of_decide_eq_true h
    exact ⟨r, by rw [e, ← h]⟩
  · cases h
/-- an int of the module -/
def giB (K : PySem.W.Frag) (x : Str) (i : Int) : Bool := match PySem.W.nsIn K mainGlobals x with
  | some (some (.int j _)) => decide (j = i)
  | _ => false
theorem giB_ok {K : PySem.W.Frag} {x : Str} {i : Int} (h : giB K x i = true) : ∃ t, PySem.W.nsIn K mainGlobals x = some (some (.int i t)) := by
  unfold giB at h
  split at h
  · rename_i j t e
    have h := of_decide_eq_true h
    subst h
    exact ⟨t, e⟩
  · cases h
/-- a def that keeps no keyword defaults at all -/
def nokB (K : PySem.W.Frag) (f : Addr) : Bool := match K.lookup f with
  | some ⟨_, _, .func fd, _⟩ => decide (fd.kwdefaults = .none)
  | _ => false
end DS
set_option maxHeartbeats 4000000
namespace DS
open PySem PySem.Spec PyProof.Rows L2
def topS (i : Nat) : Stmt := PySem.Challenge.pw_duelsets_k60_benches_and_edits.main.body.getD i (.Pass ⟨0, 0, 0, 0⟩)
abbrev s_is_integer : Stmt := topS 21
abbrev s_is_alternative : Stmt := topS 22
abbrev s_is_set : Stmt := topS 23
abbrev s_require_alternative : Stmt := topS 24
abbrev s_table_error : Stmt := topS 26
abbrev s_row_error : Stmt := topS 27
abbrev s_sign_error : Stmt := topS 28
abbrev s_pair_error : Stmt := topS 29
abbrev s_outsiders : Stmt := topS 35
abbrev s_pick_table : Stmt := topS 38
abbrev s_turn_duel : Stmt := topS 39
abbrev s_turn_sign : Stmt := topS 40
abbrev s_edited_table : Stmt := topS 81
abbrev s_with_another : Stmt := topS 82
abbrev s_without_one : Stmt := topS 83
abbrev s__law_stream : Stmt := topS 86
abbrev s__law_take : Stmt := topS 87
abbrev s__law_from : Stmt := topS 88
abbrev s__law_equal : Stmt := topS 89
abbrev s__law_table : Stmt := topS 90
abbrev s__law_wins : Stmt := topS 91
abbrev s__law_is_set : Stmt := topS 92
abbrev s__law_turned : Stmt := topS 93
abbrev s__law_grown : Stmt := topS 94
abbrev s__law_shrunk : Stmt := topS 95
abbrev s__law_due : Stmt := topS 96
abbrev s__law_do : Stmt := topS 97
abbrev s__law_some_edit : Stmt := topS 98
abbrev s__law_valid_edit : Stmt := topS 99
abbrev s__law_text : Stmt := topS 100
abbrev s__law_seen : Stmt := topS 101
abbrev s__law_due_seen : Stmt := topS 102
abbrev s_law : Stmt := topS 103
abbrev s_Bench___init__ : Stmt := inClass (topS 84) 2
abbrev s_Bench_version : Stmt := inClass (topS 84) 5
abbrev s_Bench_size : Stmt := inClass (topS 84) 6
abbrev s_Bench_kind : Stmt := inClass (topS 84) 7
abbrev s_Bench_turn : Stmt := inClass (topS 84) 10
abbrev s_Bench_add : Stmt := inClass (topS 84) 11
abbrev s_Bench_remove : Stmt := inClass (topS 84) 12
abbrev s_Bench_edit_once : Stmt := inClass (topS 84) 17
abbrev s_Bench_do_edit : Stmt := inClass (topS 84) 18
abbrev s_Bench_require_fit : Stmt := inClass (topS 84) 19
abbrev s_Bench_require_free : Stmt := inClass (topS 84) 20
abbrev s_Bench_state_at : Stmt := inClass (topS 84) 21
abbrev s_Bench_table : Stmt := inClass (topS 84) 22
abbrev s_Bench_edits : Stmt := inClass (topS 84) 24
abbrev s_Bench___len__ : Stmt := inClass (topS 84) 27
abbrev s_Bench___str__ : Stmt := inClass (topS 84) 28
def dx_is_integer : He5.DefA := ⟨fun K => (He.ga K "is_integer"), "is_integer", "is_integer", defArgs s_is_integer, defBody s_is_integer, defScope s_is_integer, [], []⟩
def dx_is_alternative : He5.DefA := ⟨fun K => (He.ga K "is_alternative"), "is_alternative", "is_alternative", defArgs s_is_alternative, defBody s_is_alternative, defScope s_is_alternative, [], []⟩
def dx_is_set : He5.DefA := ⟨fun K => (He.ga K "is_set"), "is_set", "is_set", defArgs s_is_set, defBody s_is_set, defScope s_is_set, [], []⟩
def dx_require_alternative : He5.DefA := ⟨fun K => (He.ga K "require_alternative"), "require_alternative", "require_alternative", defArgs s_require_alternative, defBody s_require_alternative, defScope s_require_alternative, [], []⟩
def dx_table_error : He5.DefA := ⟨fun K => (He.ga K "table_error"), "table_error", "table_error", defArgs s_table_error, defBody s_table_error, defScope s_table_error, [], []⟩
def dx_row_error : He5.DefA := ⟨fun K => (He.ga K "row_error"), "row_error", "row_error", defArgs s_row_error, defBody s_row_error, defScope s_row_error, [], []⟩
def dx_sign_error : He5.DefA := ⟨fun K => (He.ga K "sign_error"), "sign_error", "sign_error", defArgs s_sign_error, defBody s_sign_error, defScope s_sign_error, [], []⟩
def dx_pair_error : He5.DefA := ⟨fun K => (He.ga K "pair_error"), "pair_error", "pair_error", defArgs s_pair_error, defBody s_pair_error, defScope s_pair_error, [], []⟩
def dx_outsiders : He5.DefA := ⟨fun K => (He.ga K "outsiders"), "outsiders", "outsiders", defArgs s_outsiders, defBody s_outsiders, defScope s_outsiders, [], []⟩
def dx_pick_table : He5.DefA := ⟨fun K => (He.ga K "pick_table"), "pick_table", "pick_table", defArgs s_pick_table, defBody s_pick_table, defScope s_pick_table, [], []⟩
def dx_turn_duel : He5.DefA := ⟨fun K => (He.ga K "turn_duel"), "turn_duel", "turn_duel", defArgs s_turn_duel, defBody s_turn_duel, defScope s_turn_duel, [], []⟩
def dx_turn_sign : He5.DefA := ⟨fun K => (He.ga K "turn_sign"), "turn_sign", "turn_sign", defArgs s_turn_sign, defBody s_turn_sign, defScope s_turn_sign, [], []⟩
def dx_edited_table : He5.DefA := ⟨fun K => (He.ga K "edited_table"), "edited_table", "edited_table", defArgs s_edited_table, defBody s_edited_table, defScope s_edited_table, [], []⟩
def dx_with_another : He5.DefA := ⟨fun K => (He.ga K "with_another"), "with_another", "with_another", defArgs s_with_another, defBody s_with_another, defScope s_with_another, [], []⟩
def dx_without_one : He5.DefA := ⟨fun K => (He.ga K "without_one"), "without_one", "without_one", defArgs s_without_one, defBody s_without_one, defScope s_without_one, [], []⟩
def dx__law_stream : He5.DefA := ⟨fun K => (He.ga K "_law_stream"), "_law_stream", "_law_stream", defArgs s__law_stream, defBody s__law_stream, defScope s__law_stream, [], []⟩
def dx__law_take : He5.DefA := ⟨fun K => (He.ga K "_law_take"), "_law_take", "_law_take", defArgs s__law_take, defBody s__law_take, defScope s__law_take, [], []⟩
def dx__law_from : He5.DefA := ⟨fun K => (He.ga K "_law_from"), "_law_from", "_law_from", defArgs s__law_from, defBody s__law_from, defScope s__law_from, [], []⟩
def dx__law_equal : He5.DefA := ⟨fun K => (He.ga K "_law_equal"), "_law_equal", "_law_equal", defArgs s__law_equal, defBody s__law_equal, defScope s__law_equal, [], []⟩
def dx__law_table : He5.DefA := ⟨fun K => (He.ga K "_law_table"), "_law_table", "_law_table", defArgs s__law_table, defBody s__law_table, defScope s__law_table, [], []⟩
def dx__law_wins : He5.DefA := ⟨fun K => (He.ga K "_law_wins"), "_law_wins", "_law_wins", defArgs s__law_wins, defBody s__law_wins, defScope s__law_wins, [], []⟩
def dx__law_is_set : He5.DefA := ⟨fun K => (He.ga K "_law_is_set"), "_law_is_set", "_law_is_set", defArgs s__law_is_set, defBody s__law_is_set, defScope s__law_is_set, [], []⟩
def dx__law_turned : He5.DefA := ⟨fun K => (He.ga K "_law_turned"), "_law_turned", "_law_turned", defArgs s__law_turned, defBody s__law_turned, defScope s__law_turned, [], []⟩
def dx__law_grown : He5.DefA := ⟨fun K => (He.ga K "_law_grown"), "_law_grown", "_law_grown", defArgs s__law_grown, defBody s__law_grown, defScope s__law_grown, [], []⟩
def dx__law_shrunk : He5.DefA := ⟨fun K => (He.ga K "_law_shrunk"), "_law_shrunk", "_law_shrunk", defArgs s__law_shrunk, defBody s__law_shrunk, defScope s__law_shrunk, [], []⟩
def dx__law_due : He5.DefA := ⟨fun K => (He.ga K "_law_due"), "_law_due", "_law_due", defArgs s__law_due, defBody s__law_due, defScope s__law_due, [], []⟩
def dx__law_do : He5.DefA := ⟨fun K => (He.ga K "_law_do"), "_law_do", "_law_do", defArgs s__law_do, defBody s__law_do, defScope s__law_do, [], []⟩
def dx__law_some_edit : He5.DefA := ⟨fun K => (He.ga K "_law_some_edit"), "_law_some_edit", "_law_some_edit", defArgs s__law_some_edit, defBody s__law_some_edit, defScope s__law_some_edit, [.int 10], []⟩
def dx__law_valid_edit : He5.DefA := ⟨fun K => (He.ga K "_law_valid_edit"), "_law_valid_edit", "_law_valid_edit", defArgs s__law_valid_edit, defBody s__law_valid_edit, defScope s__law_valid_edit, [.int 10], []⟩
def dx__law_text : He5.DefA := ⟨fun K => (He.ga K "_law_text"), "_law_text", "_law_text", defArgs s__law_text, defBody s__law_text, defScope s__law_text, [], []⟩
def dx__law_seen : He5.DefA := ⟨fun K => (He.ga K "_law_seen"), "_law_seen", "_law_seen", defArgs s__law_seen, defBody s__law_seen, defScope s__law_seen, [], []⟩
def dx__law_due_seen : He5.DefA := ⟨fun K => (He.ga K "_law_due_seen"), "_law_due_seen", "_law_due_seen", defArgs s__law_due_seen, defBody s__law_due_seen, defScope s__law_due_seen, [], []⟩
def dx_law : He5.DefA := ⟨fun K => (He.ga K "law"), "law", "law", defArgs s_law, defBody s_law, defScope s_law, [], []⟩
def dx_Bench___init__ : He5.DefA := ⟨fun K => (He.ma K (He.ga K "Bench") "__init__"), "__init__", "Bench.__init__", defArgs s_Bench___init__, defBody s_Bench___init__, defScope s_Bench___init__, [], []⟩
def dx_Bench_version : He5.DefA := ⟨fun K => (pga K (He.ma K (He.ga K "Bench") "version")), "version", "Bench.version", defArgs s_Bench_version, defBody s_Bench_version, defScope s_Bench_version, [], []⟩
def dx_Bench_size : He5.DefA := ⟨fun K => (pga K (He.ma K (He.ga K "Bench") "size")), "size", "Bench.size", defArgs s_Bench_size, defBody s_Bench_size, defScope s_Bench_size, [], []⟩
def dx_Bench_kind : He5.DefA := ⟨fun K => (pga K (He.ma K (He.ga K "Bench") "kind")), "kind", "Bench.kind", defArgs s_Bench_kind, defBody s_Bench_kind, defScope s_Bench_kind, [], []⟩
def dx_Bench_turn : He5.DefA := ⟨fun K => (He.ma K (He.ga K "Bench") "turn"), "turn", "Bench.turn", defArgs s_Bench_turn, defBody s_Bench_turn, defScope s_Bench_turn, [], []⟩
def dx_Bench_add : He5.DefA := ⟨fun K => (He.ma K (He.ga K "Bench") "add"), "add", "Bench.add", defArgs s_Bench_add, defBody s_Bench_add, defScope s_Bench_add, [], []⟩
def dx_Bench_remove : He5.DefA := ⟨fun K => (He.ma K (He.ga K "Bench") "remove"), "remove", "Bench.remove", defArgs s_Bench_remove, defBody s_Bench_remove, defScope s_Bench_remove, [], []⟩
def dx_Bench_edit_once : He5.DefA := ⟨fun K => (He.ma K (He.ga K "Bench") "edit_once"), "edit_once", "Bench.edit_once", defArgs s_Bench_edit_once, defBody s_Bench_edit_once, defScope s_Bench_edit_once, [], []⟩
def dx_Bench_do_edit : He5.DefA := ⟨fun K => (He.ma K (He.ga K "Bench") "do_edit"), "do_edit", "Bench.do_edit", defArgs s_Bench_do_edit, defBody s_Bench_do_edit, defScope s_Bench_do_edit, [], []⟩
def dx_Bench_require_fit : He5.DefA := ⟨fun K => (He.ma K (He.ga K "Bench") "require_fit"), "require_fit", "Bench.require_fit", defArgs s_Bench_require_fit, defBody s_Bench_require_fit, defScope s_Bench_require_fit, [], []⟩
def dx_Bench_require_free : He5.DefA := ⟨fun K => (He.ma K (He.ga K "Bench") "require_free"), "require_free", "Bench.require_free", defArgs s_Bench_require_free, defBody s_Bench_require_free, defScope s_Bench_require_free, [], []⟩
def dx_Bench_state_at : He5.DefA := ⟨fun K => (He.ma K (He.ga K "Bench") "state_at"), "state_at", "Bench.state_at", defArgs s_Bench_state_at, defBody s_Bench_state_at, defScope s_Bench_state_at, [], []⟩
def dx_Bench_table : He5.DefA := ⟨fun K => (He.ma K (He.ga K "Bench") "table"), "table", "Bench.table", defArgs s_Bench_table, defBody s_Bench_table, defScope s_Bench_table, [], [("version", .non)]⟩
def dx_Bench_edits : He5.DefA := ⟨fun K => (He.ma K (He.ga K "Bench") "edits"), "edits", "Bench.edits", defArgs s_Bench_edits, defBody s_Bench_edits, defScope s_Bench_edits, [], []⟩
def dx_Bench___len__ : He5.DefA := ⟨fun K => (He.ma K (He.ga K "Bench") "__len__"), "__len__", "Bench.__len__", defArgs s_Bench___len__, defBody s_Bench___len__, defScope s_Bench___len__, [], []⟩
def dx_Bench___str__ : He5.DefA := ⟨fun K => (He.ma K (He.ga K "Bench") "__str__"), "__str__", "Bench.__str__", defArgs s_Bench___str__, defBody s_Bench___str__, defScope s_Bench___str__, [], []⟩
def dx_EBadTable : He5.DefA := ⟨fun K => (He.ma K (He.ga K "BadTable") "__init__"), "__init__", "BadTable.__init__", defArgs (inClass (topS 9) 0), defBody (inClass (topS 9) 0), defScope (inClass (topS 9) 0), [], []⟩
def dx_ENoAlternative : He5.DefA := ⟨fun K => (He.ma K (He.ga K "NoAlternative") "__init__"), "__init__", "NoAlternative.__init__", defArgs (inClass (topS 17) 0), defBody (inClass (topS 17) 0), defScope (inClass (topS 17) 0), [], []⟩
def dx_ENoSet : He5.DefA := ⟨fun K => (He.ma K (He.ga K "NoSet") "__init__"), "__init__", "NoSet.__init__", defArgs (inClass (topS 6) 0), defBody (inClass (topS 6) 0), defScope (inClass (topS 6) 0), [], []⟩
def dx_ENoVersion : He5.DefA := ⟨fun K => (He.ma K (He.ga K "NoVersion") "__init__"), "__init__", "NoVersion.__init__", defArgs (inClass (topS 19) 0), defBody (inClass (topS 19) 0), defScope (inClass (topS 19) 0), [], []⟩
def dx_ESameAlternative : He5.DefA := ⟨fun K => (He.ma K (He.ga K "SameAlternative") "__init__"), "__init__", "SameAlternative.__init__", defArgs (inClass (topS 7) 0), defBody (inClass (topS 7) 0), defScope (inClass (topS 7) 0), [], []⟩
def dx_ETooLarge : He5.DefA := ⟨fun K => (He.ma K (He.ga K "TooLarge") "__init__"), "__init__", "TooLarge.__init__", defArgs (inClass (topS 8) 0), defBody (inClass (topS 8) 0), defScope (inClass (topS 8) 0), [], []⟩
def fx_0 (K : PySem.W.Frag) : Bool := decide (PySem.W.nsIn K mainGlobals "is_integer" = some (some (.ref (He.ga K "is_integer"))))
def fx_1 (K : PySem.W.Frag) : Bool := decide (PySem.W.nsIn K mainGlobals "is_alternative" = some (some (.ref (He.ga K "is_alternative"))))
def fx_2 (K : PySem.W.Frag) : Bool := decide (PySem.W.nsIn K mainGlobals "is_set" = some (some (.ref (He.ga K "is_set"))))
def fx_3 (K : PySem.W.Frag) : Bool := decide (PySem.W.nsIn K mainGlobals "require_alternative" = some (some (.ref (He.ga K "require_alternative"))))
def fx_4 (K : PySem.W.Frag) : Bool := decide (PySem.W.nsIn K mainGlobals "table_error" = some (some (.ref (He.ga K "table_error"))))
def fx_5 (K : PySem.W.Frag) : Bool := decide (PySem.W.nsIn K mainGlobals "row_error" = some (some (.ref (He.ga K "row_error"))))
def fx_6 (K : PySem.W.Frag) : Bool := decide (PySem.W.nsIn K mainGlobals "sign_error" = some (some (.ref (He.ga K "sign_error"))))
def fx_7 (K : PySem.W.Frag) : Bool := decide (PySem.W.nsIn K mainGlobals "pair_error" = some (some (.ref (He.ga K "pair_error"))))
def fx_8 (K : PySem.W.Frag) : Bool := decide (PySem.W.nsIn K mainGlobals "outsiders" = some (some (.ref (He.ga K "outsiders"))))
def fx_9 (K : PySem.W.Frag) : Bool := decide (PySem.W.nsIn K mainGlobals "pick_table" = some (some (.ref (He.ga K "pick_table"))))
def fx_10 (K : PySem.W.Frag) : Bool := decide (PySem.W.nsIn K mainGlobals "turn_duel" = some (some (.ref (He.ga K "turn_duel"))))
def fx_11 (K : PySem.W.Frag) : Bool := decide (PySem.W.nsIn K mainGlobals "turn_sign" = some (some (.ref (He.ga K "turn_sign"))))
def fx_12 (K : PySem.W.Frag) : Bool := decide (PySem.W.nsIn K mainGlobals "edited_table" = some (some (.ref (He.ga K "edited_table"))))
def fx_13 (K : PySem.W.Frag) : Bool := decide (PySem.W.nsIn K mainGlobals "with_another" = some (some (.ref (He.ga K "with_another"))))
def fx_14 (K : PySem.W.Frag) : Bool := decide (PySem.W.nsIn K mainGlobals "without_one" = some (some (.ref (He.ga K "without_one"))))
def fx_15 (K : PySem.W.Frag) : Bool := decide (PySem.W.nsIn K mainGlobals "_law_stream" = some (some (.ref (He.ga K "_law_stream"))))
def fx_16 (K : PySem.W.Frag) : Bool := decide (PySem.W.nsIn K mainGlobals "_law_take" = some (some (.ref (He.ga K "_law_take"))))
def fx_17 (K : PySem.W.Frag) : Bool := decide (PySem.W.nsIn K mainGlobals "_law_from" = some (some (.ref (He.ga K "_law_from"))))
def fx_18 (K : PySem.W.Frag) : Bool := decide (PySem.W.nsIn K mainGlobals "_law_equal" = some (some (.ref (He.ga K "_law_equal"))))
def fx_19 (K : PySem.W.Frag) : Bool := decide (PySem.W.nsIn K mainGlobals "_law_table" = some (some (.ref (He.ga K "_law_table"))))
def fx_20 (K : PySem.W.Frag) : Bool := decide (PySem.W.nsIn K mainGlobals "_law_wins" = some (some (.ref (He.ga K "_law_wins"))))
def fx_21 (K : PySem.W.Frag) : Bool := decide (PySem.W.nsIn K mainGlobals "_law_is_set" = some (some (.ref (He.ga K "_law_is_set"))))
def fx_22 (K : PySem.W.Frag) : Bool := decide (PySem.W.nsIn K mainGlobals "_law_turned" = some (some (.ref (He.ga K "_law_turned"))))
def fx_23 (K : PySem.W.Frag) : Bool := decide (PySem.W.nsIn K mainGlobals "_law_grown" = some (some (.ref (He.ga K "_law_grown"))))
def fx_24 (K : PySem.W.Frag) : Bool := decide (PySem.W.nsIn K mainGlobals "_law_shrunk" = some (some (.ref (He.ga K "_law_shrunk"))))
def fx_25 (K : PySem.W.Frag) : Bool := decide (PySem.W.nsIn K mainGlobals "_law_due" = some (some (.ref (He.ga K "_law_due"))))
def fx_26 (K : PySem.W.Frag) : Bool := decide (PySem.W.nsIn K mainGlobals "_law_do" = some (some (.ref (He.ga K "_law_do"))))
def fx_27 (K : PySem.W.Frag) : Bool := decide (PySem.W.nsIn K mainGlobals "_law_some_edit" = some (some (.ref (He.ga K "_law_some_edit"))))
def fx_28 (K : PySem.W.Frag) : Bool := decide (PySem.W.nsIn K mainGlobals "_law_valid_edit" = some (some (.ref (He.ga K "_law_valid_edit"))))
def fx_29 (K : PySem.W.Frag) : Bool := decide (PySem.W.nsIn K mainGlobals "_law_text" = some (some (.ref (He.ga K "_law_text"))))
def fx_30 (K : PySem.W.Frag) : Bool := decide (PySem.W.nsIn K mainGlobals "_law_seen" = some (some (.ref (He.ga K "_law_seen"))))
def fx_31 (K : PySem.W.Frag) : Bool := decide (PySem.W.nsIn K mainGlobals "_law_due_seen" = some (some (.ref (He.ga K "_law_due_seen"))))
def fx_32 (K : PySem.W.Frag) : Bool := decide (PySem.W.nsIn K mainGlobals "law" = some (some (.ref (He.ga K "law"))))
def fx_33 (K : PySem.W.Frag) : Bool := decide (PySem.W.findIn K (.ref (He.ga K "Bench")) "__init__" = some (some (.ref (He.ma K (He.ga K "Bench") "__init__"))))
def fx_34 (K : PySem.W.Frag) : Bool := PySem.W.isFn K (.ref (He.ma K (He.ga K "Bench") "__init__"))
def fx_35 (K : PySem.W.Frag) : Bool := decide (PySem.W.findIn K (.ref (He.ga K "Bench")) "version" = some (some (.ref (He.ma K (He.ga K "Bench") "version"))))
def fx_36 (K : PySem.W.Frag) : Bool := decide (PySem.W.specialIn K (.ref (He.ma K (He.ga K "Bench") "version")) "__get__" = some (some (.builtin "property.__get__")))
def fx_37 (K : PySem.W.Frag) : Bool := decide (PySem.W.takesIn K (.ref (He.ma K (He.ga K "Bench") "version")) = some true)
def fx_38 (K : PySem.W.Frag) : Bool := pgB K (He.ma K (He.ga K "Bench") "version")
def fx_39 (K : PySem.W.Frag) : Bool := decide (PySem.W.findIn K (.ref (He.ga K "Bench")) "size" = some (some (.ref (He.ma K (He.ga K "Bench") "size"))))
def fx_40 (K : PySem.W.Frag) : Bool := decide (PySem.W.specialIn K (.ref (He.ma K (He.ga K "Bench") "size")) "__get__" = some (some (.builtin "property.__get__")))
def fx_41 (K : PySem.W.Frag) : Bool := decide (PySem.W.takesIn K (.ref (He.ma K (He.ga K "Bench") "size")) = some true)
def fx_42 (K : PySem.W.Frag) : Bool := pgB K (He.ma K (He.ga K "Bench") "size")
def fx_43 (K : PySem.W.Frag) : Bool := decide (PySem.W.findIn K (.ref (He.ga K "Bench")) "kind" = some (some (.ref (He.ma K (He.ga K "Bench") "kind"))))
def fx_44 (K : PySem.W.Frag) : Bool := decide (PySem.W.specialIn K (.ref (He.ma K (He.ga K "Bench") "kind")) "__get__" = some (some (.builtin "property.__get__")))
def fx_45 (K : PySem.W.Frag) : Bool := decide (PySem.W.takesIn K (.ref (He.ma K (He.ga K "Bench") "kind")) = some true)
def fx_46 (K : PySem.W.Frag) : Bool := pgB K (He.ma K (He.ga K "Bench") "kind")
def fx_47 (K : PySem.W.Frag) : Bool := decide (PySem.W.findIn K (.ref (He.ga K "Bench")) "turn" = some (some (.ref (He.ma K (He.ga K "Bench") "turn"))))
def fx_48 (K : PySem.W.Frag) : Bool := PySem.W.isFn K (.ref (He.ma K (He.ga K "Bench") "turn"))
def fx_49 (K : PySem.W.Frag) : Bool := decide (PySem.W.findIn K (.ref (He.ga K "Bench")) "add" = some (some (.ref (He.ma K (He.ga K "Bench") "add"))))
def fx_50 (K : PySem.W.Frag) : Bool := PySem.W.isFn K (.ref (He.ma K (He.ga K "Bench") "add"))
def fx_51 (K : PySem.W.Frag) : Bool := decide (PySem.W.findIn K (.ref (He.ga K "Bench")) "remove" = some (some (.ref (He.ma K (He.ga K "Bench") "remove"))))
def fx_52 (K : PySem.W.Frag) : Bool := PySem.W.isFn K (.ref (He.ma K (He.ga K "Bench") "remove"))
def fx_53 (K : PySem.W.Frag) : Bool := decide (PySem.W.findIn K (.ref (He.ga K "Bench")) "edit_once" = some (some (.ref (He.ma K (He.ga K "Bench") "edit_once"))))
def fx_54 (K : PySem.W.Frag) : Bool := PySem.W.isFn K (.ref (He.ma K (He.ga K "Bench") "edit_once"))
def fx_55 (K : PySem.W.Frag) : Bool := decide (PySem.W.findIn K (.ref (He.ga K "Bench")) "do_edit" = some (some (.ref (He.ma K (He.ga K "Bench") "do_edit"))))
def fx_56 (K : PySem.W.Frag) : Bool := PySem.W.isFn K (.ref (He.ma K (He.ga K "Bench") "do_edit"))
def fx_57 (K : PySem.W.Frag) : Bool := decide (PySem.W.findIn K (.ref (He.ga K "Bench")) "require_fit" = some (some (.ref (He.ma K (He.ga K "Bench") "require_fit"))))
def fx_58 (K : PySem.W.Frag) : Bool := PySem.W.isFn K (.ref (He.ma K (He.ga K "Bench") "require_fit"))
def fx_59 (K : PySem.W.Frag) : Bool := decide (PySem.W.findIn K (.ref (He.ga K "Bench")) "require_free" = some (some (.ref (He.ma K (He.ga K "Bench") "require_free"))))
def fx_60 (K : PySem.W.Frag) : Bool := PySem.W.isFn K (.ref (He.ma K (He.ga K "Bench") "require_free"))
def fx_61 (K : PySem.W.Frag) : Bool := decide (PySem.W.findIn K (.ref (He.ga K "Bench")) "state_at" = some (some (.ref (He.ma K (He.ga K "Bench") "state_at"))))
def fx_62 (K : PySem.W.Frag) : Bool := PySem.W.isFn K (.ref (He.ma K (He.ga K "Bench") "state_at"))
def fx_63 (K : PySem.W.Frag) : Bool := decide (PySem.W.findIn K (.ref (He.ga K "Bench")) "table" = some (some (.ref (He.ma K (He.ga K "Bench") "table"))))
def fx_64 (K : PySem.W.Frag) : Bool := PySem.W.isFn K (.ref (He.ma K (He.ga K "Bench") "table"))
def fx_65 (K : PySem.W.Frag) : Bool := decide (PySem.W.findIn K (.ref (He.ga K "Bench")) "edits" = some (some (.ref (He.ma K (He.ga K "Bench") "edits"))))
def fx_66 (K : PySem.W.Frag) : Bool := PySem.W.isFn K (.ref (He.ma K (He.ga K "Bench") "edits"))
def fx_67 (K : PySem.W.Frag) : Bool := decide (PySem.W.findIn K (.ref (He.ga K "Bench")) "__len__" = some (some (.ref (He.ma K (He.ga K "Bench") "__len__"))))
def fx_68 (K : PySem.W.Frag) : Bool := PySem.W.isFn K (.ref (He.ma K (He.ga K "Bench") "__len__"))
def fx_69 (K : PySem.W.Frag) : Bool := decide (PySem.W.findIn K (.ref (He.ga K "Bench")) "__str__" = some (some (.ref (He.ma K (He.ga K "Bench") "__str__"))))
def fx_70 (K : PySem.W.Frag) : Bool := PySem.W.isFn K (.ref (He.ma K (He.ga K "Bench") "__str__"))
def fx_71 (K : PySem.W.Frag) : Bool := nokB K (He.ma K (He.ga K "BadTable") "__init__")
def fx_72 (K : PySem.W.Frag) : Bool := nokB K (He.ma K (He.ga K "NoAlternative") "__init__")
def fx_73 (K : PySem.W.Frag) : Bool := nokB K (He.ma K (He.ga K "NoSet") "__init__")
def fx_74 (K : PySem.W.Frag) : Bool := nokB K (He.ma K (He.ga K "NoVersion") "__init__")
def fx_75 (K : PySem.W.Frag) : Bool := nokB K (He.ma K (He.ga K "SameAlternative") "__init__")
def fx_76 (K : PySem.W.Frag) : Bool := nokB K (He.ma K (He.ga K "TooLarge") "__init__")
def fx_77 (K : PySem.W.Frag) : Bool := giB K "MAX_SIZE" (9)
def fx_78 (K : PySem.W.Frag) : Bool := giB K "EDITS" (60)
def fx_79 (K : PySem.W.Frag) : Bool := giB K "BATCH" (20)
def fx_80 (K : PySem.W.Frag) : Bool := decide (PySem.W.nsIn K mainGlobals "isinstance" = some none)
def fx_81 (K : PySem.W.Frag) : Bool := decide (PySem.W.nsIn K mainGlobals "int" = some none)
def fx_82 (K : PySem.W.Frag) : Bool := decide (PySem.W.nsIn K mainGlobals "bool" = some none)
def fx_83 (K : PySem.W.Frag) : Bool := decide (PySem.W.nsIn K mainGlobals "len" = some none)
def fx_84 (K : PySem.W.Frag) : Bool := decide (PySem.W.nsIn K mainGlobals "tuple" = some none)
def fx_85 (K : PySem.W.Frag) : Bool := decide (PySem.W.nsIn K mainGlobals "enumerate" = some none)
def fx_86 (K : PySem.W.Frag) : Bool := decide (PySem.W.nsIn K mainGlobals "str" = some none)
def fx_87 (K : PySem.W.Frag) : Bool := decide (PySem.W.nsIn K mainGlobals "range" = some none)
def fx_88 (K : PySem.W.Frag) : Bool := decide (PySem.W.nsIn K mainGlobals "all" = some none)
def fx_89 (K : PySem.W.Frag) : Bool := decide (PySem.W.nsIn K mainGlobals "list" = some none)
def fx_90 (K : PySem.W.Frag) : Bool := decide (PySem.W.nsIn K mainGlobals "reversed" = some none)
def fx_91 (K : PySem.W.Frag) : Bool := decide (PySem.W.nsIn K mainGlobals "any" = some none)
def fx_92 (K : PySem.W.Frag) : Bool := decide (PySem.W.nsIn K mainGlobals "min" = some none)
def fx_93 (K : PySem.W.Frag) : Bool := decide (PySem.W.nsIn K mainGlobals "sum" = some none)
def fx_94 (K : PySem.W.Frag) : Bool := decide (PySem.W.nsIn K mainGlobals "max" = some none)
def fx_95 (K : PySem.W.Frag) : Bool := decide (PySem.W.nsIn K mainGlobals "sorted" = some none)
def fx_96 (K : PySem.W.Frag) : Bool := decide (PySem.W.nsIn K mainGlobals "repr" = some none)
def fx_97 (K : PySem.W.Frag) : Bool := decide (PySem.W.nsIn K mainGlobals "set" = some none)
def fx_98 (K : PySem.W.Frag) : Bool := decide (PySem.W.nsIn K mainGlobals "classmethod" = some none)
def fx_99 (K : PySem.W.Frag) : Bool := decide (PySem.W.nsIn K mainGlobals "staticmethod" = some none)
def fx_100 (K : PySem.W.Frag) : Bool := decide (PySem.W.nsIn K mainGlobals "property" = some none)
def fx_101 (K : PySem.W.Frag) : Bool := decide (PySem.W.nsIn K mainGlobals "BadTable" = some (some (.ref (He.ga K "BadTable"))))
def fx_102 (K : PySem.W.Frag) : Bool := decide (PySem.W.nsIn K mainGlobals "Busy" = some (some (.ref (He.ga K "Busy"))))
def fx_103 (K : PySem.W.Frag) : Bool := decide (PySem.W.nsIn K mainGlobals "LastOne" = some (some (.ref (He.ga K "LastOne"))))
def fx_104 (K : PySem.W.Frag) : Bool := decide (PySem.W.nsIn K mainGlobals "NoAlternative" = some (some (.ref (He.ga K "NoAlternative"))))
def fx_105 (K : PySem.W.Frag) : Bool := decide (PySem.W.nsIn K mainGlobals "NoSet" = some (some (.ref (He.ga K "NoSet"))))
def fx_106 (K : PySem.W.Frag) : Bool := decide (PySem.W.nsIn K mainGlobals "NoVersion" = some (some (.ref (He.ga K "NoVersion"))))
def fx_107 (K : PySem.W.Frag) : Bool := decide (PySem.W.nsIn K mainGlobals "SameAlternative" = some (some (.ref (He.ga K "SameAlternative"))))
def fx_108 (K : PySem.W.Frag) : Bool := decide (PySem.W.nsIn K mainGlobals "TooLarge" = some (some (.ref (He.ga K "TooLarge"))))
def fx_109 (K : PySem.W.Frag) : Bool := decide (PySem.W.nsIn K mainGlobals "TooManyEdits" = some (some (.ref (He.ga K "TooManyEdits"))))
def fx_110 (K : PySem.W.Frag) : Bool := decide (PySem.W.findIn K (.ref (He.ga K "BadTable")) "__getattribute__" = some (some (.builtin "BaseException.__getattribute__")))
def fx_111 (K : PySem.W.Frag) : Bool := decide (PySem.W.findIn K (.ref (He.ga K "BadTable")) "__getattr__" = some none)
def fx_112 (K : PySem.W.Frag) : Bool := decide (PySem.W.subIn K (.ref (He.ga K "BadTable")) (.type "BaseException") = some true)
def fx_113 (K : PySem.W.Frag) : Bool := decide (PySem.W.typeIn K (.ref (He.ga K "BadTable")) = some (.type "type"))
def fx_114 (K : PySem.W.Frag) : Bool := decide (PySem.W.hasDictIn K (He.ga K "BadTable") = true)
def fx_115 (K : PySem.W.Frag) : Bool := decide (PySem.W.findIn K (.ref (He.ga K "BadTable")) "__class__" = some (some (.builtin "object.__class__")))
def fx_116 (K : PySem.W.Frag) : Bool := decide (PySem.W.specialIn K (.builtin "object.__class__") "__get__" = some (some (.builtin "getset_descriptor.__get__")))
def fx_117 (K : PySem.W.Frag) : Bool := decide (PySem.W.takesIn K (.builtin "object.__class__") = some true)
def fx_118 (K : PySem.W.Frag) : Bool := decide (PySem.W.mroIn K (He.ga K "BadTable") (.type "object") = some true)
def fx_119 (K : PySem.W.Frag) : Bool := decide (PySem.W.excInitIn K (He.ga K "BadTable") [.type "ValueError", .type "Exception", .type "BaseException", .type "object"] "ValueError.__new__" = true)
def fx_120 (K : PySem.W.Frag) : Bool := decide (PySem.W.excOver K (He.ga K "BadTable") [.type "ValueError", .type "Exception", .type "BaseException", .type "object"] = true)
def fx_121 (K : PySem.W.Frag) : Bool := decide (PySem.W.findIn K (.ref (He.ga K "BadTable")) "__setattr__" = some (some (.builtin "object.__setattr__")))
def fx_122 (K : PySem.W.Frag) : Bool := decide (PySem.W.findIn K (.ref (He.ga K "BadTable")) "error" = some none)
def fx_123 (K : PySem.W.Frag) : Bool := decide (PySem.W.findIn K (.ref (He.ga K "BadTable")) "__init__" = some (some (.ref (He.ma K (He.ga K "BadTable") "__init__"))))
def fx_124 (K : PySem.W.Frag) : Bool := decide (PySem.W.typeIn K (.ref (He.ma K (He.ga K "BadTable") "__init__")) = some (.type "function"))
def fx_125 (K : PySem.W.Frag) : Bool := decide (PySem.W.keepIn K (.ref (He.ga K "BadTable")) = true)
def fx_126 (K : PySem.W.Frag) : Bool := decide (PySem.W.findIn K (.ref (He.ga K "Busy")) "__getattribute__" = some (some (.builtin "BaseException.__getattribute__")))
def fx_127 (K : PySem.W.Frag) : Bool := decide (PySem.W.findIn K (.ref (He.ga K "Busy")) "__getattr__" = some none)
def fx_128 (K : PySem.W.Frag) : Bool := decide (PySem.W.subIn K (.ref (He.ga K "Busy")) (.type "BaseException") = some true)
def fx_129 (K : PySem.W.Frag) : Bool := decide (PySem.W.typeIn K (.ref (He.ga K "Busy")) = some (.type "type"))
def fx_130 (K : PySem.W.Frag) : Bool := decide (PySem.W.hasDictIn K (He.ga K "Busy") = true)
def fx_131 (K : PySem.W.Frag) : Bool := decide (PySem.W.findIn K (.ref (He.ga K "Busy")) "__class__" = some (some (.builtin "object.__class__")))
def fx_132 (K : PySem.W.Frag) : Bool := decide (PySem.W.mroIn K (He.ga K "Busy") (.type "object") = some true)
def fx_133 (K : PySem.W.Frag) : Bool := decide (PySem.W.excIn K (He.ga K "Busy") [.type "ValueError", .type "Exception", .type "BaseException", .type "object"] "ValueError.__new__" = true)
def fx_134 (K : PySem.W.Frag) : Bool := decide (PySem.W.keepIn K (.ref (He.ga K "Busy")) = true)
def fx_135 (K : PySem.W.Frag) : Bool := decide (PySem.W.findIn K (.ref (He.ga K "LastOne")) "__getattribute__" = some (some (.builtin "BaseException.__getattribute__")))
def fx_136 (K : PySem.W.Frag) : Bool := decide (PySem.W.findIn K (.ref (He.ga K "LastOne")) "__getattr__" = some none)
def fx_137 (K : PySem.W.Frag) : Bool := decide (PySem.W.subIn K (.ref (He.ga K "LastOne")) (.type "BaseException") = some true)
def fx_138 (K : PySem.W.Frag) : Bool := decide (PySem.W.typeIn K (.ref (He.ga K "LastOne")) = some (.type "type"))
def fx_139 (K : PySem.W.Frag) : Bool := decide (PySem.W.hasDictIn K (He.ga K "LastOne") = true)
def fx_140 (K : PySem.W.Frag) : Bool := decide (PySem.W.findIn K (.ref (He.ga K "LastOne")) "__class__" = some (some (.builtin "object.__class__")))
def fx_141 (K : PySem.W.Frag) : Bool := decide (PySem.W.mroIn K (He.ga K "LastOne") (.type "object") = some true)
def fx_142 (K : PySem.W.Frag) : Bool := decide (PySem.W.excIn K (He.ga K "LastOne") [.type "ValueError", .type "Exception", .type "BaseException", .type "object"] "ValueError.__new__" = true)
def fx_143 (K : PySem.W.Frag) : Bool := decide (PySem.W.keepIn K (.ref (He.ga K "LastOne")) = true)
def fx_144 (K : PySem.W.Frag) : Bool := decide (PySem.W.findIn K (.ref (He.ga K "NoAlternative")) "__getattribute__" = some (some (.builtin "BaseException.__getattribute__")))
def fx_145 (K : PySem.W.Frag) : Bool := decide (PySem.W.findIn K (.ref (He.ga K "NoAlternative")) "__getattr__" = some none)
def fx_146 (K : PySem.W.Frag) : Bool := decide (PySem.W.subIn K (.ref (He.ga K "NoAlternative")) (.type "BaseException") = some true)
def fx_147 (K : PySem.W.Frag) : Bool := decide (PySem.W.typeIn K (.ref (He.ga K "NoAlternative")) = some (.type "type"))
def fx_148 (K : PySem.W.Frag) : Bool := decide (PySem.W.hasDictIn K (He.ga K "NoAlternative") = true)
def fx_149 (K : PySem.W.Frag) : Bool := decide (PySem.W.findIn K (.ref (He.ga K "NoAlternative")) "__class__" = some (some (.builtin "object.__class__")))
def fx_150 (K : PySem.W.Frag) : Bool := decide (PySem.W.mroIn K (He.ga K "NoAlternative") (.type "object") = some true)
def fx_151 (K : PySem.W.Frag) : Bool := decide (PySem.W.excInitIn K (He.ga K "NoAlternative") [.type "LookupError", .type "Exception", .type "BaseException", .type "object"] "LookupError.__new__" = true)
def fx_152 (K : PySem.W.Frag) : Bool := decide (PySem.W.excOver K (He.ga K "NoAlternative") [.type "LookupError", .type "Exception", .type "BaseException", .type "object"] = true)
def fx_153 (K : PySem.W.Frag) : Bool := decide (PySem.W.findIn K (.ref (He.ga K "NoAlternative")) "__setattr__" = some (some (.builtin "object.__setattr__")))
def fx_154 (K : PySem.W.Frag) : Bool := decide (PySem.W.findIn K (.ref (He.ga K "NoAlternative")) "value" = some none)
def fx_155 (K : PySem.W.Frag) : Bool := decide (PySem.W.findIn K (.ref (He.ga K "NoAlternative")) "__init__" = some (some (.ref (He.ma K (He.ga K "NoAlternative") "__init__"))))
def fx_156 (K : PySem.W.Frag) : Bool := decide (PySem.W.typeIn K (.ref (He.ma K (He.ga K "NoAlternative") "__init__")) = some (.type "function"))
def fx_157 (K : PySem.W.Frag) : Bool := decide (PySem.W.keepIn K (.ref (He.ga K "NoAlternative")) = true)
def fx_158 (K : PySem.W.Frag) : Bool := decide (PySem.W.findIn K (.ref (He.ga K "NoSet")) "__getattribute__" = some (some (.builtin "BaseException.__getattribute__")))
def fx_159 (K : PySem.W.Frag) : Bool := decide (PySem.W.findIn K (.ref (He.ga K "NoSet")) "__getattr__" = some none)
def fx_160 (K : PySem.W.Frag) : Bool := decide (PySem.W.subIn K (.ref (He.ga K "NoSet")) (.type "BaseException") = some true)
def fx_161 (K : PySem.W.Frag) : Bool := decide (PySem.W.typeIn K (.ref (He.ga K "NoSet")) = some (.type "type"))
def fx_162 (K : PySem.W.Frag) : Bool := decide (PySem.W.hasDictIn K (He.ga K "NoSet") = true)
def fx_163 (K : PySem.W.Frag) : Bool := decide (PySem.W.findIn K (.ref (He.ga K "NoSet")) "__class__" = some (some (.builtin "object.__class__")))
def fx_164 (K : PySem.W.Frag) : Bool := decide (PySem.W.mroIn K (He.ga K "NoSet") (.type "object") = some true)
def fx_165 (K : PySem.W.Frag) : Bool := decide (PySem.W.excInitIn K (He.ga K "NoSet") [.type "ValueError", .type "Exception", .type "BaseException", .type "object"] "ValueError.__new__" = true)
def fx_166 (K : PySem.W.Frag) : Bool := decide (PySem.W.excOver K (He.ga K "NoSet") [.type "ValueError", .type "Exception", .type "BaseException", .type "object"] = true)
def fx_167 (K : PySem.W.Frag) : Bool := decide (PySem.W.findIn K (.ref (He.ga K "NoSet")) "__setattr__" = some (some (.builtin "object.__setattr__")))
def fx_168 (K : PySem.W.Frag) : Bool := decide (PySem.W.findIn K (.ref (He.ga K "NoSet")) "value" = some none)
def fx_169 (K : PySem.W.Frag) : Bool := decide (PySem.W.findIn K (.ref (He.ga K "NoSet")) "__init__" = some (some (.ref (He.ma K (He.ga K "NoSet") "__init__"))))
def fx_170 (K : PySem.W.Frag) : Bool := decide (PySem.W.typeIn K (.ref (He.ma K (He.ga K "NoSet") "__init__")) = some (.type "function"))
def fx_171 (K : PySem.W.Frag) : Bool := decide (PySem.W.keepIn K (.ref (He.ga K "NoSet")) = true)
def fx_172 (K : PySem.W.Frag) : Bool := decide (PySem.W.findIn K (.ref (He.ga K "NoVersion")) "__getattribute__" = some (some (.builtin "BaseException.__getattribute__")))
def fx_173 (K : PySem.W.Frag) : Bool := decide (PySem.W.findIn K (.ref (He.ga K "NoVersion")) "__getattr__" = some none)
def fx_174 (K : PySem.W.Frag) : Bool := decide (PySem.W.subIn K (.ref (He.ga K "NoVersion")) (.type "BaseException") = some true)
def fx_175 (K : PySem.W.Frag) : Bool := decide (PySem.W.typeIn K (.ref (He.ga K "NoVersion")) = some (.type "type"))
def fx_176 (K : PySem.W.Frag) : Bool := decide (PySem.W.hasDictIn K (He.ga K "NoVersion") = true)
def fx_177 (K : PySem.W.Frag) : Bool := decide (PySem.W.findIn K (.ref (He.ga K "NoVersion")) "__class__" = some (some (.builtin "object.__class__")))
def fx_178 (K : PySem.W.Frag) : Bool := decide (PySem.W.mroIn K (He.ga K "NoVersion") (.type "object") = some true)
def fx_179 (K : PySem.W.Frag) : Bool := decide (PySem.W.excInitIn K (He.ga K "NoVersion") [.type "LookupError", .type "Exception", .type "BaseException", .type "object"] "LookupError.__new__" = true)
def fx_180 (K : PySem.W.Frag) : Bool := decide (PySem.W.excOver K (He.ga K "NoVersion") [.type "LookupError", .type "Exception", .type "BaseException", .type "object"] = true)
def fx_181 (K : PySem.W.Frag) : Bool := decide (PySem.W.findIn K (.ref (He.ga K "NoVersion")) "__setattr__" = some (some (.builtin "object.__setattr__")))
def fx_182 (K : PySem.W.Frag) : Bool := decide (PySem.W.findIn K (.ref (He.ga K "NoVersion")) "value" = some none)
def fx_183 (K : PySem.W.Frag) : Bool := decide (PySem.W.findIn K (.ref (He.ga K "NoVersion")) "__init__" = some (some (.ref (He.ma K (He.ga K "NoVersion") "__init__"))))
def fx_184 (K : PySem.W.Frag) : Bool := decide (PySem.W.typeIn K (.ref (He.ma K (He.ga K "NoVersion") "__init__")) = some (.type "function"))
def fx_185 (K : PySem.W.Frag) : Bool := decide (PySem.W.keepIn K (.ref (He.ga K "NoVersion")) = true)
def fx_186 (K : PySem.W.Frag) : Bool := decide (PySem.W.findIn K (.ref (He.ga K "SameAlternative")) "__getattribute__" = some (some (.builtin "BaseException.__getattribute__")))
def fx_187 (K : PySem.W.Frag) : Bool := decide (PySem.W.findIn K (.ref (He.ga K "SameAlternative")) "__getattr__" = some none)
def fx_188 (K : PySem.W.Frag) : Bool := decide (PySem.W.subIn K (.ref (He.ga K "SameAlternative")) (.type "BaseException") = some true)
def fx_189 (K : PySem.W.Frag) : Bool := decide (PySem.W.typeIn K (.ref (He.ga K "SameAlternative")) = some (.type "type"))
def fx_190 (K : PySem.W.Frag) : Bool := decide (PySem.W.hasDictIn K (He.ga K "SameAlternative") = true)
def fx_191 (K : PySem.W.Frag) : Bool := decide (PySem.W.findIn K (.ref (He.ga K "SameAlternative")) "__class__" = some (some (.builtin "object.__class__")))
def fx_192 (K : PySem.W.Frag) : Bool := decide (PySem.W.mroIn K (He.ga K "SameAlternative") (.type "object") = some true)
def fx_193 (K : PySem.W.Frag) : Bool := decide (PySem.W.excInitIn K (He.ga K "SameAlternative") [.type "ValueError", .type "Exception", .type "BaseException", .type "object"] "ValueError.__new__" = true)
def fx_194 (K : PySem.W.Frag) : Bool := decide (PySem.W.excOver K (He.ga K "SameAlternative") [.type "ValueError", .type "Exception", .type "BaseException", .type "object"] = true)
def fx_195 (K : PySem.W.Frag) : Bool := decide (PySem.W.findIn K (.ref (He.ga K "SameAlternative")) "__setattr__" = some (some (.builtin "object.__setattr__")))
def fx_196 (K : PySem.W.Frag) : Bool := decide (PySem.W.findIn K (.ref (He.ga K "SameAlternative")) "value" = some none)
def fx_197 (K : PySem.W.Frag) : Bool := decide (PySem.W.findIn K (.ref (He.ga K "SameAlternative")) "__init__" = some (some (.ref (He.ma K (He.ga K "SameAlternative") "__init__"))))
def fx_198 (K : PySem.W.Frag) : Bool := decide (PySem.W.typeIn K (.ref (He.ma K (He.ga K "SameAlternative") "__init__")) = some (.type "function"))
def fx_199 (K : PySem.W.Frag) : Bool := decide (PySem.W.keepIn K (.ref (He.ga K "SameAlternative")) = true)
def fx_200 (K : PySem.W.Frag) : Bool := decide (PySem.W.findIn K (.ref (He.ga K "TooLarge")) "__getattribute__" = some (some (.builtin "BaseException.__getattribute__")))
def fx_201 (K : PySem.W.Frag) : Bool := decide (PySem.W.findIn K (.ref (He.ga K "TooLarge")) "__getattr__" = some none)
def fx_202 (K : PySem.W.Frag) : Bool := decide (PySem.W.subIn K (.ref (He.ga K "TooLarge")) (.type "BaseException") = some true)
def fx_203 (K : PySem.W.Frag) : Bool := decide (PySem.W.typeIn K (.ref (He.ga K "TooLarge")) = some (.type "type"))
def fx_204 (K : PySem.W.Frag) : Bool := decide (PySem.W.hasDictIn K (He.ga K "TooLarge") = true)
def fx_205 (K : PySem.W.Frag) : Bool := decide (PySem.W.findIn K (.ref (He.ga K "TooLarge")) "__class__" = some (some (.builtin "object.__class__")))
def fx_206 (K : PySem.W.Frag) : Bool := decide (PySem.W.mroIn K (He.ga K "TooLarge") (.type "object") = some true)
def fx_207 (K : PySem.W.Frag) : Bool := decide (PySem.W.excInitIn K (He.ga K "TooLarge") [.type "ValueError", .type "Exception", .type "BaseException", .type "object"] "ValueError.__new__" = true)
def fx_208 (K : PySem.W.Frag) : Bool := decide (PySem.W.excOver K (He.ga K "TooLarge") [.type "ValueError", .type "Exception", .type "BaseException", .type "object"] = true)
def fx_209 (K : PySem.W.Frag) : Bool := decide (PySem.W.findIn K (.ref (He.ga K "TooLarge")) "__setattr__" = some (some (.builtin "object.__setattr__")))
def fx_210 (K : PySem.W.Frag) : Bool := decide (PySem.W.findIn K (.ref (He.ga K "TooLarge")) "limit" = some none)
def fx_211 (K : PySem.W.Frag) : Bool := decide (PySem.W.findIn K (.ref (He.ga K "TooLarge")) "__init__" = some (some (.ref (He.ma K (He.ga K "TooLarge") "__init__"))))
def fx_212 (K : PySem.W.Frag) : Bool := decide (PySem.W.typeIn K (.ref (He.ma K (He.ga K "TooLarge") "__init__")) = some (.type "function"))
def fx_213 (K : PySem.W.Frag) : Bool := decide (PySem.W.keepIn K (.ref (He.ga K "TooLarge")) = true)
def fx_214 (K : PySem.W.Frag) : Bool := decide (PySem.W.findIn K (.ref (He.ga K "TooManyEdits")) "__getattribute__" = some (some (.builtin "BaseException.__getattribute__")))
def fx_215 (K : PySem.W.Frag) : Bool := decide (PySem.W.findIn K (.ref (He.ga K "TooManyEdits")) "__getattr__" = some none)
def fx_216 (K : PySem.W.Frag) : Bool := decide (PySem.W.subIn K (.ref (He.ga K "TooManyEdits")) (.type "BaseException") = some true)
def fx_217 (K : PySem.W.Frag) : Bool := decide (PySem.W.typeIn K (.ref (He.ga K "TooManyEdits")) = some (.type "type"))
def fx_218 (K : PySem.W.Frag) : Bool := decide (PySem.W.hasDictIn K (He.ga K "TooManyEdits") = true)
def fx_219 (K : PySem.W.Frag) : Bool := decide (PySem.W.findIn K (.ref (He.ga K "TooManyEdits")) "__class__" = some (some (.builtin "object.__class__")))
def fx_220 (K : PySem.W.Frag) : Bool := decide (PySem.W.mroIn K (He.ga K "TooManyEdits") (.type "object") = some true)
def fx_221 (K : PySem.W.Frag) : Bool := decide (PySem.W.excIn K (He.ga K "TooManyEdits") [.type "ValueError", .type "Exception", .type "BaseException", .type "object"] "ValueError.__new__" = true)
def fx_222 (K : PySem.W.Frag) : Bool := decide (PySem.W.keepIn K (.ref (He.ga K "TooManyEdits")) = true)
def fx_223 (K : PySem.W.Frag) : Bool := decide (PySem.W.nsIn K mainGlobals "Bench" = some (some (.ref (He.ga K "Bench"))))
def fx_224 (K : PySem.W.Frag) : Bool := decide (PySem.W.plainGet K (He.ga K "Bench") Str.empty = true)
def fx_225 (K : PySem.W.Frag) : Bool := decide (PySem.W.hasDictIn K (He.ga K "Bench") = true)
def fx_226 (K : PySem.W.Frag) : Bool := decide (PySem.W.plainOver K (He.ga K "Bench") = true)
def fx_227 (K : PySem.W.Frag) : Bool := decide (PySem.W.findIn K (.ref (He.ga K "Bench")) "__setattr__" = some (some (.builtin "object.__setattr__")))
def fx_228 (K : PySem.W.Frag) : Bool := decide (PySem.W.makesIn K (He.ga K "Bench") = true)
def fx_229 (K : PySem.W.Frag) : Bool := decide (PySem.W.keepIn K (.ref (He.ga K "Bench")) = true)
def fx_230 (K : PySem.W.Frag) : Bool := decide (PySem.W.findIn K (.ref (He.ga K "Bench")) "states" = some none)
def fx_231 (K : PySem.W.Frag) : Bool := decide (PySem.W.findIn K (.ref (He.ga K "Bench")) "standing" = some none)
def fx_232 (K : PySem.W.Frag) : Bool := decide (PySem.W.findIn K (.ref (He.ga K "Bench")) "chosen" = some none)
def fx_233 (K : PySem.W.Frag) : Bool := decide (PySem.W.findIn K (.ref (He.ga K "Bench")) "busy" = some none)
def fnX_0 : List He5.DefA := [dx_is_integer, dx_is_alternative, dx_is_set, dx_require_alternative, dx_table_error, dx_row_error, dx_sign_error, dx_pair_error, dx_outsiders, dx_pick_table, dx_turn_duel, dx_turn_sign, dx_edited_table, dx_with_another, dx_without_one, dx__law_stream, dx__law_take, dx__law_from, dx__law_equal, dx__law_table, dx__law_wins, dx__law_is_set, dx__law_turned, dx__law_grown, dx__law_shrunk, dx__law_due, dx__law_do, dx__law_some_edit, dx__law_valid_edit, dx__law_text]
def fnX_1 : List He5.DefA := [dx__law_seen, dx__law_due_seen, dx_law, dx_Bench___init__, dx_Bench_version, dx_Bench_size, dx_Bench_kind, dx_Bench_turn, dx_Bench_add, dx_Bench_remove, dx_Bench_edit_once, dx_Bench_do_edit, dx_Bench_require_fit, dx_Bench_require_free, dx_Bench_state_at, dx_Bench_table, dx_Bench_edits, dx_Bench___len__, dx_Bench___str__, dx_EBadTable, dx_ENoAlternative, dx_ENoSet, dx_ENoVersion, dx_ESameAlternative, dx_ETooLarge]
def fnX : List He5.DefA := fnX_0 ++ fnX_1
def fxX_0 : FxL := [fx_0, fx_1, fx_2, fx_3, fx_4, fx_5, fx_6, fx_7, fx_8, fx_9, fx_10, fx_11, fx_12, fx_13, fx_14, fx_15, fx_16, fx_17, fx_18, fx_19, fx_20, fx_21, fx_22, fx_23, fx_24, fx_25, fx_26, fx_27, fx_28, fx_29]
def fxX_1 : FxL := [fx_30, fx_31, fx_32, fx_33, fx_34, fx_35, fx_36, fx_37, fx_38, fx_39, fx_40, fx_41, fx_42, fx_43, fx_44, fx_45, fx_46, fx_47, fx_48, fx_49, fx_50, fx_51, fx_52, fx_53, fx_54, fx_55, fx_56, fx_57, fx_58, fx_59]
def fxX_2 : FxL := [fx_60, fx_61, fx_62, fx_63, fx_64, fx_65, fx_66, fx_67, fx_68, fx_69, fx_70, fx_71, fx_72, fx_73, fx_74, fx_75, fx_76, fx_77, fx_78, fx_79, fx_80, fx_81, fx_82, fx_83, fx_84, fx_85, fx_86, fx_87, fx_88, fx_89]
def fxX_3 : FxL := [fx_90, fx_91, fx_92, fx_93, fx_94, fx_95, fx_96, fx_97, fx_98, fx_99, fx_100, fx_101, fx_102, fx_103, fx_104, fx_105, fx_106, fx_107, fx_108, fx_109, fx_110, fx_111, fx_112, fx_113, fx_114, fx_115, fx_116, fx_117, fx_118, fx_119]
def fxX_4 : FxL := [fx_120, fx_121, fx_122, fx_123, fx_124, fx_125, fx_126, fx_127, fx_128, fx_129, fx_130, fx_131, fx_132, fx_133, fx_134, fx_135, fx_136, fx_137, fx_138, fx_139, fx_140, fx_141, fx_142, fx_143, fx_144, fx_145, fx_146, fx_147, fx_148, fx_149]
def fxX_5 : FxL := [fx_150, fx_151, fx_152, fx_153, fx_154, fx_155, fx_156, fx_157, fx_158, fx_159, fx_160, fx_161, fx_162, fx_163, fx_164, fx_165, fx_166, fx_167, fx_168, fx_169, fx_170, fx_171, fx_172, fx_173, fx_174, fx_175, fx_176, fx_177, fx_178, fx_179]
def fxX_6 : FxL := [fx_180, fx_181, fx_182, fx_183, fx_184, fx_185, fx_186, fx_187, fx_188, fx_189, fx_190, fx_191, fx_192, fx_193, fx_194, fx_195, fx_196, fx_197, fx_198, fx_199, fx_200, fx_201, fx_202, fx_203, fx_204, fx_205, fx_206, fx_207, fx_208, fx_209]
def fxX_7 : FxL := [fx_210, fx_211, fx_212, fx_213, fx_214, fx_215, fx_216, fx_217, fx_218, fx_219, fx_220, fx_221, fx_222, fx_223, fx_224, fx_225, fx_226, fx_227, fx_228, fx_229, fx_230, fx_231, fx_232, fx_233]
def fxX : FxL := fxX_0 ++ fxX_1 ++ fxX_2 ++ fxX_3 ++ fxX_4 ++ fxX_5 ++ fxX_6 ++ fxX_7
def looseX : List PySem.Str := (["_wall", "MAX_SIZE", "EDITS", "BATCH", "DuelError", "ValueError", "NoSet", "SameAlternative", "TooLarge", "BadTable", "TooManyEdits", "LastOne", "BadEdits", "BadEdit", "Rejected", "Busy", "BadText", "NoAlternative", "LookupError", "NoKind", "NoVersion", "is_integer", "is_alternative", "is_set", "require_alternative", "table_error", "row_error", "sign_error", "pair_error", "wins_of"] : List PySem.Str) ++ (["losses_of", "places_of", "beats", "beats_all", "outsiders", "scores", "restrict_table", "pick_table", "turn_duel", "turn_sign", "all_sets", "is_full", "chain_tops", "first_full_chain", "each_chain_from", "loses_to_all", "is_coverer", "coverers", "uncovered_set", "is_covering", "covers_others", "witness_for", "is_witness", "covering_sets", "smallest_covering", "balances", "balance_of", "is_balanced", "common_divisor", "lottery"] : List PySem.Str) ++ (["support", "weights_within", "pfaffians", "pfaffian", "dominant_sets", "is_dominant", "top_set", "KINDS", "require_kind", "members", "parse_table", "require_text", "edited_table", "with_another", "without_one", "Bench", "_law_stream", "_law_take", "_law_from", "_law_equal", "_law_table", "_law_wins", "_law_is_set", "_law_turned", "_law_grown", "_law_shrunk", "_law_due", "_law_do", "_law_some_edit", "_law_valid_edit"] : List PySem.Str) ++ (["_law_text", "_law_seen", "_law_due_seen"] : List PySem.Str)
abbrev rowX : PySem.W.OpenRow := PySem.W.OpenLaw.row PySem.Challenge.rw_duelsets_k60_benches_and_edits
abbrev hkX : PySem.W.Hook := hookX 5 fxX fnX
def obX (s : PySem.W.SharedT) : He.AlD := obsXG 5 fxX fnX (HandSHeadRun.getT s)
theorem obX_eq (s : PySem.W.SharedT) : obX s = hkX.obs s.abs := obsXG_eq (HandSHeadRun.getT_eq s)
theorem runX (w : World) : HandSHeadRun.RunEq rowX (PySem.W.view rowX.prog [103]) hkX obX 12000 looseX w := by
  intro os
  kernel_rfl
end DS
namespace DS
open PySem PySem.Spec PyProof.Rows L2
/-! ### promises that hold where no repr is under way -/
structure FnG (P : Program) (w : World) (K : PySem.W.Frag) (mg : Str → Option Value) (base : Heap) (CX : CXT) (k : Nat) (f : Addr) (fd : FuncData) (ps : List Str) (sp : Sp) : Prop where
  len : ∀ vs H Q E, sp vs H Q E → vs.length = ps.length
  go : ∀ (A : Around) (outer : List Env) (s : Shared) (H : Hp) (args : Args) (us : List Value) (vs : List V) (Q : VK) (E : XK), A.guards = some [] → Room k A → Env0 P w K mg base A outer s H →
    BindsTo s fd args (ps.zip us) → Vals vs us → sp vs H Q E → codeAny (model P w) A (.call (.ref f) args) (CR CX outer P w H s Q E) s
section
variable {P : Program} {w : World} {K : PySem.W.Frag} {mg : Str → Option Value} {base : Heap} {CX : CXT} {k : Nat} {f : Addr} {fd : FuncData} {ps : List Str} {sp : Sp}
theorem FnG.of (F : FnOk P w K mg base CX k f fd ps sp) : FnG P w K mg base CX k f fd ps sp := ⟨F.len, fun A outer s H args us vs Q E _ => F.run A outer s H args us vs Q E⟩
theorem FnG.up {j : Nat} (F : FnG P w K mg base CX j f fd ps sp) (h : j ≤ k) : FnG P w K mg base CX k f fd ps sp := ⟨F.len, fun A outer s H args us vs Q E hg hr => F.go A outer s H args us vs Q E hg (hr.mono h)⟩
/-- a def by its body, where no repr is under way -/
theorem FnG.body {x qual : Str} {st : Stmt} {N : List Str} (F : Fun K x qual st f fd) (S : FnScope N ps (defScope st)) (len : ∀ vs H Q E, sp vs H Q E → vs.length = ps.length)
    (hb : ∀ (cdv : Value) (A : Around) (outer : List Env) (s : Shared) (H : Hp) (vs : List V) (Q : VK) (E : XK), A.guards = some [] → Room k (A.deeper (envOfC qual (defScope st) s.heap.objs.size f cdv)) → sp vs H Q E →
      ∃ t, PSs (cxOf CX P w K mg base N qual (defScope st) f cdv A outer s H E) (defBody st) t ∧ t { nx := fun _ H' => Q .non H', rt := Q } (start N vs) H) : FnG P w K mg base CX (k + 1) f fd ps sp := by
  obtain ⟨oc, od, kV, doc, pm, an, cdv, ct, osl, rfl, lk, hcd⟩ := F.ex
  refine ⟨len, fun A outer s H args us vs Q E hg hr e0 bind r want => ?_⟩
  have kin : K.In s.heap := e0.mod.kin.keeps fun b o e => (e0.bs b o e).1
  have nolim : s.heap.NoLimit := e0.mod.nolimit.keeps fun b o e => (e0.bs b o e).1
  refine codeAny_call_function hr.depth (kin _ _ lk) rfl S.co S.gen rfl (PySem.W.codeRec_of kin hcd) (bind _ _ _ _ (wpAny_newFunctionEnv_cells S.kind ?kinds fun env he s1 x => ?inside))
  case kinds =>
    intro y hy
    obtain ⟨n, v⟩ := y
    rcases S.par n (List.of_mem_zip hy).1 with q | q
    · exact .inl q
    · exact .inr ⟨q, PySem.W.cellsFrom_some _ _ _ (.inl q)⟩
  case inside =>
    subst he
    refine ⟨nolim.keeps x.toInCall.keep, codeAny_func ?_⟩
    obtain ⟨t, ht, hq⟩ := hb cdv A outer s H vs Q E hg (hr.deeper _) want
    have I := inv_start (CX := CX) (E := E) S hr.hd e0 (len _ _ _ _ want) r x
    refine wpAny_mono (ht.run [] s1 (start N vs) H _ I hq) (fun fl s' hs => ?_) fun _ _ h => h
    cases fl with
    | ret u =>
      obtain ⟨v, σ', H', J, rv, q⟩ := hs
      exact ⟨v, H', J.os, J.bare, J.base, J.hok, rv, q⟩
    | next =>
      obtain ⟨σ', H', J, q⟩ := hs
      exact ⟨.non, H', J.os, J.bare, J.base, J.hok, rfl, q⟩
    | brk =>
      obtain ⟨_, _, _, q⟩ := hs
      exact q.elim
    | cont =>
      obtain ⟨_, _, _, q⟩ := hs
      exact q.elim
theorem FnG.ok {x qual : Str} {st : Stmt} {N : List Str} (F : Fun K x qual st f fd) (S : FnScope N ps (defScope st)) (len : ∀ vs H Q E, sp vs H Q E → vs.length = ps.length)
    (hb : ∀ (cdv : Value) (A : Around) (outer : List Env) (s : Shared) (H : Hp) (vs : List V) (Q : VK) (E : XK), (A.deeper (envOfC qual (defScope st) s.heap.objs.size f cdv)).guards = some [] → Room k (A.deeper (envOfC qual (defScope st) s.heap.objs.size f cdv)) → sp vs H Q E →
      ∃ t, PSs (cxOf CX0 P w K mg base N qual (defScope st) f cdv A outer s H E).nox (defBody st) t ∧ t { nx := fun _ H' => Q .non H', rt := Q } (start N vs) H) : FnG P w K mg base CX0 (k + 1) f fd ps sp :=
  FnG.body F S len fun cdv A outer s H vs Q E hg hr h => by
    obtain ⟨t, ht, q⟩ := hb cdv A outer s H vs Q E hg hr h
    exact ⟨t, ht.nox, q⟩
end
section
variable {X : Cx} {CX : CXT} {k : Nat} {f : Addr} {fd : FuncData} {ps : List Str} {sp : Sp} {dvs : List V} {ds : List Value} {E : XK} {x : Str} {p pos : Pos} {e : Expr} {es : List Expr} {t : TA}
/-- f(e, ..) by such a promise -/
theorem pe_callG (F : FnG X.prog X.w X.K X.mg X.base CX k f fd ps sp) (hgd : X.A.guards = some []) (hr : Room k X.A) (hg : Gl X x) (hm : X.mg x = some (.ref f)) (hk : PySem.W.keepIn X.K (.ref f) = true) (hb : Binds X.K fd ps ds) (hd : Vals dvs ds) (hx : Passes CX X E)
    (ha : PA X (e :: es) t) (hdb : (x == ("__debug__" : Str)) = false := by decide) (he : starEach (e :: es) X.env = (false, eval e X.env) :: starEach es X.env := by rfl) (hpl : (backTo pos (starEach es X.env)).any (·.1) = false := by rfl) :
    PE X (.Call (.Name x p) (e :: es) [] pos) (tCall sp dvs E t) := by
  refine ⟨fun pins s σ H Q I h => wpAny_Call_Name_kw (ld_glob I hg hm ?_ hdb)⟩
  refine PySem.W.callWith_K (h₀ := X.base) I.ok.mod.kin hk (thn (ha.run pos pins s σ H _ I h) fun us s1 hz => ?_) he hpl
  obtain ⟨vs, H1, I1, r, q⟩ := hz
  refine ⟨I1.kIn, ?_⟩
  have r2 : Vals (vs ++ dvs) (us ++ ds) := r.append hd
  have hl : (us ++ ds).length = ps.length := by
    rw [← r2.length]
    exact F.len _ _ _ _ q
  refine wpAny_call (codeAny_mono (F.go X.A X.stack s1 H1 ⟨us, []⟩ _ _ Q E hgd hr I1.env0 (hb s1 us I1.kIn hl) r2 q) fun r s' hq => ?_)
  match r, hq with
  | .error e, hq => exact hx pins σ H1 s1 e s' I1 hq
  | .ok (.ret u), hq => exact I1.after hq
  | .ok .next, hq => exact hq.elim
  | .ok .brk, hq => exact hq.elim
  | .ok .cont, hq => exact hq.elim
end
/-! ### the law's call: nothing is under way around it -/
section
variable {P : Program} {w : World} {K : PySem.W.Frag} {mg mb : Str → Option Value} {s₁ : Shared} {a : Addr} {vs : List Value} {ns : List Int} {H : Hp}
/-- the state ahead of the law's call, with nothing tracked but the script -/
theorem env_top (kin : K.In s₁.heap) (ng : s₁.heap.Ns mainGlobals mg) (nb : s₁.heap.Ns builtinsNs mb) (bb : ∀ x : Str, x ≠ "__name__" → mb x = bootBuiltins x) (lim : s₁.heap.NoLimit) (gen : s₁.gens = #[])
    (obj : s₁.heap.get? a = some { cls := .type "list", data := .seq vs.toArray }) (ok : HOk P w H s₁.heap) (only : ∀ b, H b ≠ none → b = a) (apart : H a ≠ none → K.lookup a = none) :
    K.In (hidT s₁.heap H) ∧ (hidT s₁.heap H).Ns mainGlobals mg ∧ Env0 P w K mg (hidT s₁.heap H) callerA [] s₁ H := by
  have free : ∀ {b : Addr} {m : Str → Option Value}, s₁.heap.Ns b m → (hidT s₁.heap H).Ns b m := fun {b m} n => by
    obtain ⟨o, es, ep, e, d, r⟩ := n
    refine ⟨o, es, ep, hidT_get e ?_, d, r⟩
    cases q : H b with
    | none => rfl
    | some u =>
      have z := only b (by rw [q]; exact fun z => nomatch z)
      rw [z, obj] at e
      cases e
      cases d
  have kb : K.In (hidT s₁.heap H) := fun b o e => hidT_get (kin b o e) (by
    cases q : H b with
    | none => rfl
    | some u =>
      have z := only b (by rw [q]; exact fun z => nomatch z)
      have y := apart (by rw [← z, q]; exact fun z => nomatch z)
      rw [z, y] at e
      cases e)
  obtain ⟨mc, l1, l2⟩ := lim
  exact ⟨kb, free ng, rfl, ⟨kb, free ng, ⟨mb, free nb, bb⟩, mc, free l1, l2⟩, fun b o e => of_hidT e, Nat.le_of_eq (hidT_size _ _), trivial, fun b hb => absurd hb List.not_mem_nil, ok, .of_eq gen⟩
theorem top_call {CX : CXT} {k : Nat} {fa : Addr} {fd : FuncData} {x : Str} {sp : Sp} (kin : K.In s₁.heap) (ng : s₁.heap.Ns mainGlobals mg) (nb : s₁.heap.Ns builtinsNs mb) (bb : ∀ x : Str, x ≠ "__name__" → mb x = bootBuiltins x) (lim : s₁.heap.NoLimit) (gen : s₁.gens = #[])
    (obj : s₁.heap.get? a = some { cls := .type "list", data := .seq vs.toArray }) (hin : IntsAre vs ns) (len : ns.length ≤ sizeLine) (room : Room k callerA)
    (F : ∀ base : Heap, K.In base → base.Ns mainGlobals mg → FnG P w K mg base CX k fa fd [x] sp) (bind : ∀ (s : Shared) (u : Value), BindsTo s fd ⟨[u], []⟩ [(x, u)])
    (want : ∀ H : Hp, Only H → SqL K H a (ns.map V.int) → sp [.ref a] H (fun v _ => v = .bl true) fun _ _ _ => False) (noX : ∀ H e s', CX [] H s₁ (fun _ _ _ => False) e s' → False) :
    codeAny (model P w) callerA (.call (.ref fa) ⟨[.ref a], []⟩) (fun r s' => r = .ok (.ret (.bool true)) ∧ OldK s₁.heap s'.heap ∧ s'.os = s₁.os ∧ AllBare s'.gens) s₁ := by
  have rv := vals_ints hin
  have ln := hin.length
  have main : ∀ H : Hp, Only H → SqL K H a (ns.map V.int) → HOk P w H s₁.heap → (∀ b, H b ≠ none → b = a) → (H a ≠ none → K.lookup a = none) →
      codeAny (model P w) callerA (.call (.ref fa) ⟨[.ref a], []⟩) (fun r s' => r = .ok (.ret (.bool true)) ∧ OldK s₁.heap s'.heap ∧ s'.os = s₁.os ∧ AllBare s'.gens) s₁ := by
    intro H hO hS ok only apart
    obtain ⟨kb, nsb, e0⟩ := env_top (P := P) (w := w) kin ng nb bb lim gen obj ok only apart
    refine codeAny_mono ((F _ kb nsb).go callerA [] s₁ H ⟨[.ref a], []⟩ [.ref a] [.ref a] _ _ rfl room e0 (bind s₁ (.ref a)) (.cons rfl .nil) (want H hO hS)) fun r s' h => ?_
    match r, h with
    | .error e, h => exact (noX H e s' h).elim
    | .ok .next, h => exact h.elim
    | .ok .brk, h => exact h.elim
    | .ok .cont, h => exact h.elim
    | .ok (.ret u), h =>
      obtain ⟨v, H', os, bare, un, ok', rr, q⟩ := h
      have q2 : v = .bl true := q
      subst q2
      obtain rfl : u = Value.bool true := rr
      refine ⟨rfl, OldK.of_keep fun b o e => ?_, os, bare⟩
      rcases hO b with z | ⟨ob, xs, z⟩
      · exact un.keep b o e z (fun y => absurd y List.not_mem_nil) List.not_mem_nil
      · have k1 := (ok b _ z).1
        have k2 := (ok' b _ (un.frzs b ob _ z)).1
        rw [e] at k1
        cases k1
        exact k2
  cases hk : K.lookup a with
  | some o =>
    have e := kin a o hk
    rw [obj] at e
    cases e
    refine main (fun _ => none) (fun _ => .inl rfl) (.inr ⟨_, vs.toArray, _, hk, rfl, rfl, rfl, ?_, rv⟩) (fun b u z => nomatch z) (fun b z => absurd rfl z) (fun z => absurd rfl z)
    rw [List.size_toArray, ln]
    exact len
  | none =>
    have at_a : (fun b => if b = a then some (HO.frz { cls := .type "list", data := .seq vs.toArray } (.lst (ns.map V.int))) else none : Hp) a = some (.frz { cls := .type "list", data := .seq vs.toArray } (.lst (ns.map V.int))) := if_pos rfl
    refine main (fun b => if b = a then some (.frz { cls := .type "list", data := .seq vs.toArray } (.lst (ns.map V.int))) else none) (fun b => ?_) (.inl (.inr ⟨_, at_a⟩)) (fun b u z => ?_) (fun b z => ?_) (fun _ => hk)
    · by_cases e : b = a
      · exact .inr ⟨_, _, if_pos e⟩
      · exact .inl (if_neg e)
    · by_cases e : b = a
      · subst e
        rw [at_a] at z
        cases z
        refine ⟨obj, ?_, vs, _, rv, obj⟩
        rw [List.length_map]
        exact len
      · have z2 := (if_neg e).symm.trans z
        cases z2
    · by_cases e : b = a
      · exact e
      · exact absurd (if_neg e) z
end
end DS
namespace DS
open PySem PySem.Spec PyProof.Rows L2
/-! ### values of any kind, dicts among them -/
/-- a key as data -/
def kD : L2.Key → PyData
  | .inl i => .int i
  | .inr x => .str x
def kT (k : List L2.Key) : PyData := .tuple (k.map kD)
mutual
inductive Dx (K : PySem.W.Frag) (H : Hp) : V → PyData → Prop
  | non : Dx K H .non .none
  | bl (b : Bool) : Dx K H (.bl b) (.bool b)
  | int (i : Int) : Dx K H (.int i) (.int i)
  | str (x : Str) : Dx K H (.str x) (.str x)
  | lst {a : Addr} {xs : List V} {ds : List PyData} (h : SqL K H a xs) (r : DxAll K H xs ds) : Dx K H (.ref a) (.list ds)
  | tup {a : Addr} {xs : List V} {ds : List PyData} (h : SqT K H a xs) (r : DxAll K H xs ds) : Dx K H (.ref a) (.tuple ds)
  | dic {a : Addr} {kvs : List (L2.Key × V)} {ds : List PyData} {es : List (PyData × PyData)} (h : H a = some (.dK kvs)) (r : DxAll K H (kvs.map (·.2)) ds) (e : es = (kvs.map fun p => kD p.1).zip ds) : Dx K H (.ref a) (.dict es)
  | dct {a : Addr} {kvs : List (List L2.Key × V)} {ds : List PyData} {es : List (PyData × PyData)} (h : H a = some (.dT kvs)) (r : DxAll K H (kvs.map (·.2)) ds) (e : es = (kvs.map fun p => kT p.1).zip ds) : Dx K H (.ref a) (.dict es)
inductive DxAll (K : PySem.W.Frag) (H : Hp) : List V → List PyData → Prop
  | nil : DxAll K H [] []
  | cons {v : V} {vs : List V} {d : PyData} {ds : List PyData} (h : Dx K H v d) (r : DxAll K H vs ds) : DxAll K H (v :: vs) (d :: ds)
end
/-! the same of the machine's heap -/
mutual
inductive Rx (h : Heap) : Value → PyData → Prop
  | non : Rx h .none .none
  | bl (b : Bool) : Rx h (.bool b) (.bool b)
  | int (i : Int) (t : Tok) : Rx h (.int i t) (.int i)
  | str (x : Str) (t : Tok) : Rx h (.str x t) (.str x)
  | lst {a : Addr} {o : Obj} {n : Nat} {vs : List Value} {ds : List PyData} (h1 : h.get? a = some o) (h2 : o.cls = .type "list") (h3 : o.data = .seq vs.toArray n) (h4 : RxAll h vs ds) : Rx h (.ref a) (.list ds)
  | tup {a : Addr} {o : Obj} {n : Nat} {vs : List Value} {ds : List PyData} (h1 : h.get? a = some o) (h2 : o.cls = .type "tuple") (h3 : o.data = .seq vs.toArray n) (h4 : RxAll h vs ds) : Rx h (.ref a) (.tuple ds)
  | dic {a : Addr} {o : Obj} {n : Nat} {es : Array DictEntry} {kvs : List (PyData × PyData)} (h1 : h.get? a = some o) (h2 : o.cls = .type "dict") (h3 : o.data = .dict es n) (h4 : (a == sysModules) = false) (h5 : RxAll h (es.toList.map (·.key)) (kvs.map (·.1))) (h6 : RxAll h (es.toList.map (·.val)) (kvs.map (·.2))) : Rx h (.ref a) (.dict kvs)
inductive RxAll (h : Heap) : List Value → List PyData → Prop
  | nil : RxAll h [] []
  | cons {v : Value} {vs : List Value} {d : PyData} {ds : List PyData} (h1 : Rx h v d) (h2 : RxAll h vs ds) : RxAll h (v :: vs) (d :: ds)
end
theorem DxAll.length {K : PySem.W.Frag} {H : Hp} : ∀ {vs : List V} {ds : List PyData}, DxAll K H vs ds → vs.length = ds.length
  | _, _, .nil => rfl
  | _, _, .cons _ r => by rw [List.length_cons, List.length_cons, r.length]
theorem fst_zip {α β : Type} : ∀ {l : List α} {m : List β}, l.length = m.length → (l.zip m).map (·.1) = l
  | [], _, _ => by simp
  | x :: l, [], h => nomatch h
  | x :: l, y :: m, h => by
    rw [List.zip_cons_cons, List.map_cons, fst_zip (Nat.succ.inj h)]
theorem snd_zip {α β : Type} : ∀ {l : List α} {m : List β}, l.length = m.length → (l.zip m).map (·.2) = m
  | [], [], _ => rfl
  | [], y :: m, h => nomatch h
  | x :: l, [], h => nomatch h
  | x :: l, y :: m, h => by
    rw [List.zip_cons_cons, List.map_cons, snd_zip (Nat.succ.inj h)]
theorem rx_key {h : Heap} {k : L2.Key} {u : Value} (e : RelV (kV k) u) : Rx h u (kD k) := by
  cases k with
  | inl i => obtain ⟨t, rfl⟩ := e; exact .int i t
  | inr x => obtain ⟨t, rfl⟩ := e; exact .str x t
theorem rx_keys {h : Heap} : ∀ {ks : List L2.Key} {us : List Value}, Vals (ks.map kV) us → RxAll h us (ks.map kD)
  | [], _, .nil => .nil
  | k :: ks, _, .cons r t => .cons (rx_key r) (rx_keys t)
theorem rx_mix {P : Program} {w : World} {h : Heap} : ∀ {kvs : List (L2.Key × V)} {vs : List (L2.Key × Value)} {es : List DictEntry}, KV kvs vs → Pairs (mixKind P w) es vs → RxAll h (es.map (·.key)) (kvs.map fun p => kD p.1) ∧ Vals (kvs.map (·.2)) (es.map (·.val))
  | _, _, _, .nil, .nil => ⟨.nil, .nil⟩
  | _, _, _, .cons (a := p) (b := q) z t, .cons (e := e) k1 k2 r => by
    obtain ⟨i1, i2⟩ := rx_mix (h := h) t r
    refine ⟨.cons ?_ i1, .cons ?_ i2⟩
    · rcases keyIs_shape (show keyIs q.1 e.key = true from k1) with ⟨i, u, e1, e2⟩ | ⟨x, u, e1, e2⟩
      · show Rx h e.key (kD p.1)
        rw [z.1, e1, e2]
        exact .int i u
      · show Rx h e.key (kD p.1)
        rw [z.1, e1, e2]
        exact .str x u
    · show RelV p.2 e.val
      rw [k2]
      exact z.2
section
variable {X : Cx} {pins : List (Addr × Obj)} {σ : L2.St} {H : Hp} {s : Shared}
theorem rx_tups (I : Inv X pins σ H s) : ∀ {kvs : List (List L2.Key × V)} {xs : List (List L2.Key × Addr × Value)}, Paired (fun (p : List L2.Key × V) (q : List L2.Key × Addr × Value) => p.1 = q.1 ∧ H q.2.1 = some (.tup (p.1.map kV)) ∧ RelV p.2 q.2.2) kvs xs → RxAll s.heap (xs.map fun x => Value.ref x.2.1) (kvs.map fun p => kT p.1) ∧ Vals (kvs.map (·.2)) (xs.map fun x => x.2.2)
  | _, _, .nil => ⟨.nil, .nil⟩
  | _, _, .cons z t => by
    obtain ⟨i1, i2⟩ := rx_tups I t
    refine ⟨.cons ?_ i1, .cons z.2.2 i2⟩
    obtain ⟨its, rv, ⟨o, ho, hc, n, hd⟩, _⟩ := I.tuple (.inl (.inl z.2.1))
    exact .tup ho hc hd (rx_keys rv)
mutual
theorem Dx.rx (I : Inv X pins σ H s) : ∀ {v : V} {u : Value} {d : PyData}, Dx X.K H v d → RelV v u → Rx s.heap u d
  | _, _, _, .non, r => by cases r; exact .non
  | _, _, _, .bl b, r => by cases r; exact .bl b
  | _, _, _, .int i, r => by obtain ⟨t, rfl⟩ := r; exact .int i t
  | _, _, _, .str x, r => by obtain ⟨t, rfl⟩ := r; exact .str x t
  | _, _, _, .lst h a, r => by
    cases r
    obtain ⟨its, rv, ⟨o, n, ho, hc, _, hd⟩, _⟩ := I.list h
    exact .lst ho hc hd (DxAll.rx I a rv)
  | _, _, _, .tup h a, r => by
    cases r
    obtain ⟨its, rv, ⟨o, ho, hc, n, hd⟩, _⟩ := I.tuple h
    exact .tup ho hc hd (DxAll.rx I a rv)
  | _, _, _, .dic (kvs := kvs) (ds := ds) h a e, r => by
    cases r
    subst e
    obtain ⟨_, hs, vs, kv, o, es, ep, ho, hx, hd, hk, hp, _⟩ := I.hok _ _ h
    obtain ⟨k1, k2⟩ := rx_mix (h := s.heap) kv hp
    have len := a.length
    rw [List.length_map] at len
    refine .dic ho hx.1 hd hs ?_ ?_
    · rw [fst_zip (by rw [List.length_map]; exact len)]
      exact k1
    · rw [snd_zip (by rw [List.length_map]; exact len)]
      exact DxAll.rx I a k2
  | _, _, _, .dct (kvs := kvs) (ds := ds) h a e, r => by
    cases r
    subst e
    obtain ⟨_, hs, xs, kv, o, es, ep, ho, hx, hd, hk, _⟩ := I.hok _ _ h
    obtain ⟨k1, k2⟩ := rx_tups I kv
    have len := a.length
    rw [List.length_map] at len
    have m1 : es.toList.map (·.key) = xs.map fun x => Value.ref x.2.1 := by rw [hk, List.map_map]; rfl
    have m2 : es.toList.map (·.val) = xs.map fun x => x.2.2 := by rw [hk, List.map_map]; rfl
    refine .dic ho hx.1 hd hs ?_ ?_
    · rw [fst_zip (by rw [List.length_map]; exact len), m1]
      exact k1
    · rw [snd_zip (by rw [List.length_map]; exact len), m2]
      exact DxAll.rx I a k2
theorem DxAll.rx (I : Inv X pins σ H s) : ∀ {vs : List V} {us : List Value} {ds : List PyData}, DxAll X.K H vs ds → Vals vs us → RxAll s.heap us ds
  | _, _, _, .nil, r => by cases r; exact .nil
  | _, _, _, .cons h a, r => by
    cases r with
    | cons r1 r2 => exact .cons (Dx.rx I h r1) (DxAll.rx I a r2)
end
end
section
variable {h : Heap}
mutual
theorem Rx.reads : ∀ {u : Value} {d : PyData}, Rx h u d → ∃ as, Reads h u d as
  | _, _, .non => ⟨_, .none⟩
  | _, _, .bl b => ⟨_, .bool b⟩
  | _, _, .int i t => ⟨_, .int i t⟩
  | _, _, .str x t => ⟨_, .str x t⟩
  | _, _, .lst h1 h2 h3 h4 => by
    obtain ⟨as, r⟩ := RxAll.reads h4
    exact ⟨_, .list h1 h2 h3 r⟩
  | _, _, .tup h1 h2 h3 h4 => by
    obtain ⟨as, r⟩ := RxAll.reads h4
    exact ⟨_, .tuple h1 h2 h3 r⟩
  | _, _, .dic h1 h2 h3 h4 h5 h6 => by
    obtain ⟨as, r⟩ := RxAll.reads h5
    obtain ⟨bs, q⟩ := RxAll.reads h6
    exact ⟨_, .dict h1 h2 h3 r q⟩
theorem RxAll.reads : ∀ {us : List Value} {ds : List PyData}, RxAll h us ds → ∃ as, ReadsAll h us ds as
  | _, _, .nil => ⟨_, .nil⟩
  | _, _, .cons h1 h2 => by
    obtain ⟨as, r⟩ := Rx.reads h1
    obtain ⟨bs, q⟩ := RxAll.reads h2
    exact ⟨_, .cons r q⟩
end
variable {prog : Program} {w : World}
/-- a dict's keys and values -/
theorem shows_kv {a : Addr} {o : Obj} {n : Nat} {es : Array DictEntry} {kvs : List (PyData × PyData)} (h1 : h.get? a = some o) (h2 : o.cls = .type "dict") (h3 : o.data = .dict es n) (h4 : (a == sysModules) = false) (h5 : RxAll h (es.toList.map (·.key)) (kvs.map (·.1))) (h6 : RxAll h (es.toList.map (·.val)) (kvs.map (·.2)))
    (k5 : ∃ bs, ReadAtMost h (PyData.depthAll (kvs.map (·.1))) bs ∧ ReprAllK prog w bs h (PyData.depthAll (kvs.map (·.1))) (es.toList.map (·.key)) (PyData.shownAll (kvs.map (·.1)))) (k6 : ∃ bs, ReadAtMost h (PyData.depthAll (kvs.map (·.2))) bs ∧ ReprAllK prog w bs h (PyData.depthAll (kvs.map (·.2))) (es.toList.map (·.val)) (PyData.shownAll (kvs.map (·.2)))) :
    ∃ b1 b2, ReadAtMost h (PyData.depthKv kvs) (b1 ++ b2) ∧ a ∉ b1 ++ b2 ∧ ReprEntriesK prog w (b1 ++ b2) h (PyData.depthKv kvs) es.toList (PyData.shownKv kvs) := by
  obtain ⟨b1, m1, k1⟩ := k5
  obtain ⟨b2, m2, k2⟩ := k6
  have d1 := PyData.depthAll_keys_le kvs
  have d2 := PyData.depthAll_vals_le kvs
  have m := (m1.mono d1).append (m2.mono d2)
  obtain ⟨as, r⟩ := Rx.reads (.dic h1 h2 h3 h4 h5 h6)
  refine ⟨b1, b2, m, not_mem_of_deeper r (by simp only [PyData.depth]; omega) m, ?_⟩
  rw [PyData.shownKv_eq]
  exact ReprEntriesK.of_two es.toList _ _ (k1.more_le (fun b hb => List.mem_append_left _ hb) d1) (k2.more_le (fun b hb => List.mem_append_right _ hb) d2)
theorem kv_sizes {kvs : List (PyData × PyData)} (hz : (PyData.dict kvs).shown.length ≤ sizeLine) : (∀ t ∈ PyData.shownAll (kvs.map (·.1)), t.length ≤ sizeLine) ∧ ∀ t ∈ PyData.shownAll (kvs.map (·.2)), t.length ≤ sizeLine := by
  have z : (dictText (PyData.shownKv kvs)).length ≤ sizeLine := by simpa only [PyData.shown] using hz
  refine ⟨fun t ht => ?_, fun t ht => ?_⟩
  · obtain ⟨p, hp, hl⟩ := PyData.shownKv_key_le kvs t ht
    exact Nat.le_trans (Nat.le_trans hl (dictText_mem_le hp)) z
  · obtain ⟨p, hp, hl⟩ := PyData.shownKv_val_le kvs t ht
    exact Nat.le_trans (Nat.le_trans hl (dictText_mem_le hp)) z
mutual
theorem Rx.shows : ∀ {u : Value} {d : PyData}, Rx h u d → d.showable = true → d.shown.length ≤ sizeLine → ∃ bs, ReadAtMost h d.depth bs ∧ ReprK prog w bs h d.depth u d.shown
  | _, _, .non, _, _ => ⟨[], (fun _ z => nomatch z), by
      rw [PyData.shown_none]
      exact .of_is ReprIs.none _ _ _⟩
  | _, _, .bl b, _, _ => ⟨[], (fun _ z => nomatch z), by
      rw [PyData.shown_bool]
      exact .of_is (ReprIs.bool b) _ _ _⟩
  | _, _, .int i t, hs, _ => ⟨[], (fun _ z => nomatch z), by
      rw [PyData.shown_int]
      exact .of_is (ReprIs.int t (by simpa [PyData.showable] using hs)) _ _ _⟩
  | _, _, .str x t, _, hz => ⟨[], (fun _ z => nomatch z), by
      rw [PyData.shown_str] at hz ⊢
      exact .of_is (ReprIs.str x t hz) _ _ _⟩
  | _, _, .lst (a := a) (vs := vs) (ds := ds) h1 h2 h3 h4, hs, hz => by
    have hz' : (listText (PyData.shownAll ds)).length ≤ sizeLine := by simpa only [PyData.shown] using hz
    obtain ⟨bs, hb, hk⟩ := RxAll.shows h4 (by simpa [PyData.showable] using hs) (fun t ht => Nat.le_trans (listText_mem_le ht) hz')
    obtain ⟨as, r⟩ := Rx.reads (.lst h1 h2 h3 h4)
    have na : a ∉ bs := not_mem_of_deeper r (by simp only [PyData.depth]; omega) hb
    refine ⟨a :: bs, ReadAtMost.cons r (by simp only [PyData.depth]; omega) hb, ?_⟩
    simp only [PyData.shown, PyData.depth]
    cases vs with
    | nil =>
      cases h4
      simp only [PyData.shownAll, listText_nil]
      exact ReprK.listEmpty h1 h2 h3
    | cons x l => exact ReprK.list h1 h2 h3 na (by simpa using hk.length_eq) (fun i y e => hk.item i y (by simpa using e))
  | _, _, .tup (a := a) (vs := vs) (ds := ds) h1 h2 h3 h4, hs, hz => by
    have hz' : (tupleText (PyData.shownAll ds)).length ≤ sizeLine := by simpa only [PyData.shown] using hz
    obtain ⟨bs, hb, hk⟩ := RxAll.shows h4 (by simpa [PyData.showable] using hs) (fun t ht => Nat.le_trans (tupleText_mem_le ht) hz')
    obtain ⟨as, r⟩ := Rx.reads (.tup h1 h2 h3 h4)
    have na : a ∉ bs := not_mem_of_deeper r (by simp only [PyData.depth]; omega) hb
    refine ⟨a :: bs, ReadAtMost.cons r (by simp only [PyData.depth]; omega) hb, ?_⟩
    simp only [PyData.shown, PyData.depth]
    exact ReprK.tuple h1 h2 h3 na hk
  | _, _, .dic (a := a) (es := es) (kvs := kvs) h1 h2 h3 h4 h5 h6, hs, hz => by
    have sp := PyData.showableKv_split kvs (by simpa [PyData.showable] using hs)
    obtain ⟨b1, b2, m, na, k⟩ := shows_kv h1 h2 h3 h4 h5 h6 (RxAll.shows h5 sp.1 (kv_sizes hz).1) (RxAll.shows h6 sp.2 (kv_sizes hz).2)
    obtain ⟨as, r⟩ := Rx.reads (.dic h1 h2 h3 h4 h5 h6)
    refine ⟨a :: (b1 ++ b2), ReadAtMost.cons r (by simp only [PyData.depth]; omega) m, ?_⟩
    simp only [PyData.depth, PyData.shown]
    exact ReprK.dict h1 h2 h3 h4 na k
theorem RxAll.shows : ∀ {us : List Value} {ds : List PyData}, RxAll h us ds → PyData.showableAll ds = true → (∀ t ∈ PyData.shownAll ds, t.length ≤ sizeLine) → ∃ bs, ReadAtMost h (PyData.depthAll ds) bs ∧ ReprAllK prog w bs h (PyData.depthAll ds) us (PyData.shownAll ds)
  | _, _, .nil, _, _ => ⟨[], (fun _ z => nomatch z), by
      rw [PyData.shownAll_nil]
      exact .nil⟩
  | _, _, .cons (d := d) (ds := ds) h1 h2, hs, hz => by
    have hs' : d.showable = true ∧ PyData.showableAll ds = true := by simpa [PyData.showableAll] using hs
    rw [PyData.shownAll_cons] at hz ⊢
    obtain ⟨b1, m1, k1⟩ := Rx.shows h1 hs'.1 (hz _ List.mem_cons_self)
    obtain ⟨b2, m2, k2⟩ := RxAll.shows h2 hs'.2 (fun t ht => hz t (List.mem_cons_of_mem _ ht))
    have e : PyData.depthAll (d :: ds) = max d.depth (PyData.depthAll ds) := by simp only [PyData.depthAll]
    rw [e]
    refine ⟨b1 ++ b2, (m1.mono (Nat.le_max_left _ _)).append (m2.mono (Nat.le_max_right _ _)), ?_⟩
    exact .cons ((k1.more fun b hb => List.mem_append_left _ hb).level_le (Nat.le_max_left _ _)) (k2.more_le (fun b hb => List.mem_append_right _ hb) (Nat.le_max_right _ _))
end
end
/-- repr of a value, where no repr is under way -/
def rReprX (K : PySem.W.Frag) : List V → Hp → VK → Prop := fun vs H Q => ∃ (x : V) (d : PyData), vs = [x] ∧ Dx K H x d ∧ d.showable = true ∧ d.depth ≤ 40 ∧ d.shown.length ≤ sizeLine ∧ Q (.str d.shown) H
theorem call_reprX {X : Cx} (hg : X.A.guards = some []) (hu : X.A.units + 64 < cLine) : CallR X (.builtin "repr") (rReprX X.K) := by
  intro pins s σ H vs us Q I rs hw
  obtain ⟨x, d, rfl, dx, hs, hd, hz, q⟩ := hw
  obtain ⟨u, rfl, r⟩ := vals1 rs
  have rx := Dx.rx I dx r
  have fin : ∀ (h' : Heap) (t : Tok) (tk : Nat), (∀ b o, s.heap.get? b = some o → h'.get? b = some o) → EP X pins σ Q (.str d.shown t) { s with heap := h', toks := tk } := fun h' t tk k => ⟨.str d.shown, H, I.kept k, ⟨t, rfl⟩, q⟩
  have fin0 : ∀ (t : Tok) (tk : Nat), EP X pins σ Q (.str d.shown t) { s with toks := tk } := fun t tk => ⟨.str d.shown, H, I.tok tk, ⟨t, rfl⟩, q⟩
  cases rx with
  | non =>
    rw [PyData.shown_none] at fin0
    exact PySem.P.repr_of_none (fin0 _ _)
  | bl b =>
    rw [PyData.shown_bool] at fin0
    exact PySem.P.repr_of_bool (fin0 _ _)
  | int i t =>
    rw [PyData.shown_int] at fin0
    exact PySem.P.repr_of_int (by simpa [PyData.showable] using hs) (fin0 _ _)
  | str y t =>
    rw [PyData.shown_str] at fin0 hz
    exact PySem.P.repr_of_str (fin0 _ _) hz
  | @lst a o n vs ds h1 h2 h3 h4 =>
    have hz' : (listText (PyData.shownAll ds)).length ≤ sizeLine := by simpa only [PyData.shown] using hz
    obtain ⟨bs, hb, hk⟩ := RxAll.shows (prog := X.prog) (w := X.w) h4 (by simpa [PyData.showable] using hs) (fun t ht => Nat.le_trans (listText_mem_le ht) hz')
    obtain ⟨as, rd⟩ := Rx.reads (.lst h1 h2 h3 h4)
    have na : a ∉ bs := not_mem_of_deeper rd (by simp only [PyData.depth]; omega) hb
    simp only [PyData.shown] at fin
    simp only [PyData.depth] at hd
    refine call_repr_slot (by omega) ⟨o, h1, h2⟩ PySem.F.slot_list_repr.toG ?_
    cases vs with
    | nil =>
      cases h4
      simp only [listText_nil, PyData.shownAll] at fin
      exact call_list_repr_empty ⟨o, h1, h2⟩ h1 h3 ⟨_, _, rfl, fin _ _ _ fun _ _ e => e⟩
    | cons x l =>
      exact call_list_reprK h1 h2 h3 na (by simpa using hk.length_eq) (fun i y e => hk.item i y (by simpa using e)) (A := X.A.in1) hg (fun b _ => Clear.nil b) (by show X.A.units + 1 + _ < cLine; omega) (fun _ _ e => e) (fun h' u tk k => ⟨_, _, rfl, fin h' u tk k⟩) hz'
  | @tup a o n vs ds h1 h2 h3 h4 =>
    have hz' : (tupleText (PyData.shownAll ds)).length ≤ sizeLine := by simpa only [PyData.shown] using hz
    obtain ⟨bs, hb, hk⟩ := RxAll.shows (prog := X.prog) (w := X.w) h4 (by simpa [PyData.showable] using hs) (fun t ht => Nat.le_trans (tupleText_mem_le ht) hz')
    obtain ⟨as, rd⟩ := Rx.reads (.tup h1 h2 h3 h4)
    have na : a ∉ bs := not_mem_of_deeper rd (by simp only [PyData.depth]; omega) hb
    simp only [PyData.shown] at fin
    simp only [PyData.depth] at hd
    refine call_repr_slot (by omega) ⟨o, h1, h2⟩ PySem.F.slot_tuple_repr ?_
    exact call_tuple_reprK h1 h2 h3 na hk (A := X.A.in1) hg (fun b _ => Clear.nil b) (by show X.A.units + 1 + _ < cLine; omega) (fun _ _ e => e) (fun h' u tk k => ⟨_, _, rfl, fin h' u tk k⟩) hz'
  | @dic a o n es kvs h1 h2 h3 h4 h5 h6 =>
    have sp := PyData.showableKv_split kvs (by simpa [PyData.showable] using hs)
    obtain ⟨b1, b2, m, na, k⟩ := shows_kv (prog := X.prog) (w := X.w) h1 h2 h3 h4 h5 h6 (RxAll.shows h5 sp.1 (kv_sizes hz).1) (RxAll.shows h6 sp.2 (kv_sizes hz).2)
    simp only [PyData.shown] at fin hz
    simp only [PyData.depth] at hd
    refine call_repr_slot (by omega) ⟨o, h1, h2⟩ PySem.F.slot_dict_repr ?_
    exact call_dict_reprK h1 h2 h3 h4 na k (A := X.A.in1) hg (fun b _ => Clear.nil b) (by show X.A.units + 1 + _ < cLine; omega) (fun _ _ e => e) (fun h' u tk k => ⟨_, _, rfl, fin h' u tk k⟩) hz
end DS
namespace DS
open PySem PySem.Spec PyProof.Rows L2
/-! ### enumerate of a tuple, of a text -/
/-- n pairs (i, f i), while G stands -/
def Itp (G : Hp → Prop) (n : Nat) (f : Nat → V) : It :=
  ⟨fun i H => i < n ∧ G H, fun i H v H' => ∃ T, v = .ref T ∧ H T = none ∧ H' = upd H T (.tup [.int (i : Nat), f i]), fun i H => i = n ∧ G H⟩
section
variable {prog : Program} {w : World} {A : Around} {E : Value → Shared → Prop} {s : Shared}
set_option maxHeartbeats 1000000 in
theorem new_enumT (l : Addr) (items : Array Value) (n : Nat) (dct : Option Addr) (sl : Array (Option Value)) :
    Meets (Builtin.«enumerate.__new__» ⟨[.type "enumerate", .ref l], []⟩) (fun _ R s => s.heap.get? l = some { cls := .type "tuple", dict := dct, data := .seq items n, slots := sl } ∧
      R (.ok (.ret (.ref (s.heap.push { cls := .type "tuple_iterator", data := .fields #[.ref l, .int 0 0] }).objs.size)))
        { s with heap := (s.heap.push { cls := .type "tuple_iterator", data := .fields #[.ref l, .int 0 0] }).push { cls := .type "enumerate", data := .fields #[.none, .bool false, .ref s.heap.objs.size, rawInt 0, .none, .none] } }) :=
  .of_wp fun prog w A R s h => by
    obtain ⟨hp, g, d, tk, os⟩ := s
    obtain ⟨hl, h⟩ := h
    have hsub := sub_enumerate
    have hL : Heap.IsTuple (Shared.heap ⟨hp, g, d, tk, os⟩) l items := ⟨_, hl, rfl, n, rfl⟩
    wp_walk using AutoSeq1.wpAny_loadPart' hl
    refine wpAny_stack_any fun st => wpAny_pure ?_
    split
    · rename_i c _ _ _ _ _
      cases (c == Value.type "enumerate")
      · wp_walk using AutoSeq1.wpAny_loadPart' hl, wpAny_pyIter_tuple hL
        exact ⟨_, rfl, h⟩
      · wp_walk using AutoSeq1.wpAny_loadPart' hl, wpAny_pyIter_tuple hL
        exact ⟨_, rfl, h⟩
    · wp_walk using AutoSeq1.wpAny_loadPart' hl, wpAny_pyIter_tuple hL
      exact ⟨_, rfl, h⟩
theorem call_enumT {l : Addr} {items : Array Value} {Q : Value → Shared → Prop} (hL : s.heap.IsTuple l items)
    (h : ∀ h', IsEnum h' (s.heap.objs.size + 1) s.heap.objs.size 0 .none → h'.IsTupleIter s.heap.objs.size l 0 → (∀ b o, s.heap.get? b = some o → h'.get? b = some o) → Q (.ref (s.heap.objs.size + 1)) { s with heap := h' }) :
    wpAny (model prog w) A (call (.type "enumerate") [.ref l]) Q E s := by
  obtain ⟨⟨c, dct, dt, sl⟩, hl, hc, n, hd⟩ := hL
  simp only at hc hd
  subst hc hd
  refine callType_new F.called_enumerate (by decide) (F.typeCall_enumerate_1 _) (F.newCall_enumerate_1 _) (fun obj => F.args_object_init_2 obj _) F.entry_enumerate_new (new_enumT l items n dct sl) ⟨hl, ?_⟩
  have hz : (s.heap.push { cls := .type "tuple_iterator", data := .fields #[.ref l, .int 0 0] }).objs.size = s.heap.objs.size + 1 := Heap.size_push ..
  show _ ∧ _
  rw [hz]
  have he : IsEnum ((s.heap.push { cls := .type "tuple_iterator", data := .fields #[.ref l, .int 0 0] }).push { cls := .type "enumerate", data := .fields #[.none, .bool false, .ref s.heap.objs.size, rawInt 0, .none, .none] }) (s.heap.objs.size + 1) s.heap.objs.size 0 .none := by
    have e := Heap.get?_push_size (s.heap.push { cls := .type "tuple_iterator", data := .fields #[.ref l, .int 0 0] }) (o := { cls := .type "enumerate", data := .fields #[.none, .bool false, .ref s.heap.objs.size, rawInt 0, .none, .none] }) rfl
    rw [hz] at e
    exact e
  refine ⟨⟨_, he, rfl⟩, h _ he ⟨_, Heap.get?_push_of_some _ (Heap.get?_push_size _ rfl), rfl, rfl⟩ fun b o x => Heap.get?_push_of_some _ (Heap.get?_push_of_some _ x)⟩
end
/-- what an enumerate over some iterator it needs: L tells where it stands, and from G and L its draws -/
theorem turn_pairs {P : Program} {w : World} {K : PySem.W.Frag} {elts : List Expr} {kk : Nat} {tpos : Pos} {e it : Addr} {G : Hp → Prop} {n : Nat} {f : Nat → V} {L : Nat → Heap → Prop}
    (live : ∀ i h, L i h → ∃ o, h.get? it = some o ∧ ∀ v, o.data ≠ .cell v) (keep : ∀ i h h', L i h → (∀ o, h.get? it = some o → h'.get? it = some o) → L i h')
    (dr : ∀ (X : Cx), X.prog = P → X.w = w → X.K = K → X.calm = true → ∀ (pins : List (Addr × Obj)) (s : Shared) (σ : L2.St) (H : Hp), Inv X pins σ H s → FpOk X pins H it → FpOk X pins H e → G H →
      ∀ i : Nat, L i s.heap → (∃ old, IsEnum s.heap e it ((i : Nat) : Int) old) → e ≠ it → ∃ (fp : List Addr) (Pd : Nat → Value → Prop) (St : Nat → Heap → Prop), Draws P w X.A.in1 it fp n Pd St ∧ e ∉ fp ∧ (∀ i, L i s.heap → St i s.heap) ∧ (∀ i h, St i h → L i h) ∧ ∀ i u, i < n → Pd i u → RelV (f i) u) :
    Turn P w K (.Tuple elts kk tpos) (Itp G n f) [e, it] e (fun i h => (∃ old, IsEnum h e it ((i : Nat) : Int) old) ∧ L i h ∧ e ≠ it) where
  mem := List.mem_cons_self
  obj := fun i h st b hb => by
    obtain ⟨⟨old, he⟩, hl, _⟩ := st
    rcases List.mem_cons.mp hb with z | z
    · rw [z]
      exact ⟨_, he, fun v q => nomatch q⟩
    · rw [List.mem_singleton.mp z]
      exact live i h hl
  keep := fun i h h' st k => by
    obtain ⟨⟨old, he⟩, hl, hne⟩ := st
    exact ⟨⟨old, k e List.mem_cons_self _ he⟩, keep i h h' hl fun o q => k it (List.mem_cons_of_mem _ List.mem_cons_self) o q, hne⟩
  item := by
    intro X hP hw hK hc i pins s σ H E I hf st hg
    obtain ⟨⟨old, he⟩, hl, hne⟩ := st
    have fit := hf it (List.mem_cons_of_mem _ List.mem_cons_self)
    have fe := hf e List.mem_cons_self
    obtain ⟨fp, Pd, St, D, nfp, inn, outt, rel⟩ := dr X hP hw hK hc pins s σ H I fit fe hg.2 i hl ⟨old, he⟩ hne
    subst hP hw hK
    have hel : e < s.heap.objs.size := Heap.lt_size he
    have hil : it < s.heap.objs.size := by
      obtain ⟨o, q, _⟩ := live i _ hl
      exact Heap.lt_size q
    refine wpAny_pyNext_enum_itemD D he (inn i hl) hg.1 hne nfp fun u h' tk hPu ho hst' hT hsz hk => ?_
    refine ⟨_, rfl, wpAny_letOwnedTupleGo_enum (s := { s with heap := h', toks := tk + 1 }) ho fun h'' he' sb => ?_⟩
    have hT2 : h''.get? s.heap.objs.size = some { cls := .type "tuple", data := .seq #[.int i tk, u] } := (sb.2 _ (Nat.ne_of_gt hel)).trans hT
    have new : ObjOk X.prog X.w (upd H s.heap.objs.size (.tup [.int (i : Nat), f i])) h'' s.heap.objs.size (.tup [.int (i : Nat), f i]) :=
      ⟨(show 2 ≤ sizeLine by decide), [.int i tk, u], .cons ⟨_, rfl⟩ (.cons (rel i u hg.1 hPu) .nil), ⟨_, hT2, rfl, _, rfl⟩⟩
    have I1 : Inv X pins σ (upd H s.heap.objs.size (.tup [.int (i : Nat), f i])) { s with heap := h'', toks := tk + 1 } := by
      refine I.turnedNew (ch := [e, it]) (fun b ob hb q => ?_) hf (Nat.le_refl _) new
      have b1 : b ≠ e := fun z => hb (by rw [z]; exact List.mem_cons_self)
      have b2 : b ≠ it := fun z => hb (by rw [z]; exact List.mem_cons_of_mem _ List.mem_cons_self)
      exact (sb.2 b b1).trans (hk b ob b1 b2 q)
    refine ⟨.ref s.heap.objs.size, _, I1, rfl, ⟨_, rfl, I.hok.fresh (Nat.le_refl _), rfl⟩, ⟨⟨u, ?_⟩, keep _ _ _ (outt _ _ hst') fun o q => (sb.2 it (Ne.symm hne)).trans q, hne⟩, fun b hb => ?_⟩
    · have e1 : ((i + 1 : Nat) : Int) = (i : Int) + 1 := by omega
      rw [e1]
      exact he'
    · have hb' : b < s.heap.objs.size := by
        rcases List.mem_cons.mp hb with z | z
        · rw [z]
          exact hel
        · rw [List.mem_singleton.mp z]
          exact hil
      rw [upd_ne (Nat.ne_of_lt hb')]
      exact (hf b hb).1
  done := by
    intro X hP hw hK hc i pins s σ H E I hf st hg
    obtain ⟨⟨old, he⟩, hl, hne⟩ := st
    have fit := hf it (List.mem_cons_of_mem _ List.mem_cons_self)
    have fe := hf e List.mem_cons_self
    obtain ⟨fp, Pd, St, D, nfp, inn, outt, rel⟩ := dr X hP hw hK hc pins s σ H I fit fe hg.2 i hl ⟨old, he⟩ hne
    subst hP hw hK
    obtain ⟨rfl, _⟩ := hg
    obtain ⟨f0, f1, f2, f3, f4, f5⟩ := fit
    exact wpAny_pyNext_enum_endD D he (inn _ hl) fun h' eb => ⟨rfl, I.turned (t' := s.toks) (fun b o hb q => eb b o hb q) f0 f1 f3 f4 f5⟩
  self := fun A i s Q E st h => by
    obtain ⟨⟨_, he⟩, _⟩ := st
    exact wpAny_pyIter_enum he h
/-! as rules -/
section
variable {X : Cx}
theorem pi_pairs {pins : List (Addr × Obj)} {σ : L2.St} {H : Hp} {s : Shared} {elts : List Expr} {kk : Nat} {tpos : Pos} {R : It → Hp → Prop} {J : It} {L : Nat → Heap → Prop} {h' : Heap} {Er : Value → Shared → Prop} (I : Inv X pins σ H s)
    (he : IsEnum h' (s.heap.objs.size + 1) s.heap.objs.size 0 .none) (hit : L 0 h') (hk : ∀ b o, s.heap.get? b = some o → h'.get? b = some o)
    (T : Turn X.prog X.w X.K (.Tuple elts kk tpos) J [s.heap.objs.size + 1, s.heap.objs.size] (s.heap.objs.size + 1) (fun i h => (∃ old, IsEnum h (s.heap.objs.size + 1) s.heap.objs.size ((i : Nat) : Int) old) ∧ L i h ∧ s.heap.objs.size + 1 ≠ s.heap.objs.size)) (q : R J H) :
    wpAny (model X.prog X.w) X.A (pyIter (.ref (s.heap.objs.size + 1))) (PIE X pins σ (.Tuple elts kk tpos) R) Er { s with heap := h' } := by
  refine wpAny_pyIter_enum he ?_
  refine ⟨s.heap.objs.size + 1, [s.heap.objs.size + 1, s.heap.objs.size], _, _, H, rfl, I.kept (t' := s.toks) hk, T, ⟨⟨.none, he⟩, hit, Nat.succ_ne_self _⟩, fun b hb => ?_, q⟩
  have hle : s.heap.objs.size ≤ b := by
    rcases List.mem_cons.mp hb with z | z
    · rw [z]
      exact Nat.le_succ _
    · rw [List.mem_singleton.mp z]
      exact Nat.le_refl _
  exact I.fpOk hle (I.hok.fresh hle)
def iEnumT (K : PySem.W.Frag) (ta : TA) : TI := fun σ H R => ta σ H fun vs H1 => ∃ a xs, vs = [.ref a] ∧ SqT K H1 a xs ∧ R (Itp (fun H => SqT K H a xs) xs.length (fun i => xs.getD i .non)) H1
theorem pi_enumT {e : Expr} {ta : TA} {p pos tpos : Pos} {elts : List Expr} {kk : Nat} (hg : Gl X "enumerate") (hm : X.mg "enumerate" = none) (ha : PA X [e] ta) (hs : starEach [e] X.env = [(false, eval e X.env)] := by rfl) :
    PI X (.Tuple elts kk tpos) (.Call (.Name "enumerate" p) [e] [] pos) (iEnumT X.K ta) := by
  refine ⟨fun pins s σ H R I h => ?_⟩
  refine Call_ (ld_blt I hg hm boot_enumerate (PyProof.Rows.callWith_type1 (thn (ha.run pos pins s σ H _ I h) fun us s1 ⟨vs, H1, I1, r1, q1⟩ => ?_) hs rfl))
  obtain ⟨a, xs, ex, hq, q⟩ := q1
  subst ex
  obtain ⟨u, rfl, ru⟩ := vals1 r1
  obtain rfl : u = Value.ref a := ru
  obtain ⟨its, rv, p', hz⟩ := I1.tuple hq
  refine call_enumT (show s1.heap.IsTuple a its.toArray from p') fun h' he hit hk => ?_
  refine pi_pairs (L := fun i h => h.IsTupleIter s1.heap.objs.size a i) I1 he hit hk (turn_pairs (fun i h hl => ?_) (fun i h h' hl k => ?_) ?_) q
  · obtain ⟨o, ho, hc, hd⟩ := hl
    exact ⟨o, ho, fun v q => by rw [hd] at q; cases q⟩
  · exact hl.at k
  · intro Y hP hw hK hc pins2 s2 σ2 H2 I2 f1 f2 g i hl hen hne
    rw [← hK] at g
    obtain ⟨its2, rv2, p2, _⟩ := I2.tuple g
    have hai : a ≠ s1.heap.objs.size := fun z => by
      obtain ⟨o, ho, hc, hd⟩ := hl
      obtain ⟨o2, ho2, hc2, _⟩ := p2
      rw [z, ho] at ho2
      cases ho2
      rw [hc] at hc2
      exact absurd (Value.type.inj hc2) (by decide)
    have hea : s1.heap.objs.size + 1 ≠ a := fun z => by
      obtain ⟨old, ho⟩ := hen
      obtain ⟨o2, ho2, hc2, _⟩ := p2
      rw [← z] at ho2
      have e := ho.symm.trans ho2
      cases e
      exact absurd (Value.type.inj hc2) (by decide)
    have ln : its2.toArray.size = xs.length := by rw [List.size_toArray, ← rv2.length]
    have D := Draws.tuple (prog := X.prog) (w := X.w) (A := Y.A.in1) (I2.ok.hd hc) s1.heap.objs.size a hai its2.toArray
    rw [ln] at D
    refine ⟨_, _, _, D, fun hm => ?_, fun i hl => ⟨hl, p2⟩, fun i h hst => hst.1, fun i u hi hu => ?_⟩
    · rcases List.mem_cons.mp hm with z | z
      · exact hne z
      · exact hea (List.mem_singleton.mp z)
    · have hx : xs[i]? = some xs[i] := List.getElem?_eq_getElem hi
      obtain ⟨u', hu', ru'⟩ := rv2.get hx
      have : u = u' := by
        have h1 : its2[i]? = some u := by simpa using hu
        rw [hu'] at h1
        exact (Option.some.inj h1).symm
      rw [this, List.getD_eq_getElem?_getD, hx]
      exact ru'
def iEnumS (ta : TA) : TI := fun σ H R => ta σ H fun vs H1 => ∃ x : Str, vs = [.str x] ∧ R (Itp (fun _ => True) x.cps.size (fun i => .str ⟨#[x.cps.getD i 0]⟩)) H1
theorem pi_enumS {e : Expr} {ta : TA} {p pos tpos : Pos} {elts : List Expr} {kk : Nat} (hg : Gl X "enumerate") (hm : X.mg "enumerate" = none) (ha : PA X [e] ta) (hs : starEach [e] X.env = [(false, eval e X.env)] := by rfl) :
    PI X (.Tuple elts kk tpos) (.Call (.Name "enumerate" p) [e] [] pos) (iEnumS ta) := by
  refine ⟨fun pins s σ H R I h => ?_⟩
  refine Call_ (ld_blt I hg hm boot_enumerate (PyProof.Rows.callWith_type1 (thn (ha.run pos pins s σ H _ I h) fun us s1 ⟨vs, H1, I1, r1, q1⟩ => ?_) hs rfl))
  obtain ⟨x, ex, q⟩ := q1
  subst ex
  obtain ⟨u, rfl, t, rfl⟩ := vals1 r1
  refine call_enumerate_str fun h' he hit _ hk => ?_
  refine pi_pairs (L := fun i h => h.IsStrIter s1.heap.objs.size (strIterType x) x t i) I1 he hit hk (turn_pairs (fun i h hl => ?_) (fun i h h' hl k => ?_) ?_) q
  · obtain ⟨o, ho, hc, hd⟩ := hl
    exact ⟨o, ho, fun v q => by rw [hd] at q; cases q⟩
  · obtain ⟨o, ho, hr⟩ := hl
    exact ⟨o, k o ho, hr⟩
  · intro Y hP hw hK hc pins2 s2 σ2 H2 I2 f1 f2 g i hl hen hne
    have D := Draws.text (prog := X.prog) (w := X.w) (A := Y.A.in1) (I2.ok.hd hc) s1.heap.objs.size x t
    refine ⟨_, _, _, D, fun hm => hne (List.mem_singleton.mp hm), fun i hl => hl, fun i h hst => hst, fun i u hi hu => ?_⟩
    obtain ⟨c, tk, hc, rfl⟩ := hu
    have e : x.cps.getD i 0 = c := by
      rw [Array.getD_eq_getD_getElem?, hc]
      rfl
    show RelV (.str ⟨#[x.cps.getD i 0]⟩) _
    rw [e]
    exact ⟨tk, rfl⟩
end
/-! what a for and a comprehension over such pairs ask -/
end DS
namespace DS
open PySem PySem.Spec PyProof.Rows L2
/-! ### data: the heap with some addresses hidden -/
abbrev Hid := Addr → Prop
open Classical in
noncomputable def Fz (O : Hid) (H : Hp) : Hp := fun a => if O a then none else H a
theorem fz_in {O : Hid} {H : Hp} {a : Addr} (h : O a) : Fz O H a = none := by unfold Fz; rw [if_pos h]
theorem fz_out {O : Hid} {H : Hp} {a : Addr} (h : ¬ O a) : Fz O H a = H a := by unfold Fz; rw [if_neg h]
theorem fz_get {O : Hid} {H : Hp} {a : Addr} {o : HO} (h : Fz O H a = some o) : H a = some o ∧ ¬ O a := by
  by_cases k : O a
  · rw [fz_in k] at h
    cases h
  · rw [fz_out k] at h
    exact ⟨h, k⟩
theorem fz_sub (O : Hid) (H : Hp) : Same (Fz O H) H := fun _ _ h => (fz_get h).1
theorem _root_.L2.Same.fz {H H' : Hp} (s : Same H H') (O : Hid) : Same (Fz O H) (Fz O H') := fun b o h => by
  obtain ⟨h1, h2⟩ := fz_get h
  rw [fz_out h2]
  exact s b o h1
theorem fz_less {O O' : Hid} (h : ∀ b, O' b → O b) (H : Hp) : Same (Fz O H) (Fz O' H) := fun b o e => by
  obtain ⟨h1, h2⟩ := fz_get e
  rw [fz_out fun z => h2 (h b z)]
  exact h1
/-- what is hidden is there -/
def Al (O : Hid) (H : Hp) : Prop := ∀ a, O a → H a ≠ none
theorem Al.same {O : Hid} {H H' : Hp} (h : Al O H) (s : Same H H') : Al O H' := fun a z => by
  cases e : H a with
  | none => exact absurd e (h a z)
  | some o => rw [s a o e]; exact fun q => nomatch q
theorem Al.new {O : Hid} {H : Hp} {p : Addr} (h : Al O H) (n : H p = none) : ¬ O p := fun z => h p z n
theorem fz_upd {O : Hid} {H : Hp} {p : Addr} {o : HO} (h : O p) : Fz O (upd H p o) = Fz O H := by
  funext b
  by_cases k : O b
  · rw [fz_in k, fz_in k]
  · rw [fz_out k, fz_out k, upd_ne fun z => k (by rw [z]; exact h)]
theorem sqT_same {K : PySem.W.Frag} {H H' : Hp} {a : Addr} {xs : List V} (e : Same H H') (h : SqT K H a xs) : SqT K H' a xs := by
  rcases h with (h | ⟨o, h⟩) | h
  · exact .inl (.inl (e a _ h))
  · exact .inl (.inr ⟨o, e a _ h⟩)
  · exact .inr h
mutual
theorem Dx.same {K : PySem.W.Frag} {H H' : Hp} (s : Same H H') : ∀ {v : V} {d : PyData}, Dx K H v d → Dx K H' v d
  | _, _, .non => .non
  | _, _, .bl b => .bl b
  | _, _, .int i => .int i
  | _, _, .str x => .str x
  | _, _, .lst h r => .lst (s.seq h) (DxAll.same s r)
  | _, _, .tup h r => .tup (sqT_same s h) (DxAll.same s r)
  | _, _, .dic h r e => .dic (s _ _ h) (DxAll.same s r) e
  | _, _, .dct h r e => .dct (s _ _ h) (DxAll.same s r) e
theorem DxAll.same {K : PySem.W.Frag} {H H' : Hp} (s : Same H H') : ∀ {vs : List V} {ds : List PyData}, DxAll K H vs ds → DxAll K H' vs ds
  | _, _, .nil => .nil
  | _, _, .cons h r => .cons (Dx.same s h) (DxAll.same s r)
end
theorem DxAll.len {K : PySem.W.Frag} {H : Hp} : ∀ {vs : List V} {ds : List PyData}, DxAll K H vs ds → vs.length = ds.length
  | _, _, .nil => rfl
  | _, _, .cons _ r => by rw [List.length_cons, List.length_cons, r.len]
theorem DxAll.get {K : PySem.W.Frag} {H : Hp} : ∀ {vs : List V} {ds : List PyData} {i : Nat} {d : PyData}, DxAll K H vs ds → ds[i]? = some d → ∃ v, vs[i]? = some v ∧ Dx K H v d
  | _, _, _, _, .nil, e => by simp at e
  | _, _, 0, _, .cons h _, e => by simp at e; subst e; exact ⟨_, rfl, h⟩
  | _, _, i + 1, d, .cons _ r, e => by
    obtain ⟨v, h1, h2⟩ := DxAll.get (i := i) (d := d) r (by simpa using e)
    exact ⟨v, by simpa using h1, h2⟩
theorem DxAll.append {K : PySem.W.Frag} {H : Hp} : ∀ {vs us : List V} {ds es : List PyData}, DxAll K H vs ds → DxAll K H us es → DxAll K H (vs ++ us) (ds ++ es)
  | _, _, _, _, .nil, k => k
  | _, _, _, _, .cons h r, k => .cons h (r.append k)
theorem DxAll.take {K : PySem.W.Frag} {H : Hp} : ∀ {vs : List V} {ds : List PyData} (n : Nat), DxAll K H vs ds → DxAll K H (vs.take n) (ds.take n)
  | _, _, 0, _ => .nil
  | _, _, _ + 1, .nil => .nil
  | _, _, n + 1, .cons h r => .cons h (r.take n)
theorem DxAll.drop {K : PySem.W.Frag} {H : Hp} : ∀ {vs : List V} {ds : List PyData} (n : Nat), DxAll K H vs ds → DxAll K H (vs.drop n) (ds.drop n)
  | _, _, 0, h => h
  | _, _, _ + 1, .nil => .nil
  | _, _, n + 1, .cons _ r => r.drop n
theorem DxAll.ints {K : PySem.W.Frag} {H : Hp} : ∀ ns : List Int, DxAll K H (ns.map V.int) (ns.map PyData.int)
  | [] => .nil
  | n :: ns => .cons (.int n) (DxAll.ints ns)
/-! ### slots as data -/
inductive Ent where
  | na
  | dat (d : PyData)
  | own (ds : List PyData)
  | rows (dss : List (List PyData))
  | dct (kvs : List (List Key × PyData))
  | dck (kvs : List (Key × PyData))
  | dk
  | err (a : Addr) (d : Option Addr) (f : Option (Str × PyData))
  | tn (ds : List PyData)
  | sd (l : Bool) (d : PyData)
abbrev Dn := List Ent
inductive RowsOk (K : PySem.W.Frag) (O : Hid) (H : Hp) : List Addr → List (List PyData) → Prop
  | nil : RowsOk K O H [] []
  | cons {q : Addr} {qs : List Addr} {vs : List V} {ds : List PyData} {dss : List (List PyData)} (h1 : O q) (h2 : H q = some (.lst vs)) (h3 : DxAll K (Fz O H) vs ds) (r : RowsOk K O H qs dss) : RowsOk K O H (q :: qs) (ds :: dss)
inductive KvOk {κ : Type} (K : PySem.W.Frag) (H : Hp) : List (κ × V) → List (κ × PyData) → Prop
  | nil : KvOk K H [] []
  | cons {k : κ} {v : V} {d : PyData} {kvs : List (κ × V)} {kds : List (κ × PyData)} (h : Dx K H v d) (r : KvOk K H kvs kds) : KvOk K H ((k, v) :: kvs) ((k, d) :: kds)
theorem RowsOk.shift {K : PySem.W.Frag} {O O' : Hid} {H H' : Hp} (o : ∀ p, O p → O' p) (f : Same (Fz O H) (Fz O' H')) : ∀ {qs : List Addr} {dss : List (List PyData)}, RowsOk K O H qs dss → (∀ q ∈ qs, H' q = H q) → RowsOk K O' H' qs dss
  | _, _, .nil, _ => .nil
  | _, _, .cons h1 h2 h3 r, k => .cons (o _ h1) ((k _ List.mem_cons_self).trans h2) (h3.same f) (r.shift o f fun q hq => k q (List.mem_cons_of_mem _ hq))
theorem RowsOk.there {K : PySem.W.Frag} {O : Hid} {H : Hp} : ∀ {qs : List Addr} {dss : List (List PyData)}, RowsOk K O H qs dss → ∀ q ∈ qs, O q ∧ ∃ vs, H q = some (.lst vs)
  | _, _, .cons h1 h2 h3 r, q, hq => by
    rcases List.mem_cons.mp hq with e | hq
    · subst e
      exact ⟨h1, _, h2⟩
    · exact r.there q hq
theorem RowsOk.len {K : PySem.W.Frag} {O : Hid} {H : Hp} : ∀ {qs : List Addr} {dss : List (List PyData)}, RowsOk K O H qs dss → qs.length = dss.length
  | _, _, .nil => rfl
  | _, _, .cons _ _ _ r => by rw [List.length_cons, List.length_cons, r.len]
theorem RowsOk.get {K : PySem.W.Frag} {O : Hid} {H : Hp} : ∀ {qs : List Addr} {dss : List (List PyData)} {i : Nat} {ds : List PyData}, RowsOk K O H qs dss → dss[i]? = some ds → ∃ q vs, qs[i]? = some q ∧ O q ∧ H q = some (.lst vs) ∧ DxAll K (Fz O H) vs ds
  | _, _, _, _, .nil, e => by simp at e
  | _, _, 0, _, .cons h1 h2 h3 r, e => by
    cases e
    exact ⟨_, _, rfl, h1, h2, h3⟩
  | _, _, i + 1, ds, .cons _ _ _ r, e => r.get (i := i) e
theorem KvOk.same {κ : Type} {K : PySem.W.Frag} {H H' : Hp} (f : Same H H') : ∀ {kvs : List (κ × V)} {kds : List (κ × PyData)}, KvOk K H kvs kds → KvOk K H' kvs kds
  | _, _, .nil => .nil
  | _, _, .cons h r => .cons (h.same f) (r.same f)
/-- a tuple that is told of as one; a list or a tuple of such ones -/
def SdT (K : PySem.W.Frag) (H : Hp) (v : V) (d : PyData) : Prop := ∃ b xs ds, v = .ref b ∧ d = .tuple ds ∧ H b = some (.tup xs) ∧ DxAll K H xs ds
def SdL (K : PySem.W.Frag) (H : Hp) (v : V) (d : PyData) : Prop := ∃ b vs ds, v = .ref b ∧ ((H b = some (.lst vs) ∧ d = .list ds) ∨ (H b = some (.tup vs) ∧ d = .tuple ds)) ∧ Paired (SdT K H) vs ds
def SdB (K : PySem.W.Frag) (H : Hp) (l : Bool) (v : V) (d : PyData) : Prop := if l = true then SdL K H v d else SdT K H v d
theorem SdT.same {K : PySem.W.Frag} {H H' : Hp} {v : V} {d : PyData} (f : Same H H') (h : SdT K H v d) : SdT K H' v d := let ⟨b, xs, ds, e1, e2, z, r⟩ := h; ⟨b, xs, ds, e1, e2, f _ _ z, r.same f⟩
theorem SdL.same {K : PySem.W.Frag} {H H' : Hp} {v : V} {d : PyData} (f : Same H H') (h : SdL K H v d) : SdL K H' v d := let ⟨b, vs, ds, e, z, r⟩ := h; ⟨b, vs, ds, e, z.imp (fun k => ⟨f _ _ k.1, k.2⟩) (fun k => ⟨f _ _ k.1, k.2⟩), Paired.mapP r fun _ _ k => k.same f⟩
theorem SdB.same {K : PySem.W.Frag} {H H' : Hp} {v : V} {d : PyData} {l : Bool} (f : Same H H') (h : SdB K H l v d) : SdB K H' l v d := by
  cases l
  · exact SdT.same f h
  · exact SdL.same f h
theorem SdT.dx {K : PySem.W.Frag} {H : Hp} {v : V} {d : PyData} (h : SdT K H v d) : Dx K H v d := by
  obtain ⟨b, xs, ds, rfl, rfl, z, r⟩ := h
  exact .tup (.inl (.inl z)) r
theorem SdL.dx {K : PySem.W.Frag} {H : Hp} {v : V} {d : PyData} (h : SdL K H v d) : Dx K H v d := by
  obtain ⟨b, vs, ds, rfl, z, r⟩ := h
  have all : DxAll K H vs ds := by
    clear z
    induction r with
    | nil => exact .nil
    | cons h _ ih => exact .cons h.dx ih
  rcases z with ⟨z, rfl⟩ | ⟨z, rfl⟩
  · exact .lst (.inl (.inl z)) all
  · exact .tup (.inl (.inl z)) all
theorem SdB.dx {K : PySem.W.Frag} {H : Hp} {v : V} {d : PyData} {l : Bool} (h : SdB K H l v d) : Dx K H v d := by
  cases l
  · exact SdT.dx h
  · exact SdL.dx h
def EntOk (K : PySem.W.Frag) (O : Hid) (H : Hp) (dv : V) (ov : Option V) : Ent → Prop
  | .na => True
  | .dat d => ∃ v, ov = some v ∧ Dx K (Fz O H) v d
  | .own ds => ∃ p vs, ov = some (.ref p) ∧ O p ∧ H p = some (.lst vs) ∧ DxAll K (Fz O H) vs ds
  | .rows dss => ∃ p qs, ov = some (.ref p) ∧ O p ∧ H p = some (.lst (qs.map V.ref)) ∧ p ∉ qs ∧ qs.Nodup ∧ RowsOk K O H qs dss
  | .dct kds => ∃ p kvs, ov = some (.ref p) ∧ O p ∧ H p = some (.dT kvs) ∧ KvOk K (Fz O H) kvs kds
  | .dck kds => ∃ p kvs, ov = some (.ref p) ∧ O p ∧ H p = some (.dK kvs) ∧ KvOk K (Fz O H) kvs kds
  | .dk => ov = some dv
  | .tn ds => ∃ p vs o, ov = some (.ref p) ∧ Fz O H p = some (.frz o (.tup vs)) ∧ o.cls = .type "tuple" ∧ o.dict = none ∧ DxAll K (Fz O H) vs ds
  | .sd l d => ∃ v, ov = some v ∧ SdB K (Fz O H) l v d
  | .err a d f => ov = some (.ref a) ∧ (f = none → d = none) ∧ ∀ y x, f = some (y, x) → ∃ dd v, d = some dd ∧ Fz O H dd = some (.xd [(y, v)]) ∧ Dx K (Fz O H) v x
/-- the addresses of one's own in an entry -/
def Hd (H : Hp) (ov : Option V) : Ent → Addr → Prop
  | .own _, q => ov = some (.ref q)
  | .dct _, q => ov = some (.ref q)
  | .dck _, q => ov = some (.ref q)
  | .rows _, q => ov = some (.ref q) ∨ ∃ p vs, ov = some (.ref p) ∧ H p = some (.lst vs) ∧ V.ref q ∈ vs
  | _, _ => False
theorem mem_refs {qs : List Addr} {q : Addr} (h : V.ref q ∈ qs.map V.ref) : q ∈ qs := by
  obtain ⟨x, h1, h2⟩ := List.mem_map.mp h
  cases h2
  exact h1
/-- what an entry says, in another heap that is the same at its own addresses -/
theorem EntOk.shift {K : PySem.W.Frag} {O O' : Hid} {H H' : Hp} {dv : V} {ov : Option V} (o : ∀ p, O p → O' p) (f : Same (Fz O H) (Fz O' H')) : ∀ {e : Ent}, EntOk K O H dv ov e → (∀ q, Hd H ov e q → H' q = H q) → EntOk K O' H' dv ov e
  | .na, _, _ => trivial
  | .dat d, ⟨v, h1, h2⟩, _ => ⟨v, h1, h2.same f⟩
  | .own ds, ⟨p, vs, h1, h2, h3, h4⟩, k => ⟨p, vs, h1, o p h2, (k p h1).trans h3, h4.same f⟩
  | .rows dss, ⟨p, qs, h1, h2, h3, h4, h5, h6⟩, k => ⟨p, qs, h1, o p h2, (k p (.inl h1)).trans h3, h4, h5, h6.shift o f fun q hq => k q (.inr ⟨p, _, h1, h3, List.mem_map_of_mem hq⟩)⟩
  | .dct kds, ⟨p, vs, h1, h2, h3, h4⟩, k => ⟨p, vs, h1, o p h2, (k p h1).trans h3, h4.same f⟩
  | .dck kds, ⟨p, vs, h1, h2, h3, h4⟩, k => ⟨p, vs, h1, o p h2, (k p h1).trans h3, h4.same f⟩
  | .dk, h, _ => h
  | .tn ds, ⟨p, vs, o, h1, h2, h3, h4, h5⟩, _ => ⟨p, vs, o, h1, f p _ h2, h3, h4, h5.same f⟩
  | .sd l d, ⟨v, h1, h2⟩, _ => ⟨v, h1, h2.same f⟩
  | .err a d g, ⟨h, k0, k⟩, _ => ⟨h, k0, fun y x e => by
    obtain ⟨dd, v, h1, h2, h3⟩ := k y x e
    exact ⟨dd, v, h1, f dd _ h2, h3.same f⟩⟩
/-- an entry's own addresses are hidden, and there -/
theorem EntOk.hd {K : PySem.W.Frag} {O : Hid} {H : Hp} {dv : V} {ov : Option V} {q : Addr} {e : Ent} (h : EntOk K O H dv ov e) (k : Hd H ov e q) : O q ∧ ∃ x, H q = some x := by
  cases e with
  | own ds =>
    obtain ⟨p, vs, h1, h2, h3, h4⟩ := h
    rw [show ov = some (.ref q) from k] at h1
    cases h1
    exact ⟨h2, _, h3⟩
  | dct ds =>
    obtain ⟨p, vs, h1, h2, h3, h4⟩ := h
    rw [show ov = some (.ref q) from k] at h1
    cases h1
    exact ⟨h2, _, h3⟩
  | dck ds =>
    obtain ⟨p, vs, h1, h2, h3, h4⟩ := h
    rw [show ov = some (.ref q) from k] at h1
    cases h1
    exact ⟨h2, _, h3⟩
  | rows ds =>
    obtain ⟨p, qs, h1, h2, h3, h4, h5, h6⟩ := h
    rcases (show ov = some (.ref q) ∨ ∃ p vs, ov = some (.ref p) ∧ H p = some (.lst vs) ∧ V.ref q ∈ vs from k) with k | ⟨p', vs, k1, k2, k3⟩
    · rw [k] at h1
      cases h1
      exact ⟨h2, _, h3⟩
    · rw [k1] at h1
      cases h1
      rw [h3] at k2
      cases k2
      obtain ⟨z1, vs, z2⟩ := h6.there q (mem_refs k3)
      exact ⟨z1, _, z2⟩
  | na => exact (show False from k).elim
  | dat d => exact (show False from k).elim
  | dk => exact (show False from k).elim
  | err a d f => exact (show False from k).elim
  | tn ds => exact (show False from k).elim
  | sd l d => exact (show False from k).elim
theorem Hd.eq {K : PySem.W.Frag} {O : Hid} {H H' : Hp} {dv : V} {ov : Option V} {q : Addr} {e : Ent} (h : EntOk K O H dv ov e) (z : ∀ q, Hd H ov e q → H' q = H q) (k : Hd H' ov e q) : Hd H ov e q := by
  cases e with
  | rows ds =>
    obtain ⟨p, qs, h1, h2, h3, h4, h5, h6⟩ := h
    rcases (show ov = some (.ref q) ∨ ∃ p vs, ov = some (.ref p) ∧ H' p = some (.lst vs) ∧ V.ref q ∈ vs from k) with k | ⟨p', vs, k1, k2, k3⟩
    · exact .inl k
    · rw [k1] at h1
      cases h1
      refine .inr ⟨_, vs, k1, ?_, k3⟩
      rw [← z _ (.inl k1)]
      exact k2
  | own ds => exact k
  | dct ds => exact k
  | dck ds => exact k
  | na => exact k
  | dat d => exact k
  | dk => exact k
  | err a d f => exact k
  | tn ds => exact k
  | sd l d => exact k
theorem EntOk.same {K : PySem.W.Frag} {O : Hid} {H H' : Hp} {dv : V} {ov : Option V} (s : Same H H') {e : Ent} (h : EntOk K O H dv ov e) : EntOk K O H' dv ov e :=
  h.shift (fun _ z => z) (s.fz O) fun q k => by
    obtain ⟨_, x, z⟩ := h.hd k
    rw [z]
    exact s q x z
def RepE (K : PySem.W.Frag) (O : Hid) (H : Hp) (dv : V) (σ : L2.St) (ρ : Dn) : Prop := ρ.length = σ.length ∧ ∀ (i : Nat) (e : Ent), ρ[i]? = some e → ∃ ov, σ[i]? = some ov ∧ EntOk K O H dv ov e
section
variable {K : PySem.W.Frag} {O : Hid} {H H' : Hp} {dv : V} {σ : L2.St} {ρ : Dn}
theorem RepE.same (h : RepE K O H dv σ ρ) (s : Same H H') : RepE K O H' dv σ ρ := ⟨h.1, fun i e q => by
  obtain ⟨ov, h1, h2⟩ := h.2 i e q
  exact ⟨ov, h1, h2.same s⟩⟩
theorem RepE.set (h : RepE K O H dv σ ρ) {ov : Option V} {e : Ent} (k : EntOk K O H dv ov e) (i : Nat) : RepE K O H dv (σ.set i ov) (ρ.set i e) := ⟨by rw [List.length_set, List.length_set]; exact h.1, fun j f q => by
  by_cases hj : i = j
  · subst hj
    have lt : i < ρ.length := by
      have := (List.getElem?_eq_some_iff.mp q).1
      rwa [List.length_set] at this
    rw [List.getElem?_set_self lt] at q
    cases q
    exact ⟨ov, List.getElem?_set_self (by rw [← h.1]; exact lt), k⟩
  · rw [List.getElem?_set_ne hj] at q
    rw [List.getElem?_set_ne hj]
    exact h.2 j f q⟩
def wipeE (ρ : Dn) : List Nat → Dn
  | [] => ρ
  | v :: vs => (wipeE ρ vs).set v .na
theorem RepE.wipe (h : RepE K O H dv σ ρ) : ∀ vs : List Nat, RepE K O H dv (wipe σ vs) (wipeE ρ vs)
  | [] => h
  | v :: vs => RepE.set (h.wipe vs) (ov := none) (e := .na) trivial v
end
/-! ### pure expressions: what they give, of the slots as data -/
abbrev DF := Dn → Option PyData
def tF (K : PySem.W.Frag) (f : DF) : TE := fun σ H Q => ∃ O dv ρ d, Al O H ∧ RepE K O H dv σ ρ ∧ f ρ = some d ∧ ∀ v H', Same H H' → Dx K (Fz O H') v d → Q v H'
structure PF (X : Cx) (e : Expr) (f : DF) : Prop where
  pe : PE X e (tF X.K f)
def tFT (K : PySem.W.Frag) (f : Dn → Option Bool) : TT := fun σ H Q => ∃ O dv ρ b, Al O H ∧ RepE K O H dv σ ρ ∧ f ρ = some b ∧ ∀ H', Same H H' → Q b H'
structure PFT (X : Cx) (e : Expr) (f : Dn → Option Bool) : Prop where
  pt : PT X e (tFT X.K f)
def tFA (K : PySem.W.Frag) (f : Dn → Option (List PyData)) : TA := fun σ H Q => ∃ O dv ρ ds, Al O H ∧ RepE K O H dv σ ρ ∧ f ρ = some ds ∧ ∀ vs H', Same H H' → DxAll K (Fz O H') vs ds → Q vs H'
structure PFA (X : Cx) (es : List Expr) (f : Dn → Option (List PyData)) : Prop where
  pa : PA X es (tFA X.K f)
theorem _root_.L2.PE.imp {X : Cx} {e : Expr} {t t' : TE} (h : PE X e t) (k : ∀ σ H Q, t' σ H Q → t σ H Q) : PE X e t' := ⟨fun pins s σ H Q I q => h.run pins s σ H Q I (k σ H Q q)⟩
theorem _root_.L2.PT.imp {X : Cx} {e : Expr} {t t' : TT} (h : PT X e t) (k : ∀ σ H Q, t' σ H Q → t σ H Q) : PT X e t' := ⟨fun pins s σ H Q I q => h.run pins s σ H Q I (k σ H Q q)⟩
theorem _root_.L2.PA.imp {X : Cx} {es : List Expr} {t t' : TA} (h : PA X es t) (k : ∀ σ H Q, t' σ H Q → t σ H Q) : PA X es t' := ⟨fun pos pins s σ H Q I q => h.run pos pins s σ H Q I (k σ H Q q)⟩
theorem _root_.L2.PS.imp {X : Cx} {st : Stmt} {t t' : TS} (h : PS X st t) (k : ∀ D σ H, t' D σ H → t D σ H) : PS X st t' := ⟨fun pins s σ H D I q => h.run pins s σ H D I (k D σ H q)⟩
theorem _root_.L2.PSs.imp {X : Cx} {st : List Stmt} {t t' : TS} (h : PSs X st t) (k : ∀ D σ H, t' D σ H → t D σ H) : PSs X st t' := ⟨fun pins s σ H D I q => h.run pins s σ H D I (k D σ H q)⟩
theorem _root_.L2.PI.imp {X : Cx} {tg e : Expr} {t t' : TI} (h : PI X tg e t) (k : ∀ σ H Q, t' σ H Q → t σ H Q) : PI X tg e t' := ⟨fun pins s σ H Q I q => h.run pins s σ H Q I (k σ H Q q)⟩
section
variable {X : Cx} {a b : Expr} {fa fb : DF} {pos : Pos}
/-! names, constants -/
def getD (i : Nat) : DF := fun ρ => match ρ[i]? with | some (.dat d) => some d | some (.tn ds) => some (.tuple ds) | some (.sd _ d) => some d | _ => none
theorem getD_some {i : Nat} {ρ : Dn} {d : PyData} (h : getD i ρ = some d) : ρ[i]? = some (.dat d) ∨ (∃ ds, ρ[i]? = some (.tn ds) ∧ d = .tuple ds) ∨ ∃ l, ρ[i]? = some (.sd l d) := by
  unfold getD at h
  split at h
  · rename_i e
    cases h
    exact .inl e
  · rename_i ds e
    cases h
    exact .inr (.inl ⟨ds, e, rfl⟩)
  · rename_i l d2 e
    cases h
    exact .inr (.inr ⟨l, e⟩)
  · cases h
theorem pf_var {i : Nat} {x : Str} (hN : X.N[i]? = some x) (hv : Vis X.env.scope x) (hd : (x == ("__debug__" : Str)) = false := by decide) (hcd : (x == ("__classdict__" : Str)) = false := by decide) : PF X (.Name x pos) (getD i) :=
  ⟨(pe_var hN hv hd hcd).imp fun σ H Q ⟨O, dv, ρ, d, al, r, e, q⟩ => by
    rcases getD_some e with e' | ⟨ds, e', rfl⟩ | ⟨l, e'⟩
    · obtain ⟨ov, h1, v, rfl, h3⟩ := r.2 i _ e'
      exact ⟨v, h1, q v H (Same.refl H) h3⟩
    · obtain ⟨ov, h1, p, vs, o, rfl, h3, _, _, h5⟩ := r.2 i _ e'
      exact ⟨.ref p, h1, q (.ref p) H (Same.refl H) (.tup (.inl (.inr ⟨o, h3⟩)) h5)⟩
    · obtain ⟨ov, h1, v, rfl, h3⟩ := r.2 i _ e'
      exact ⟨v, h1, q v H (Same.refl H) h3.dx⟩⟩
def cD (d : PyData) : DF := fun _ => some d
theorem pf_int {i j} : PF X (.Constant (.int i) j pos) (cD (.int i)) := ⟨pe_int.imp fun σ H Q ⟨O, dv, ρ, d, al, r, e, q⟩ => by cases e; exact q _ _ (Same.refl H) (.int i)⟩
theorem pf_bl {i j} : PF X (.Constant (.bool i) j pos) (cD (.bool i)) := ⟨pe_bl.imp fun σ H Q ⟨O, dv, ρ, d, al, r, e, q⟩ => by cases e; exact q _ _ (Same.refl H) (.bl i)⟩
theorem pf_non {j} : PF X (.Constant .none j pos) (cD .none) := ⟨pe_non.imp fun σ H Q ⟨O, dv, ρ, d, al, r, e, q⟩ => by cases e; exact q _ _ (Same.refl H) .non⟩
theorem pf_str {x j} : PF X (.Constant (.str x) j pos) (cD (.str x)) := ⟨pe_str.imp fun σ H Q ⟨O, dv, ρ, d, al, r, e, q⟩ => by cases e; exact q _ _ (Same.refl H) (.str x)⟩
/-! arguments, displays -/
def nilA : Dn → Option (List PyData) := fun _ => some []
def consA (f : DF) (g : Dn → Option (List PyData)) : Dn → Option (List PyData) := fun ρ => (f ρ).bind fun d => (g ρ).bind fun ds => some (d :: ds)
theorem pfa_nil : PFA X [] nilA := ⟨pa_nil.imp fun σ H Q ⟨O, dv, ρ, d, al, r, e, q⟩ => by cases e; exact q _ _ (Same.refl H) .nil⟩
theorem pfa_cons {e : Expr} {es : List Expr} {f : DF} {g : Dn → Option (List PyData)} (ha : PF X e f) (hr : PFA X es g) (hs : starEach (e :: es) X.env = (false, eval e X.env) :: starEach es X.env := by rfl) : PFA X (e :: es) (consA f g) :=
  ⟨(pa_cons ha.pe hr.pa hs).imp fun σ H Q ⟨O, dv, ρ, ds, al, r, e, q⟩ => by
    obtain ⟨d, e1, e⟩ := Option.bind_eq_some_iff.mp e
    obtain ⟨es, e2, e⟩ := Option.bind_eq_some_iff.mp e
    cases e
    refine ⟨O, dv, ρ, d, al, r, e1, fun v H1 s1 h1 => ⟨O, dv, ρ, es, al.same s1, r.same s1, e2, fun vs H2 s2 h2 => ?_⟩⟩
    exact q _ _ (s1.trans s2) (.cons (h1.same (s2.fz O)) h2)⟩
def lim : Nat := 1000000
theorem lim_le {n : Nat} (h : n < lim) : n < sizeLine := Nat.lt_trans h (by rw [sizeLine_eq]; decide)
def tupF (g : Dn → Option (List PyData)) : DF := fun ρ => (g ρ).bind fun ds => if ds.length < lim then some (.tuple ds) else none
theorem new_same {H : Hp} {p : Addr} {o : HO} (h : H p = none) : Same H (upd H p o) := fun b x e => by
  rw [upd_ne (ne_of_none e h)]
  exact e
theorem DxAll.new {K : PySem.W.Frag} {O : Hid} {H : Hp} {p : Addr} {o : HO} {vs : List V} {ds : List PyData} (al : Al O H) (n : H p = none) (h : DxAll K (Fz O H) vs ds) : DxAll K (Fz O (upd H p o)) vs ds := h.same (L2.Same.fz (new_same n) O)
theorem Dx.newT {K : PySem.W.Frag} {O : Hid} {H : Hp} {p : Addr} {vs : List V} {ds : List PyData} (al : Al O H) (n : H p = none) (h : DxAll K (Fz O H) vs ds) : Dx K (Fz O (upd H p (.tup vs))) (.ref p) (.tuple ds) :=
  .tup (.inl (.inl (by rw [fz_out (al.new n), upd_same]))) (h.new al n)
theorem Dx.newL {K : PySem.W.Frag} {O : Hid} {H : Hp} {p : Addr} {vs : List V} {ds : List PyData} (al : Al O H) (n : H p = none) (h : DxAll K (Fz O H) vs ds) : Dx K (Fz O (upd H p (.lst vs))) (.ref p) (.list ds) :=
  .lst (.inl (.inl (by rw [fz_out (al.new n), upd_same]))) (h.new al n)
/-! a new list -/
def hide (O : Hid) (p : Addr) : Hid := fun a => O a ∨ a = p
def tFL (K : PySem.W.Frag) (f : Dn → Option (List PyData)) : TE := fun σ H Q => ∃ O dv ρ ds, Al O H ∧ RepE K O H dv σ ρ ∧ f ρ = some ds ∧ ∀ p vs H', Same H H' → H p = none → H' p = some (.lst vs) → DxAll K (Fz (hide O p) H') vs ds → Q (.ref p) H'
structure PFL (X : Cx) (e : Expr) (f : Dn → Option (List PyData)) : Prop where
  pe : PE X e (tFL X.K f)
def lstI (f : Dn → Option (List PyData)) : DF := fun ρ => (f ρ).map .list
theorem PFL.pf {e : Expr} {f : Dn → Option (List PyData)} (h : PFL X e f) : PF X e (lstI f) := ⟨h.pe.imp fun σ H Q ⟨O, dv, ρ, d, al, r, e, q⟩ => by
  obtain ⟨ds, e1, rfl⟩ := Option.map_eq_some_iff.mp e
  refine ⟨O, dv, ρ, ds, al, r, e1, fun p vs H' s np hp dx => q _ H' s (.lst (.inl (.inl ?_)) (dx.same (fz_less (fun b z => .inl z) H')))⟩
  rw [fz_out (al.new np)]
  exact hp⟩
theorem DxAll.hide {K : PySem.W.Frag} {O : Hid} {H : Hp} {p : Addr} {o : HO} {vs : List V} {ds : List PyData} (n : H p = none) (h : DxAll K (Fz O H) vs ds) : DxAll K (Fz (hide O p) (upd H p o)) vs ds := h.same fun b x z => by
  obtain ⟨z1, z2⟩ := fz_get z
  have ne := ne_of_none z1 n
  rw [fz_out fun w => w.elim z2 ne, upd_ne ne]
  exact z1
theorem pf_tup {es : List Expr} {x1} {g : Dn → Option (List PyData)} (h : PFA X es g) : PF X (.Tuple es x1 pos) (tupF g) :=
  ⟨(pe_tup h.pa).imp fun σ H Q ⟨O, dv, ρ, d, al, r, e, q⟩ => by
    obtain ⟨ds, e1, e⟩ := Option.bind_eq_some_iff.mp e
    split at e
    case isFalse => cases e
    cases e
    rename_i hl
    refine ⟨O, dv, ρ, ds, al, r, e1, fun vs H1 s1 h1 => ⟨Nat.le_of_lt (lim_le (by rw [h1.len]; exact hl)), fun p np => ?_⟩⟩
    exact q _ _ (s1.trans (new_same np)) (Dx.newT (al.same s1) np h1)⟩
def limA (g : Dn → Option (List PyData)) : Dn → Option (List PyData) := fun ρ => (g ρ).bind fun ds => if ds.length < lim then some ds else none
theorem pfl_lst {es : List Expr} {g : Dn → Option (List PyData)} (h : PFA X es g) : PFL X (.List es pos) (limA g) :=
  ⟨(pe_lst h.pa).imp fun σ H Q ⟨O, dv, ρ, d, al, r, e, q⟩ => by
    obtain ⟨ds, e1, e⟩ := Option.bind_eq_some_iff.mp e
    split at e
    case isFalse => cases e
    cases e
    rename_i hl
    refine ⟨O, dv, ρ, d, al, r, e1, fun vs H1 s1 h1 => ⟨Nat.le_of_lt (lim_le (by rw [h1.len]; exact hl)), fun p np => ?_⟩⟩
    exact q p vs _ (s1.trans (new_same np)) (s1.free np) upd_same (h1.hide np)⟩
/-! operations by values -/
/-- what an operation gives, by data -/
def r2F (K : PySem.W.Frag) (g : PyData → PyData → Option PyData) : R2 := fun x y H Q => ∃ O d e c, Al O H ∧ Dx K (Fz O H) x d ∧ Dx K (Fz O H) y e ∧ g d e = some c ∧ ∀ v H', Same H H' → Dx K (Fz O H') v c → Q v H'
def bin2 (g : PyData → PyData → Option PyData) (fa fb : DF) : DF := fun ρ => (fa ρ).bind fun d => (fb ρ).bind fun e => g d e
theorem t2F {K : PySem.W.Frag} {g : PyData → PyData → Option PyData} {σ : L2.St} {H : Hp} {Q : VK} (h : tF K (bin2 g fa fb) σ H Q) : tOp (r2F K g) (tF K fa) (tF K fb) σ H Q := by
  obtain ⟨O, dv, ρ, d, al, r, e, q⟩ := h
  obtain ⟨x, e1, e⟩ := Option.bind_eq_some_iff.mp e
  obtain ⟨y, e2, e⟩ := Option.bind_eq_some_iff.mp e
  refine ⟨O, dv, ρ, x, al, r, e1, fun v H1 s1 h1 => ⟨O, dv, ρ, y, al.same s1, r.same s1, e2, fun u H2 s2 h2 => ?_⟩⟩
  exact ⟨O, x, y, d, (al.same s1).same s2, h1.same (s2.fz O), h2, e, fun w H3 s3 h3 => q w H3 ((s1.trans s2).trans s3) h3⟩
theorem pf_op {op : Operator} {g : PyData → PyData → Option PyData} (ho : OpR X (binaryOp op) (r2F X.K g)) (ha : PF X a fa) (hb : PF X b fb) : PF X (.BinOp a op b pos) (bin2 g fa fb) :=
  ⟨(pe_op ho ha.pe hb.pe).imp fun _ _ _ h => t2F h⟩
theorem pf_cmp {op : CmpOp} {g : PyData → PyData → Option PyData} (ho : OpR X (compareOp op) (r2F X.K g)) (ha : PF X a fa) (hb : PF X b fb) (hm : behindInMarks op b = false) : PF X (.Compare a [op] [b] pos) (bin2 g fa fb) :=
  ⟨(pe_cmpR ho ha.pe hb.pe hm).imp fun _ _ _ h => t2F h⟩
def toB : PyData → Option Bool
  | .bool b => some b
  | _ => none
theorem toB_some {d : PyData} {b : Bool} (h : toB d = some b) : d = .bool b := by
  cases d <;> simp [toB] at h
  rw [h]
def tstF (f : DF) : Dn → Option Bool := fun ρ => (f ρ).bind toB
theorem pft_cmp {op : CmpOp} {g : PyData → PyData → Option PyData} (ho : OpR X (compareOp op) (r2F X.K g)) (ha : PF X a fa) (hb : PF X b fb) (hm : behindInMarks op b = false) : PFT X (.Compare a [op] [b] pos) (tstF (bin2 g fa fb)) :=
  ⟨(pt_cmpR ho ha.pe hb.pe hm).imp fun σ H Q ⟨O, dv, ρ, t, al, r, e, q⟩ => by
    obtain ⟨d, e1, e2⟩ := Option.bind_eq_some_iff.mp e
    rw [toB_some e2] at e1
    refine t2F ⟨O, dv, ρ, _, al, r, e1, fun v H' s h => ?_⟩
    cases h
    exact ⟨_, rfl, q H' s⟩⟩
/-- a bool's expression as a test -/
theorem pft_val {e : Expr} {f : DF} (h : PF X e f) (he : ∀ whole, isTrue e X.env whole = (do let v ← whole; standAt e.pos; holding [v] (truthy v)) := by intro _; rfl) : PFT X e (tstF f) :=
  ⟨(pt_val h.pe he).imp fun σ H Q ⟨O, dv, ρ, t, al, r, e, q⟩ => by
    obtain ⟨d, e1, e2⟩ := Option.bind_eq_some_iff.mp e
    rw [toB_some e2] at e1
    refine ⟨O, dv, ρ, _, al, r, e1, fun v H' s h => ?_⟩
    cases h
    exact ⟨_, rfl, q H' s⟩⟩
end
end DS
namespace DS
open PySem PySem.Spec PyProof.Rows L2
/-! ### iterators over data -/
def ItD (K : PySem.W.Frag) (O : Hid) (H1 : Hp) (J : It) (xs : List PyData) : Prop := ∀ O' H, Same (Fz O H1) (Fz O' H) → Al O' H →
  (∀ i, i < xs.length → J.go i H) ∧ J.stop xs.length H ∧ ∀ i x H2 d, xs[i]? = some d → J.yld i H x H2 → Same H H2 ∧ Dx K (Fz O' H2) x d
def iF (K : PySem.W.Frag) (f : Dn → Option (List PyData)) : TI := fun σ H R => ∃ O dv ρ xs, Al O H ∧ RepE K O H dv σ ρ ∧ f ρ = some xs ∧ ∀ J H', Same H H' → ItD K O H' J xs → R J H'
structure PIF (X : Cx) (tg e : Expr) (f : Dn → Option (List PyData)) : Prop where
  pi : PI X tg e (iF X.K f)
theorem _root_.L2.PI.or {X : Cx} {tg e : Expr} {t u : TI} (h : PI X tg e t) (k : PI X tg e u) : PI X tg e (fun σ H R => t σ H R ∨ u σ H R) := ⟨fun pins s σ H R I q => q.elim (h.run pins s σ H R I) (k.run pins s σ H R I)⟩
section
variable {K : PySem.W.Frag} {O : Hid} {H : Hp} {a : Addr} {vs : List V} {ds : List PyData}
theorem itd_list (h : SqL K (Fz O H) a vs) (r : DxAll K (Fz O H) vs ds) : ItD K O H (Itl K a) ds := fun O' H' s al => by
  have h1 : SqL K H' a vs := (s.trans (fz_sub O' H')).seq h
  have ln := r.len
  refine ⟨fun i hi => ?_, ⟨vs, h1, Nat.le_of_eq ln⟩, fun i x H2 d e y => ?_⟩
  · exact ⟨vs, vs[i]'(by omega), h1, by simp⟩
  · obtain ⟨rfl, y⟩ := y
    obtain ⟨v, e1, e2⟩ := r.get e
    have := y vs h1
    rw [e1] at this
    cases this
    exact ⟨Same.refl _, e2.same s⟩
theorem itd_tup (h : SqT K (Fz O H) a vs) (r : DxAll K (Fz O H) vs ds) : ItD K O H (Itt K a) ds := fun O' H' s al => by
  have h1 : SqT K H' a vs := sqT_same (s.trans (fz_sub O' H')) h
  have ln := r.len
  refine ⟨fun i hi => ?_, ⟨vs, h1, Nat.le_of_eq ln⟩, fun i x H2 d e y => ?_⟩
  · exact ⟨vs, vs[i]'(by omega), h1, by simp⟩
  · obtain ⟨rfl, y⟩ := y
    obtain ⟨v, e1, e2⟩ := r.get e
    have := y vs h1
    rw [e1] at this
    cases this
    exact ⟨Same.refl _, e2.same s⟩
def rngD (lo : Int) (n : Nat) : List PyData := (List.range n).map fun i => .int (lo + (i : Nat))
theorem itd_range (lo : Int) (n : Nat) : ItD K O H (Itr lo n) (rngD lo n) := fun O' H' s al => by
  have ln : (rngD lo n).length = n := by simp [rngD]
  refine ⟨fun i hi => by rw [ln] at hi; exact hi, by rw [ln]; exact Nat.le_refl _, fun i x H2 d e y => ?_⟩
  obtain ⟨rfl, rfl⟩ := y
  unfold rngD at e
  rw [List.getElem?_map] at e
  cases q : (List.range n)[i]? with
  | none => rw [q] at e; cases e
  | some j =>
    rw [q] at e
    have : j = i := by
      have := (List.getElem?_eq_some_iff.mp q).2
      simpa using this.symm
    subst this
    cases e
    exact ⟨Same.refl _, .int _⟩
end
def itemsD : PyData → Option (List PyData)
  | .list ds => some ds
  | .tuple ds => some ds
  | _ => none
def seqI (f : DF) : Dn → Option (List PyData) := fun ρ => (f ρ).bind itemsD
section
variable {X : Cx} {tg e : Expr} {f : DF} {pos p : Pos}
/-- over a list or a tuple -/
theorem pif_seq (h : PF X e f) : PIF X tg e (seqI f) := ⟨((pi_list h.pe).or (pi_tup h.pe)).imp fun σ H R ⟨O, dv, ρ, xs, al, r, e, q⟩ => by
  obtain ⟨d, e1, e2⟩ := Option.bind_eq_some_iff.mp e
  cases d with
  | list ds =>
    cases e2
    refine .inl ⟨O, dv, ρ, _, al, r, e1, fun v H' s hv => ?_⟩
    cases hv with
    | lst hs ha => exact ⟨_, rfl, ⟨_, (fz_sub O H').seq hs⟩, q _ H' s (itd_list hs ha)⟩
  | tuple ds =>
    cases e2
    refine .inr ⟨O, dv, ρ, _, al, r, e1, fun v H' s hv => ?_⟩
    cases hv with
    | tup hs ha => exact ⟨_, rfl, ⟨_, sqT_same (fz_sub O H') hs⟩, q _ H' s (itd_tup hs ha)⟩
  | _ => cases e2⟩
def toI : PyData → Option Int
  | .int i => some i
  | _ => none
theorem toI_some {d : PyData} {i : Int} (h : toI d = some i) : d = .int i := by
  cases d <;> simp [toI] at h
  rw [h]
def okR (i : Int) : Bool := decide (-1000000 ≤ i ∧ i ≤ 1000000)
def rng1I (f : DF) : Dn → Option (List PyData) := fun ρ => (f ρ).bind fun d => (toI d).bind fun j => if okR j then some (rngD 0 j.toNat) else none
def rng2I (f g : DF) : Dn → Option (List PyData) := fun ρ => (f ρ).bind fun d => (toI d).bind fun i => (g ρ).bind fun d => (toI d).bind fun j => if okR i && okR j then some (rngD i (j - i).toNat) else none
theorem okR_of {i : Int} (h : okR i = true) : -(2 ^ 62) ≤ i ∧ i < 2 ^ 62 := by
  unfold okR at h
  have := of_decide_eq_true h
  omega
theorem pif_range1 (hg : Gl X "range") (hm : X.mg "range" = none) (ha : PF X e f) (hs : starEach [e] X.env = [(false, eval e X.env)] := by rfl) : PIF X tg (.Call (.Name "range" p) [e] [] pos) (rng1I f) :=
  ⟨(pi_range1 hg hm (pa_cons ha.pe pa_nil (by rw [hs]; rfl)) hs).imp fun σ H R ⟨O, dv, ρ, xs, al, r, e, q⟩ => by
    obtain ⟨d, e1, e⟩ := Option.bind_eq_some_iff.mp e
    obtain ⟨j, e2, e⟩ := Option.bind_eq_some_iff.mp e
    rw [toI_some e2] at e1
    split at e
    case isFalse => cases e
    rename_i hj
    cases e
    refine ⟨O, dv, ρ, _, al, r, e1, fun v H' s hv => ?_⟩
    cases hv
    exact ⟨j, rfl, (okR_of hj).1, (okR_of hj).2, q _ H' s (itd_range 0 _)⟩⟩
theorem pif_range2 {e2 : Expr} {f2 : DF} (hg : Gl X "range") (hm : X.mg "range" = none) (ha : PF X e f) (hb : PF X e2 f2) (hs : starEach [e, e2] X.env = [(false, eval e X.env), (false, eval e2 X.env)] := by rfl) (hs2 : starEach [e2] X.env = [(false, eval e2 X.env)] := by rfl) : PIF X tg (.Call (.Name "range" p) [e, e2] [] pos) (rng2I f f2) :=
  ⟨(pi_range2 hg hm (pa_cons ha.pe (pa_cons hb.pe pa_nil (by rw [hs2]; rfl)) (by rw [hs, hs2])) hs hs2).imp fun σ H R ⟨O, dv, ρ, xs, al, r, e, q⟩ => by
    obtain ⟨d, e1, e⟩ := Option.bind_eq_some_iff.mp e
    obtain ⟨i, e2, e⟩ := Option.bind_eq_some_iff.mp e
    obtain ⟨d2, e3, e⟩ := Option.bind_eq_some_iff.mp e
    obtain ⟨j, e4, e⟩ := Option.bind_eq_some_iff.mp e
    rw [toI_some e2] at e1
    rw [toI_some e4] at e3
    split at e
    case isFalse => cases e
    rename_i hj
    have hj := Bool.and_eq_true_iff.mp hj
    cases e
    refine ⟨O, dv, ρ, _, al, r, e1, fun v H' s hv => ⟨O, dv, ρ, _, al.same s, r.same s, e3, fun v2 H2 s2 hv2 => ?_⟩⟩
    cases hv
    cases hv2
    exact ⟨i, j, rfl, ⟨(okR_of hj.1).1, (okR_of hj.1).2, (okR_of hj.2).1, (okR_of hj.2).2⟩, q _ H2 (s.trans s2) (itd_range i _)⟩⟩
end
/-! ### targets -/
theorem wipe_get (σ : L2.St) : ∀ (vs : List Nat) (j : Nat), (wipe σ vs)[j]? = if j ∈ vs then σ[j]?.map (fun _ => none) else σ[j]?
  | [], j => by simp [wipe]
  | v :: vs, j => by
    unfold wipe
    by_cases h : v = j
    · subst h
      rw [if_pos List.mem_cons_self]
      by_cases lt : v < (wipe σ vs).length
      · rw [List.getElem?_set_self lt]
        rw [wipe_length] at lt
        rw [List.getElem?_eq_getElem lt]
        rfl
      · rw [List.getElem?_eq_none (by rw [List.length_set]; omega)]
        rw [wipe_length] at lt
        rw [List.getElem?_eq_none (by omega)]
        rfl
    · rw [List.getElem?_set_ne h, wipe_get σ vs j]
      have : (j ∈ v :: vs) ↔ j ∈ vs := by simp [Ne.symm h]
      by_cases k : j ∈ vs
      · rw [if_pos k, if_pos (this.mpr k)]
      · rw [if_neg k, if_neg fun z => k (this.mp z)]
theorem wipe_set {σ : L2.St} {vs : List Nat} {i : Nat} {ov : Option V} (h : i ∈ vs) : wipe (σ.set i ov) vs = wipe σ vs := by
  refine List.ext_getElem? fun j => ?_
  rw [wipe_get, wipe_get]
  by_cases k : j ∈ vs
  · rw [if_pos k, if_pos k]
    by_cases e : i = j
    · subst e
      by_cases lt : i < σ.length
      · rw [List.getElem?_set_self lt, List.getElem?_eq_getElem lt]
        rfl
      · rw [List.getElem?_eq_none (by rw [List.length_set]; omega), List.getElem?_eq_none (by omega)]
    · rw [List.getElem?_set_ne e]
  · rw [if_neg k, if_neg k]
    have e : i ≠ j := fun z => k (z ▸ h)
    rw [List.getElem?_set_ne e]
theorem wipe_wipe (σ : L2.St) (vs : List Nat) : wipe (wipe σ vs) vs = wipe σ vs := by
  refine List.ext_getElem? fun j => ?_
  rw [wipe_get, wipe_get]
  by_cases k : j ∈ vs
  · rw [if_pos k, if_pos k, Option.map_map]
    rfl
  · rw [if_neg k, if_neg k]
def tG (K : PySem.W.Frag) (sl : List Nat) (g : PyData → Dn → Option Dn) : TG := fun v σ H Q => ∃ O dv ρ d ρ2, Al O H ∧ RepE K O H dv σ ρ ∧ Dx K (Fz O H) v d ∧ g d ρ = some ρ2 ∧
  ∀ σ2, RepE K O H dv σ2 ρ2 → (∀ vs : List Nat, (∀ i ∈ sl, i ∈ vs) → wipe σ2 vs = wipe σ vs) → Q σ2 H
structure PGF (X : Cx) (tg : Expr) (sl : List Nat) (g : PyData → Dn → Option Dn) : Prop where
  pg : PG X tg (tG X.K sl g)
theorem _root_.L2.PG.imp {X : Cx} {tg : Expr} {t t' : TG} (h : PG X tg t) (k : ∀ v σ H Q, t' v σ H Q → t v σ H Q) : PG X tg t' := ⟨fun pins s σ H v u Q I r q => h.run pins s σ H v u Q I r (k v σ H Q q)⟩
def setN (i : Nat) : PyData → Dn → Option Dn := fun d ρ => some (ρ.set i (.dat d))
theorem pgf_name {X : Cx} {pos : Pos} {i : Nat} {x : Str} (hN : X.N.Nodup) (hi : X.N[i]? = some x) (hx : Loc X.env.scope x) (hf : X.fn x = true ∨ X.env.scope.names.lookup x = some .local := by first | exact .inl rfl | exact .inr rfl | assumption) : PGF X (.Name x pos) [i] (setN i) :=
  ⟨(pg_name hN hi hx hf).imp fun v σ H Q ⟨O, dv, ρ, d, ρ2, al, r, dx, e, q⟩ => by
    cases e
    exact q _ (r.set (ov := some v) (e := .dat d) ⟨v, rfl, dx⟩ i) fun vs h => wipe_set (h i List.mem_cons_self)⟩
/-- a, b, .. = a tuple's items -/
def setMany : List Nat → List PyData → Dn → Option Dn
  | [], [], ρ => some ρ
  | i :: is, d :: ds, ρ => setMany is ds (ρ.set i (.dat d))
  | _, _, _ => none
def tGs (K : PySem.W.Frag) (sl : List Nat) : TGs := fun vs σ H Q => ∃ O dv ρ ds ρ2, Al O H ∧ RepE K O H dv σ ρ ∧ DxAll K (Fz O H) vs ds ∧ setMany sl ds ρ = some ρ2 ∧
  ∀ σ2, RepE K O H dv σ2 ρ2 → (∀ vs : List Nat, (∀ i ∈ sl, i ∈ vs) → wipe σ2 vs = wipe σ vs) → Q σ2 H
structure PGsF (X : Cx) (es : List Expr) (sl : List Nat) : Prop where
  pgs : PGs X es (tGs X.K sl)
theorem pgsf_nil {X : Cx} : PGsF X [] [] := ⟨⟨fun pins s σ H vs us Q I r ⟨O, dv, ρ, ds, ρ2, al, re, dx, e, q⟩ => pgs_nil.run pins s σ H vs us Q I r (by
  cases ds with
  | nil =>
    cases dx
    cases e
    exact ⟨rfl, q σ re fun _ _ => rfl⟩
  | cons d ds => cases e)⟩⟩
theorem pgsf_cons {X : Cx} {x : Str} {pos : Pos} {es : List Expr} {i : Nat} {sl : List Nat} (hN : X.N.Nodup) (hi : X.N[i]? = some x) (hx : Loc X.env.scope x) (h2 : PGsF X es sl)
    (hf : X.fn x = true ∨ X.env.scope.names.lookup x = some .local := by first | exact .inl rfl | exact .inr rfl | assumption) (hs : (assignEach (.Name x pos :: es) X.env).map (·.2) = assign (.Name x pos) X.env :: (assignEach es X.env).map (·.2) := by rfl) : PGsF X (.Name x pos :: es) (i :: sl) :=
  ⟨⟨fun pins s σ H vs us Q I r ⟨O, dv, ρ, ds, ρ2, al, re, dx, e, q⟩ => (pgs_cons (pg_name hN hi hx hf) h2.pgs hs).run pins s σ H vs us Q I r (by
    cases ds with
    | nil => cases e
    | cons d ds =>
      cases dx with
      | cons dh dr =>
        refine ⟨_, _, rfl, O, dv, _, ds, ρ2, al, re.set (ov := some _) (e := .dat d) ⟨_, rfl, dh⟩ i, dr, e, fun σ2 h3 h4 => q σ2 h3 fun ws hw => ?_⟩
        rw [h4 ws fun j hj => hw j (List.mem_cons_of_mem _ hj), wipe_set (hw i List.mem_cons_self)])⟩⟩
def tupD : PyData → Option (List PyData)
  | .tuple ds => some ds
  | _ => none
def setT (sl : List Nat) : PyData → Dn → Option Dn := fun d ρ => (tupD d).bind fun ds => if ds.length = sl.length then setMany sl ds ρ else none
theorem pgf_tup {X : Cx} {es : List Expr} {k : Nat} {pos : Pos} {sl : List Nat} (hc : X.calm = true) (h : PGsF X es sl) (hn : (assignEach es X.env).length = sl.length := by rfl) (hst : (assignEach es X.env).findIdx? (·.1) = none := by rfl) : PGF X (.Tuple es k pos) sl (setT sl) :=
  ⟨(pg_tup hc h.pgs hn hst).imp fun v σ H Q ⟨O, dv, ρ, d, ρ2, al, r, dx, e, q⟩ => by
    obtain ⟨ds, e1, e2⟩ := Option.bind_eq_some_iff.mp e
    split at e2
    case isFalse => cases e2
    rename_i hl
    cases dx with
    | tup hs ha =>
      cases e1
      exact ⟨_, _, rfl, sqT_same (fz_sub O H) hs, by rw [ha.len]; exact hl, O, dv, ρ, _, ρ2, al, r, ha, e2, q⟩
    | _ => cases e1⟩
/-! ### comprehensions -/
def compM (h : PyData → Option (Option PyData)) : List PyData → Option (List PyData)
  | [] => some []
  | x :: xs => (h x).bind fun o => (compM h xs).bind fun ys => some (o.toList ++ ys)
theorem compM_snoc (h : PyData → Option (Option PyData)) (x : PyData) : ∀ xs : List PyData, compM h (xs ++ [x]) = (compM h xs).bind fun ys => (h x).bind fun o => some (ys ++ o.toList)
  | [] => by
    simp only [List.nil_append, compM]
    cases h x <;> simp
  | y :: xs => by
    simp only [List.cons_append, compM]
    rw [compM_snoc h x xs]
    cases h y <;> cases compM h xs <;> cases h x <;> simp
theorem compM_take {h : PyData → Option (Option PyData)} {xs ys : List PyData} (e : compM h xs = some ys) (i : Nat) : ∃ zs, compM h (xs.take i) = some zs ∧ zs.length ≤ i := by
  induction xs generalizing i ys with
  | nil => exact ⟨[], by simp [compM], Nat.zero_le _⟩
  | cons x xs ih =>
    simp only [compM] at e
    obtain ⟨o, e1, e⟩ := Option.bind_eq_some_iff.mp e
    obtain ⟨zs, e2, e⟩ := Option.bind_eq_some_iff.mp e
    cases i with
    | zero => exact ⟨[], rfl, Nat.le_refl _⟩
    | succ i =>
      obtain ⟨ws, e3, l⟩ := ih e2 i
      refine ⟨o.toList ++ ws, by simp [List.take_succ_cons, compM, e1, e3], ?_⟩
      have : o.toList.length ≤ 1 := by cases o <;> simp
      rw [List.length_append]
      omega
/-- .. where each item is known -/
theorem compM_eq {h : PyData → Option (Option PyData)} {g : PyData → Option PyData} : ∀ {xs : List PyData}, (∀ x ∈ xs, h x = some (g x)) → compM h xs = some (xs.filterMap g)
  | [], _ => rfl
  | x :: xs, k => by
    simp only [compM]
    rw [k x List.mem_cons_self, compM_eq fun y hy => k y (List.mem_cons_of_mem _ hy), List.filterMap_cons]
    cases g x <;> rfl
def stepC (g : PyData → Dn → Option Dn) (tt : Dn → Option Bool) (te : DF) (ρ : Dn) : PyData → Option (Option PyData) := fun x => (g x ρ).bind fun ρ2 => (tt ρ2).bind fun b => if b = true then (te ρ2).map some else some none
def lcL (fi : Dn → Option (List PyData)) (g : PyData → Dn → Option Dn) (tt : Dn → Option Bool) (te : DF) (vs : List Nat) : Dn → Option (List PyData) := fun ρ => (fi ρ).bind fun xs => if xs.length < lim then compM (stepC g tt te (wipeE ρ vs)) xs else none
theorem RepE.shift {K : PySem.W.Frag} {O O' : Hid} {H H' : Hp} {dv : V} {σ : L2.St} {ρ : Dn} (h : RepE K O H dv σ ρ) (s : Same H H') (f : Same (Fz O H) (Fz O' H')) (o : ∀ p, O p → O' p) : RepE K O' H' dv σ ρ := ⟨h.1, fun i e q => by
  obtain ⟨ov, h1, h2⟩ := h.2 i e q
  refine ⟨ov, h1, h2.shift o f fun q k => ?_⟩
  obtain ⟨_, x, z⟩ := h2.hd k
  rw [z]
  exact s q x z⟩
def yesT : Dn → Option Bool := fun _ => some true
structure PTsF (X : Cx) (ifs : List Expr) (f : Dn → Option Bool) : Prop where
  pts : PTs X ifs (tFT X.K f)
theorem ptsf_nil {X : Cx} : PTsF X [] yesT := ⟨⟨fun pins s σ H Q I ⟨O, dv, ρ, b, al, r, e, q⟩ => pts_nil.run pins s σ H Q I (by cases e; exact q H (Same.refl H))⟩⟩
theorem ptsf_one {X : Cx} {c : Expr} {f : Dn → Option Bool} (h : PFT X c f) : PTsF X [c] f := ⟨⟨fun pins s σ H Q I q => (pts_one h.pt).run pins s σ H Q I q⟩⟩
theorem tlcF {K : PySem.W.Frag} {fi : Dn → Option (List PyData)} {sl vs : List Nat} {g : PyData → Dn → Option Dn} {tt : Dn → Option Bool} {te : DF} {σ : L2.St} {H : Hp} {Q : VK} (hsl : ∀ i ∈ sl, i ∈ vs) (h : tFL K (lcL fi g tt te vs) σ H Q) :
    tLc (iF K fi) (tG K sl g) (tFT K tt) (tF K te) vs σ H Q := by
    obtain ⟨O, dv, ρ, d, al, r, e, q⟩ := h
    obtain ⟨xs, e1, e⟩ := Option.bind_eq_some_iff.mp e
    split at e
    case isFalse => cases e
    rename_i hl
    have ey := e
    refine ⟨O, dv, ρ, xs, al, r, e1, fun J H1 s1 it D nD => ?_⟩
    let O' : Hid := fun a => O a ∨ a = D
    have nO : ¬ O D := (al.same s1).new nD
    have r1 := r.same s1
    -- what holds of each heap within
    have key : ∀ H2 : Hp, Same H1 H2 → (∃ acc, H2 D = some (.lst acc)) → Same (Fz O H1) (Fz O' H2) ∧ Al O' H2 := fun H2 s2 ⟨acc, hD⟩ => by
      refine ⟨fun b o z => ?_, fun b z => ?_⟩
      · obtain ⟨z1, z2⟩ := fz_get z
        rw [fz_out fun w => w.elim z2 fun w => by rw [w, nD] at z1; cases z1]
        exact s2 b o z1
      · rcases z with z | z
        · exact (al.same s1).same s2 b z
        · rw [z, hD]
          exact fun z => nomatch z
    refine ⟨fun i m H2 => m = xs.length - i ∧ i ≤ xs.length ∧ Same H1 H2 ∧ ∃ acc zs, H2 D = some (.lst acc) ∧ compM (stepC g tt te (wipeE ρ vs)) (xs.take i) = some zs ∧ DxAll K (Fz O' H2) acc zs,
      ⟨xs.length, by simp, Nat.zero_le _, new_same nD, [], [], upd_same, by simp [compM], .nil⟩, ?_⟩
    rintro i m H2 ⟨rfl, hi, s2, acc, zs, hD, ez, dz⟩
    obtain ⟨k1, k2⟩ := key H2 s2 ⟨acc, hD⟩
    obtain ⟨g1, g2, g3⟩ := it O' H2 k1 k2
    by_cases hlt : i < xs.length
    · refine .inr ⟨g1 i hlt, _, fun H' p' => ⟨xs.length - (i + 1), by omega, rfl, hlt, p'⟩, fun x H3 y => ?_⟩
      have ex : xs[i]? = some xs[i] := List.getElem?_eq_getElem hlt
      obtain ⟨s3, dx⟩ := g3 i x H3 _ ex y
      obtain ⟨zs', ez', lz'⟩ := compM_take ey (i + 1)
      have et : xs.take (i + 1) = xs.take i ++ [xs[i]] := by rw [List.take_succ, ex]; rfl
      rw [et, compM_snoc, ez] at ez'
      obtain ⟨o, eo, ez'⟩ := Option.bind_eq_some_iff.mp (show ((stepC g tt te (wipeE ρ vs)) xs[i]).bind (fun o => some (zs ++ o.toList)) = some zs' from ez')
      have eo0 := eo
      unfold stepC at eo
      obtain ⟨ρ2, e2, eo⟩ := Option.bind_eq_some_iff.mp eo
      obtain ⟨b, e3, eo⟩ := Option.bind_eq_some_iff.mp eo
      have al3 := k2.same s3
      have r3 : RepE K O' H3 dv (wipe σ vs) (wipeE ρ vs) := ((r1.wipe _).shift s2 k1 fun p h => .inl h).same s3
      have snoc : ∀ o', stepC g tt te (wipeE ρ vs) xs[i] = some o' → compM (stepC g tt te (wipeE ρ vs)) (xs.take (i + 1)) = some (zs ++ o'.toList) := fun o' h => by
        rw [et, compM_snoc, ez]
        simp [h]
      refine ⟨O', dv, _, _, ρ2, al3, r3, dx, e2, fun σ2 r4 hw => ⟨(hw _ hsl).trans (wipe_wipe _ _), O', dv, ρ2, b, al3, r4, e3, fun H4 s4 => ?_⟩⟩
      cases b with
      | false =>
        refine iteF ?_
        simp only [Bool.false_eq_true, if_false] at eo
        cases eo
        refine ⟨(s2.trans s3).trans s4, acc, zs, s4 _ _ (s3 _ _ hD), ?_, (dz.same (s3.fz O')).same (s4.fz O')⟩
        rw [snoc _ eo0]
        simp
      | true =>
        refine iteT ?_
        simp only [if_true] at eo
        obtain ⟨y2, e4, rfl⟩ := Option.map_eq_some_iff.mp eo
        refine ⟨O', dv, ρ2, y2, al3.same s4, r4.same s4, e4, fun u H5 s5 du => ⟨acc, s5 _ _ (s4 _ _ (s3 _ _ hD)), ?_, ?_⟩⟩
        · have lacc : acc.length = zs.length := dz.len
          obtain ⟨ws, ew, lw⟩ := compM_take ey i
          rw [ez] at ew
          cases ew
          exact lim_le (by omega)
        · have nn : ∀ b o, H1 b = some o → b ≠ D := fun b o z w => by rw [w, nD] at z; cases z
          refine ⟨fun b o z => ?_, acc ++ [u], zs ++ [y2], upd_same, snoc _ eo0, ?_⟩
          · rw [upd_ne (nn b o z)]
            exact s5 _ _ (s4 _ _ (s3 _ _ (s2 _ _ z)))
          · rw [fz_upd (show O' D from .inr rfl)]
            exact (((dz.same (s3.fz O')).same (s4.fz O')).same (s5.fz O')).append (.cons du .nil)
    · have ei : i = xs.length := by omega
      subst ei
      rw [List.take_length, ey] at ez
      cases ez
      exact .inl ⟨g2, q D acc _ (s1.trans s2) (s1.free nD) hD dz⟩
theorem pfl_lc {X : Cx} {elt tg iter : Expr} {ifs : List Expr} {scope : Scope} {own : List (Str × Nat)} {pos : Pos} {fi : Dn → Option (List PyData)} {sl : List Nat} {g : PyData → Dn → Option Dn} {tt : Dn → Option Bool} {te : DF} (hc : X.calm = true) (hN : X.N.Nodup) (hi : PIF X tg iter fi) (ok : BlkOk X.N X.env.scope scope own)
    (hg : ∀ (s : Shared) (H : Hp) (C : Addr) (cl : List (Str × Addr)) (fp : List Addr), PGF (X.blk s H scope (compEnvC scope cl C X.env) fp) tg sl g) (ht : ∀ (s : Shared) (H : Hp) (C : Addr) (cl : List (Str × Addr)) (fp : List Addr), PTsF (X.blk s H scope (compEnvC scope cl C X.env) fp) ifs tt)
    (he : ∀ (s : Shared) (H : Hp) (C : Addr) (cl : List (Str × Addr)) (fp : List Addr), PF (X.blk s H scope (compEnvC scope cl C X.env) fp) elt te) (hsl : ∀ i ∈ sl, i ∈ own.map (·.2) := by decide) (hs : ∀ x, foldedSetIterable iter X.env x = pure x := by intro _; rfl) :
    PFL X (.ListComp elt [⟨tg, iter, ifs, 0⟩] scope pos) (lcL fi g tt te (own.map (·.2))) :=
  ⟨(pe_lc (g := tG X.K sl g) (tt := tFT X.K tt) (te := tF X.K te) hc hN hi.pi ok (fun s H C cl fp => (hg s H C cl fp).pg) (fun s H C cl fp => (ht s H C cl fp).pts) (fun s H C cl fp => (he s H C cl fp).pe) hs).imp fun σ H Q h => tlcF hsl h⟩
end DS
namespace DS
open PySem PySem.Spec PyProof.Rows L2 PySem.SeqAt
/-! ### a dict is no text -/
theorem dict_no_str (l : Addr) (es : Array DictEntry) (n : Nat) (dd : Option Addr) (sl : Array (Option Value)) (b : Str) (u : Tok) :
    Meets (Builtin.«dict.__eq__» ⟨[.ref l, .str b u], []⟩) (fun _ R s => s.heap.get? l = some { cls := .type "dict", dict := dd, data := .dict es n, slots := sl } ∧ R (.ok (.ret .notImplemented)) s) :=
  .of_wp fun prog w A R s h => by
    obtain ⟨hp, g, d, tk, os⟩ := s
    obtain ⟨hl, h⟩ := h
    have f1 := F.sub_str_dict
    wp_walk using wpAny_loadPart' hl, wpAny_load hl
    exact ⟨_, rfl, h⟩
theorem str_no_dict (b : Str) (u : Tok) (l : Addr) (es : Array DictEntry) (n : Nat) (dd : Option Addr) (sl : Array (Option Value)) :
    Meets (Builtin.«str.__eq__» ⟨[.str b u, .ref l], []⟩) (fun _ R s => s.heap.get? l = some { cls := .type "dict", dict := dd, data := .dict es n, slots := sl } ∧ R (.ok (.ret .notImplemented)) s) :=
  .of_wp fun prog w A R s h => by
    obtain ⟨hp, g, d, tk, os⟩ := s
    obtain ⟨hl, h⟩ := h
    wp_walk using wpAny_loadPart' hl, wpAny_load hl
    exact ⟨_, rfl, h⟩
section
variable {A : Around} {s : Shared}
theorem rc_dict_str {l : Addr} {o : Obj} {es : Array DictEntry} {n : Nat} (b : Str) (u : Tok) (h1 : s.heap.get? l = some o) (h2 : o.cls = .type "dict") (h3 : o.data = .dict es n) (hu : A.units < cLine) : RcAt A s (.ref l) (.str b u) false := fun prog w E Q h => by
  obtain ⟨cls, dd, data, sl⟩ := o
  simp only at h2 h3
  subst h2 h3
  exact rc_eq_decline_or (k := false) ⟨_, h1, rfl⟩ (typeIs_str s b u) (by decide) F.sub_str_dict F.slot_dict_eq F.slot_str_eq_refl
    (fun _ hq => call_meets F.slot_dict_eq ⟨_, h1, rfl⟩ F.entry_dict_eq (F.args_dict_eq_2 _ _) (dict_no_str l es n dd sl b u) ⟨h1, hq⟩)
    (fun _ hq => call_meets F.slot_str_eq_refl (typeIs_str s b u) F.entry_str_eq (F.args_str_eq_2 _ _) (str_no_dict b u l es n dd sl) ⟨h1, hq⟩)
    (fun _ hq => wpAny_of_eq (rfl : isSame (.ref l) (.str b u) = pure false) hq) (.inr hu) h
theorem rc_str_dict {l : Addr} {o : Obj} {es : Array DictEntry} {n : Nat} (b : Str) (u : Tok) (h1 : s.heap.get? l = some o) (h2 : o.cls = .type "dict") (h3 : o.data = .dict es n) (hu : A.units < cLine) : RcAt A s (.str b u) (.ref l) false := fun prog w E Q h => by
  obtain ⟨cls, dd, data, sl⟩ := o
  simp only at h2 h3
  subst h2 h3
  exact rc_eq_decline_or (k := false) (typeIs_str s b u) ⟨_, h1, rfl⟩ (by decide) F.sub_dict_str F.slot_str_eq F.slot_dict_eq_refl
    (fun _ hq => call_meets F.slot_str_eq (typeIs_str s b u) F.entry_str_eq (F.args_str_eq_2 _ _) (str_no_dict b u l es n dd sl) ⟨h1, hq⟩)
    (fun _ hq => call_meets F.slot_dict_eq_refl ⟨_, h1, rfl⟩ F.entry_dict_eq (F.args_dict_eq_2 _ _) (dict_no_str l es n dd sl b u) ⟨h1, hq⟩)
    (fun _ hq => wpAny_of_eq (rfl : isSame (.str b u) (.ref l) = pure false) hq) (.inr hu) h
end
end DS
namespace DS
open PySem PySem.Spec PyProof.Rows L2
/-- t == () -/
theorem op_eqE {X : Cx} (hu : X.A.units + 64 < cLine) : OpR X (compareOp .Eq) (fun x y H Q => ∃ a b xs, x = .ref a ∧ y = .ref b ∧ SqT X.K H a xs ∧ SqT X.K H b [] ∧ Q (.bl (decide (xs.length = 0))) H) := by
  intro pins s σ H x y v u Q I rx ry h
  obtain ⟨a, b, xs, rfl, rfl, ha, hb, q⟩ := h
  cases rx
  cases ry
  obtain ⟨its, r1, p1, _⟩ := I.tuple ha
  obtain ⟨its2, r2, p2, _⟩ := I.tuple hb
  cases r2
  have t := SeqAt.RcAt.tuples (A := X.A) (e := fun _ => true) (show s.heap.IsTuple a its.toArray from p1) (show s.heap.IsTuple b ([] : List Value).toArray from p2) (by omega) (fun j j1 j2 => absurd j2 (by simp))
  refine t X.prog X.w _ _ ⟨.bl _, H, I, rfl, ?_⟩
  cases its with
  | nil =>
    cases r1
    exact q
  | cons z its =>
    cases r1 with
    | cons r1 r2 => exact q
/-- l != [] -/
theorem op_neL {X : Cx} (hu : X.A.units + 64 < cLine) : OpR X (compareOp .NotEq) (fun x y H Q => ∃ a b xs, x = .ref a ∧ y = .ref b ∧ SqL X.K H a xs ∧ SqL X.K H b [] ∧ Q (.bl (!decide (xs.length = 0))) H) := by
  intro pins s σ H x y v u Q I rx ry h
  obtain ⟨a, b, xs, rfl, rfl, ha, hb, q⟩ := h
  cases rx
  cases ry
  obtain ⟨its, r1, p1, _⟩ := I.list ha
  obtain ⟨its2, r2, p2, _⟩ := I.list hb
  cases r2
  cases its with
  | nil =>
    cases r1
    have t := SeqAt.RcNeAt.lists (A := X.A) (e := fun _ => true) (show s.heap.IsList a ([] : List Value).toArray from p1.isList) (show s.heap.IsList b ([] : List Value).toArray from p2.isList) rfl (by omega) (fun j j1 j2 => absurd j2 (by simp))
    exact t X.prog X.w _ _ ⟨.bl _, H, I, rfl, q⟩
  | cons z its =>
    have t := SeqAt.RcNeAt.lists_lengths (A := X.A) (show s.heap.IsList a (z :: its).toArray from p1.isList) (show s.heap.IsList b ([] : List Value).toArray from p2.isList) (by simp) (by omega)
    cases r1 with
    | cons r1 r2 => exact t X.prog X.w _ _ ⟨.bl _, H, I, rfl, q⟩
theorem eqv_ints : ∀ as bs : List Int, PyData.eqv (.list (as.map PyData.int)) (.list (bs.map PyData.int)) = decide (as = bs)
  | [], [] => by simp [PyData.eqv, PyData.eqvAll]
  | [], b :: bs => by simp [PyData.eqv, PyData.eqvAll]
  | a :: as, [] => by simp [PyData.eqv, PyData.eqvAll]
  | a :: as, b :: bs => by
    have ih := eqv_ints as bs
    simp only [PyData.eqv] at ih
    simp only [List.map_cons, PyData.eqv, PyData.eqvAll, ih]
    by_cases h : a = b
    · subst h
      simp
    · simp [h]
end DS
namespace DS
open PySem PySem.Spec PyProof.Rows L2
/-! ### operations on data -/
section
variable {X : Cx}
def gI (h : Int → Int → PyData) : PyData → PyData → Option PyData := fun d e => (toI d).bind fun i => (toI e).bind fun j => some (h i j)
def gIC (c : Int → Int → Bool) (h : Int → Int → PyData) : PyData → PyData → Option PyData := fun d e => (toI d).bind fun i => (toI e).bind fun j => if c i j = true then some (h i j) else none
theorem _root_.L2.OpR.imp {f : Value → Value → Sem Value} {r r' : R2} (h : OpR X f r) (k : ∀ x y H Q, r' x y H Q → r x y H Q) : OpR X f r' := fun pins s σ H x y v u Q I rx ry q => h pins s σ H x y v u Q I rx ry (k x y H Q q)
theorem opI0F {f : Value → Value → Sem Value} {h : Int → Int → V} {hd : Int → Int → PyData} (ho : OpR X f (rI0 h)) (k : ∀ (K : PySem.W.Frag) (H : Hp) (i j : Int), Dx K H (h i j) (hd i j)) : OpR X f (r2F X.K (gI hd)) :=
  ho.imp fun x y H Q ⟨O, d, e, c, al, dx, dy, g, q⟩ => by
    obtain ⟨i, e1, g⟩ := Option.bind_eq_some_iff.mp g
    obtain ⟨j, e2, g⟩ := Option.bind_eq_some_iff.mp g
    cases g
    rw [toI_some e1] at dx
    rw [toI_some e2] at dy
    cases dx
    cases dy
    exact ⟨i, j, rfl, rfl, q _ H (Same.refl H) (k _ _ i j)⟩
theorem opIF {f : Value → Value → Sem Value} {C : Int → Int → Prop} {h : Int → Int → V} {hd : Int → Int → PyData} {c : Int → Int → Bool} (ho : OpR X f (rI C h)) (hc : ∀ i j, c i j = true → C i j) (k : ∀ (K : PySem.W.Frag) (H : Hp) (i j : Int), Dx K H (h i j) (hd i j)) : OpR X f (r2F X.K (gIC c hd)) :=
  ho.imp fun x y H Q ⟨O, d, e, cc, al, dx, dy, g, q⟩ => by
    obtain ⟨i, e1, g⟩ := Option.bind_eq_some_iff.mp g
    obtain ⟨j, e2, g⟩ := Option.bind_eq_some_iff.mp g
    split at g
    case isFalse => cases g
    rename_i hh
    cases g
    rw [toI_some e1] at dx
    rw [toI_some e2] at dy
    cases dx
    cases dy
    exact ⟨i, j, rfl, rfl, hc i j hh, q _ H (Same.refl H) (k _ _ i j)⟩
theorem of_sub : OpR X (binaryOp .Sub) (r2F X.K (gI fun i j => .int (i - j))) := opI0F op_sub fun _ _ _ _ => .int _
def cMul (i j : Int) : Bool := decide (-(2 ^ 64) < i ∧ i < 2 ^ 64) || decide (-(2 ^ 64) < j ∧ j < 2 ^ 64)
theorem of_mul : OpR X (binaryOp .Mult) (r2F X.K (gIC cMul fun i j => .int (i * j))) := opIF op_mul (fun i j h => by
  unfold cMul at h
  rcases Bool.or_eq_true_iff.mp h with h | h
  · exact .inl (of_decide_eq_true h)
  · exact .inr (of_decide_eq_true h)) fun _ _ _ _ => .int _
def cPos (_ j : Int) : Bool := decide (0 < j)
theorem of_mod : OpR X (binaryOp .Mod) (r2F X.K (gIC cPos fun i j => .int (i % j))) := opIF op_mod (fun i j h => of_decide_eq_true h) fun _ _ _ _ => .int _
def cPow (i j : Int) : Bool := decide (0 ≤ j ∧ j ≤ 1000 ∧ i.natAbs < 2 ^ 64)
theorem of_pow : OpR X (binaryOp .Pow) (r2F X.K (gIC cPow fun i j => .int (i ^ j.toNat))) := opIF op_pow (fun i j h => by
  have := of_decide_eq_true h
  exact ⟨this.1, by omega, this.2.2⟩) fun _ _ _ _ => .int _
theorem of_lt : OpR X (compareOp .Lt) (r2F X.K (gI fun i j => .bool (decide (i < j)))) := opI0F op_lt fun _ _ _ _ => .bl _
theorem of_le : OpR X (compareOp .LtE) (r2F X.K (gI fun i j => .bool (decide (i ≤ j)))) := opI0F op_le fun _ _ _ _ => .bl _
theorem of_gt : OpR X (compareOp .Gt) (r2F X.K (gI fun i j => .bool (decide (j < i)))) := opI0F op_gt fun _ _ _ _ => .bl _
theorem of_ge : OpR X (compareOp .GtE) (r2F X.K (gI fun i j => .bool (decide (j ≤ i)))) := opI0F op_ge fun _ _ _ _ => .bl _
/-! == and != of data -/
def isStr : PyData → Bool
  | .str _ => true
  | _ => false
theorem isStr_eq {d : PyData} (h : isStr d = true) : ∃ x, d = .str x := by cases d <;> first | exact ⟨_, rfl⟩ | cases h
def cmpOk (d e : PyData) : Bool := (SeqAt.shaped d && SeqAt.shaped e) || (isStr d && isStr e)
def isTup : PyData → Bool
  | .tuple _ => true
  | _ => false
def isLst : PyData → Bool
  | .list _ => true
  | _ => false
/-- x == (), x a tuple; x == [], x a list -/
def eqNil (d e : PyData) : Bool := match e with
  | .tuple [] => isTup d
  | .list [] => isLst d
  | _ => false
theorem eqNil_eq {d e : PyData} (h : eqNil d e = true) : ∃ xs, (d = .tuple xs ∧ e = .tuple []) ∨ (d = .list xs ∧ e = .list []) := by
  cases e with
  | tuple ys =>
    cases ys with
    | nil => cases d <;> first | exact ⟨_, .inl ⟨rfl, rfl⟩⟩ | cases h
    | cons y ys => cases h
  | list ys =>
    cases ys with
    | nil => cases d <;> first | exact ⟨_, .inr ⟨rfl, rfl⟩⟩ | cases h
    | cons y ys => cases h
  | _ => cases h
def strX (d e : PyData) : Bool := isStr d != isStr e
def gEq (d e : PyData) : Option PyData := if cmpOk d e = true then some (.bool (PyData.eqv d e)) else if (eqNil d e || strX d e) = true then some (.bool (PyData.eqv d e)) else none
def gNe (d e : PyData) : Option PyData := if cmpOk d e = true then some (.bool (!PyData.eqv d e)) else if eqNil d e = true then some (.bool (!PyData.eqv d e)) else none
theorem eqv_nil (xs : List PyData) : PyData.eqv (.tuple xs) (.tuple []) = decide (xs.length = 0) := by cases xs <;> simp [PyData.eqv, PyData.eqvAll]
theorem eqv_nilL (xs : List PyData) : PyData.eqv (.list xs) (.list []) = decide (xs.length = 0) := by cases xs <;> simp [PyData.eqv, PyData.eqvAll]
theorem op_eqL {X : Cx} (hu : X.A.units + 64 < cLine) : OpR X (compareOp .Eq) (fun x y H Q => ∃ a b xs, x = .ref a ∧ y = .ref b ∧ SqL X.K H a xs ∧ SqL X.K H b [] ∧ Q (.bl (decide (xs.length = 0))) H) := by
  intro pins s σ H x y v u Q I rx ry h
  obtain ⟨a, b, xs, rfl, rfl, ha, hb, q⟩ := h
  cases rx
  cases ry
  obtain ⟨its, r1, p1, _⟩ := I.list ha
  obtain ⟨its2, r2, p2, _⟩ := I.list hb
  cases r2
  cases its with
  | nil =>
    cases r1
    have t := SeqAt.RcAt.lists (A := X.A) (e := fun _ => true) (show s.heap.IsList a ([] : List Value).toArray from p1.isList) (show s.heap.IsList b ([] : List Value).toArray from p2.isList) rfl (by omega) (fun j j1 j2 => absurd j2 (by simp))
    exact t X.prog X.w _ _ ⟨.bl _, H, I, rfl, q⟩
  | cons z its =>
    have t := SeqAt.RcAt.lists_lengths (A := X.A) (show s.heap.IsList a (z :: its).toArray from p1.isList) (show s.heap.IsList b ([] : List Value).toArray from p2.isList) (by simp) (by omega)
    cases r1 with
    | cons r1 r2 => exact t X.prog X.w _ _ ⟨.bl _, H, I, rfl, q⟩
theorem op_neE {X : Cx} (hu : X.A.units + 64 < cLine) : OpR X (compareOp .NotEq) (fun x y H Q => ∃ a b xs, x = .ref a ∧ y = .ref b ∧ SqT X.K H a xs ∧ SqT X.K H b [] ∧ Q (.bl (!decide (xs.length = 0))) H) := by
  intro pins s σ H x y v u Q I rx ry h
  obtain ⟨a, b, xs, rfl, rfl, ha, hb, q⟩ := h
  cases rx
  cases ry
  obtain ⟨its, r1, p1, _⟩ := I.tuple ha
  obtain ⟨its2, r2, p2, _⟩ := I.tuple hb
  cases r2
  have t := SeqAt.RcNeAt.tuples (A := X.A) (e := fun _ => true) (show s.heap.IsTuple a its.toArray from p1) (show s.heap.IsTuple b ([] : List Value).toArray from p2) (by omega) (fun j j1 j2 => absurd j2 (by simp))
  refine t X.prog X.w _ _ ⟨.bl _, H, I, rfl, ?_⟩
  cases its with
  | nil =>
    cases r1
    exact q
  | cons z its =>
    cases r1 with
    | cons r1 r2 => exact q
/-- a text and what is none -/
theorem rc_strX {X : Cx} {pins : List (Addr × Obj)} {σ : L2.St} {H : Hp} {s : Shared} (I : Inv X pins σ H s) (hu : X.A.units + 64 < cLine) {x y : V} {v u : Value} {d e : PyData} (dx : Dx X.K H x d) (dy : Dx X.K H y e) (rx : RelV x v) (ry : RelV y u) (h : strX d e = true) : SeqAt.RcAt X.A s v u false ∧ PyData.eqv d e = false := by
  have ax := Dx.rx I dx rx
  have ay := Dx.rx I dy ry
  have room : X.A.units < cLine := by omega
  cases ax with
  | str z t =>
    cases ay with
    | str z t => cases h
    | non => exact ⟨SeqAt.RcAt.str_none z t, by simp [PyData.eqv]⟩
    | bl b => exact ⟨SeqAt.RcAt.str_bool z t b, by simp [PyData.eqv]⟩
    | int i t2 => exact ⟨SeqAt.RcAt.str_int z t i t2, by simp [PyData.eqv]⟩
    | lst h1 h2 h3 h4 => exact ⟨SeqAt.RcAt.str_list z t ⟨_, h1, h2, _, h3⟩ room, by simp [PyData.eqv]⟩
    | tup h1 h2 h3 h4 => exact ⟨SeqAt.RcAt.str_tuple z t ⟨_, h1, h2, _, h3⟩ room, by simp [PyData.eqv]⟩
    | dic h1 h2 h3 h4 h5 h6 => exact ⟨rc_str_dict z t h1 h2 h3 room, by simp [PyData.eqv]⟩
  | non =>
    cases ay with
    | str z t => exact ⟨SeqAt.RcAt.none_str z t, by simp [PyData.eqv]⟩
    | _ => cases h
  | bl b =>
    cases ay with
    | str z t => exact ⟨SeqAt.RcAt.bool_str b z t, by simp [PyData.eqv]⟩
    | _ => cases h
  | int i t2 =>
    cases ay with
    | str z t => exact ⟨SeqAt.RcAt.int_str i t2 z t, by simp [PyData.eqv]⟩
    | _ => cases h
  | lst h1 h2 h3 h4 =>
    cases ay with
    | str z t => exact ⟨SeqAt.RcAt.list_str z t ⟨_, h1, h2, _, h3⟩ room, by simp [PyData.eqv]⟩
    | _ => cases h
  | tup h1 h2 h3 h4 =>
    cases ay with
    | str z t => exact ⟨SeqAt.RcAt.tuple_str z t ⟨_, h1, h2, _, h3⟩ room, by simp [PyData.eqv]⟩
    | _ => cases h
  | dic h1 h2 h3 h4 h5 h6 =>
    cases ay with
    | str z t => exact ⟨rc_dict_str z t h1 h2 h3 room, by simp [PyData.eqv]⟩
    | _ => cases h
theorem of_eq (hu : X.A.units + 64 < cLine) : OpR X (compareOp .Eq) (r2F X.K gEq) := by
  intro pins s σ H x y v u Q I rx ry ⟨O, d, e, c, al, dx, dy, g, q⟩
  unfold gEq at g
  split at g
  case isTrue h =>
    cases g
    rcases Bool.or_eq_true_iff.mp h with h | h
    · have h := Bool.and_eq_true_iff.mp h
      obtain ⟨as, r1⟩ := Rx.reads (Dx.rx I (dx.same (fz_sub O H)) rx)
      obtain ⟨bs, r2⟩ := Rx.reads (Dx.rx I (dy.same (fz_sub O H)) ry)
      exact SeqAt.compareEq_shaped r1 r2 h.1 h.2 hu ⟨.bl _, H, I, rfl, q _ H (Same.refl H) (.bl _)⟩
    · have h := Bool.and_eq_true_iff.mp h
      obtain ⟨x1, rfl⟩ := isStr_eq h.1
      obtain ⟨y1, rfl⟩ := isStr_eq h.2
      cases dx
      cases dy
      refine op_eq pins s σ H _ _ v u Q I rx ry ⟨rfl, ?_⟩
      have := q _ H (Same.refl H) (.bl _)
      rw [PyData.eqv] at this
      rw [dec_str]
      exact this
  case isFalse =>
    split at g
    case isFalse => cases g
    rename_i h
    cases g
    rcases Bool.or_eq_true_iff.mp h with h | h
    · obtain ⟨xs, ⟨rfl, rfl⟩ | ⟨rfl, rfl⟩⟩ := eqNil_eq h
      · have q := q _ H (Same.refl H) (.bl _)
        rw [eqv_nil] at q
        cases dx with
        | tup h1 h2 =>
          cases dy with
          | tup h3 h4 =>
            cases h4
            refine op_eqE hu pins s σ H _ _ v u Q I rx ry ⟨_, _, _, rfl, rfl, sqT_same (fz_sub O H) h1, sqT_same (fz_sub O H) h3, ?_⟩
            rw [h2.length]
            exact q
      · have q := q _ H (Same.refl H) (.bl _)
        rw [eqv_nilL] at q
        cases dx with
        | lst h1 h2 =>
          cases dy with
          | lst h3 h4 =>
            cases h4
            refine op_eqL hu pins s σ H _ _ v u Q I rx ry ⟨_, _, _, rfl, rfl, (fz_sub O H).seq h1, (fz_sub O H).seq h3, ?_⟩
            rw [h2.length]
            exact q
    · obtain ⟨rc, e0⟩ := rc_strX I hu (dx.same (fz_sub O H)) (dy.same (fz_sub O H)) rx ry h
      rw [e0] at q
      exact rc X.prog X.w _ _ ⟨.bl _, H, I, rfl, q _ H (Same.refl H) (.bl _)⟩
theorem of_ne (hu : X.A.units + 64 < cLine) : OpR X (compareOp .NotEq) (r2F X.K gNe) := by
  intro pins s σ H x y v u Q I rx ry ⟨O, d, e, c, al, dx, dy, g, q⟩
  unfold gNe at g
  split at g
  case isTrue h =>
    cases g
    rcases Bool.or_eq_true_iff.mp h with h | h
    · have h := Bool.and_eq_true_iff.mp h
      obtain ⟨as, r1⟩ := Rx.reads (Dx.rx I (dx.same (fz_sub O H)) rx)
      obtain ⟨bs, r2⟩ := Rx.reads (Dx.rx I (dy.same (fz_sub O H)) ry)
      exact SeqAt.compareNe_shaped r1 r2 h.1 h.2 hu ⟨.bl _, H, I, rfl, q _ H (Same.refl H) (.bl _)⟩
    · have h := Bool.and_eq_true_iff.mp h
      obtain ⟨x1, rfl⟩ := isStr_eq h.1
      obtain ⟨y1, rfl⟩ := isStr_eq h.2
      cases dx
      cases dy
      refine op_ne pins s σ H _ _ v u Q I rx ry ⟨rfl, ?_⟩
      have := q _ H (Same.refl H) (.bl _)
      rw [PyData.eqv] at this
      rw [dec_str]
      exact this
  case isFalse =>
    split at g
    case isFalse => cases g
    rename_i h
    cases g
    obtain ⟨xs, ⟨rfl, rfl⟩ | ⟨rfl, rfl⟩⟩ := eqNil_eq h
    · have q := q _ H (Same.refl H) (.bl _)
      rw [eqv_nil] at q
      cases dx with
      | tup h1 h2 =>
        cases dy with
        | tup h3 h4 =>
          cases h4
          refine op_neE hu pins s σ H _ _ v u Q I rx ry ⟨_, _, _, rfl, rfl, sqT_same (fz_sub O H) h1, sqT_same (fz_sub O H) h3, ?_⟩
          rw [h2.length]
          exact q
    · have q := q _ H (Same.refl H) (.bl _)
      rw [eqv_nilL] at q
      cases dx with
      | lst h1 h2 =>
        cases dy with
        | lst h3 h4 =>
          cases h4
          refine op_neL hu pins s σ H _ _ v u Q I rx ry ⟨_, _, _, rfl, rfl, (fz_sub O H).seq h1, (fz_sub O H).seq h3, ?_⟩
          rw [h2.length]
          exact q
/-! is None -/
def isNone : PyData → Bool
  | .none => true
  | _ => false
def gIsN (d e : PyData) : Option PyData := if isNone e = true then some (.bool (isNone d)) else none
def gNotN (d e : PyData) : Option PyData := if isNone e = true then some (.bool (!isNone d)) else none
theorem dx_none {K : PySem.W.Frag} {H : Hp} {v : V} {d : PyData} (h : Dx K H v d) : decide (v = .non) = isNone d := by
  cases h <;> rfl
theorem isNone_eq {d : PyData} (h : isNone d = true) : d = .none := by cases d <;> first | rfl | cases h
theorem of_isN : OpR X (compareOp .Is) (r2F X.K gIsN) := op_isN.imp fun x y H Q ⟨O, d, e, c, al, dx, dy, g, q⟩ => by
  unfold gIsN at g
  split at g
  case isFalse => cases g
  rename_i h
  cases g
  rw [isNone_eq h] at dy
  cases dy
  refine ⟨rfl, ?_⟩
  rw [dx_none dx]
  exact q _ H (Same.refl H) (.bl _)
theorem of_notN : OpR X (compareOp .IsNot) (r2F X.K gNotN) := op_notN.imp fun x y H Q ⟨O, d, e, c, al, dx, dy, g, q⟩ => by
  unfold gNotN at g
  split at g
  case isFalse => cases g
  rename_i h
  cases g
  rw [isNone_eq h] at dy
  cases dy
  refine ⟨rfl, ?_⟩
  rw [dx_none dx]
  exact q _ H (Same.refl H) (.bl _)
/-! in, not in: among ints -/
def intsD : List PyData → Option (List Int)
  | [] => some []
  | d :: ds => (toI d).bind fun i => (intsD ds).bind fun is => some (i :: is)
theorem intsD_some : ∀ {ds : List PyData} {is : List Int}, intsD ds = some is → ds = is.map .int
  | [], _, h => by cases h; rfl
  | d :: ds, is, h => by
    obtain ⟨i, e1, h⟩ := Option.bind_eq_some_iff.mp h
    obtain ⟨js, e2, h⟩ := Option.bind_eq_some_iff.mp h
    cases h
    rw [toI_some e1, intsD_some e2]
    rfl
theorem intsD_map : ∀ is : List Int, intsD (is.map .int) = some is
  | [] => rfl
  | i :: is => by simp [intsD, toI, intsD_map is]
theorem dxAll_ints {K : PySem.W.Frag} {H : Hp} : ∀ {is : List Int} {vs : List V}, DxAll K H vs (is.map PyData.int) → vs = is.map V.int
  | [], _, h => by cases h; rfl
  | i :: is, _, h => by
    cases h with
    | cons h1 h2 =>
      cases h1
      rw [dxAll_ints h2]
      rfl
def gIn (neg : Bool) (d e : PyData) : Option PyData := (toI d).bind fun i => (itemsD e).bind fun ds => (intsD ds).bind fun is => some (.bool (if neg then !(is.contains i) else is.contains i))
theorem in_ints (i : Int) : ∀ is : List Int, inV (.int i) (is.map V.int) = is.contains i
  | [] => rfl
  | j :: is => by
    have ih := in_ints i is
    unfold inV at ih ⊢
    rw [List.map_cons, List.any_cons, ih, List.contains_cons]
    congr 1
    show (decide (j = i) : Bool) = (i == j)
    by_cases h : j = i
    · subst h; simp
    · simp [h, Ne.symm h]
theorem flat_ints : ∀ is : List Int, (is.map V.int).all flatV = true
  | [] => rfl
  | j :: is => by rw [List.map_cons, List.all_cons, flat_ints is]; rfl
theorem rInF {neg : Bool} {x y : V} {H : Hp} {Q : VK} (h : r2F X.K (gIn neg) x y H Q) : rIn X.K neg x y H Q := by
  obtain ⟨O, d, e, c, al, dx, dy, g, q⟩ := h
  obtain ⟨i, e1, g⟩ := Option.bind_eq_some_iff.mp g
  obtain ⟨ds, e2, g⟩ := Option.bind_eq_some_iff.mp g
  obtain ⟨is, e3, g⟩ := Option.bind_eq_some_iff.mp g
  cases g
  rw [toI_some e1] at dx
  cases dx
  have ed := intsD_some e3
  subst ed
  have fin : ∀ vs, vs = is.map V.int → Q (.bl (if neg then !inV (.int i) vs else inV (.int i) vs)) H := fun vs h => by
    rw [h, in_ints]
    exact q _ H (Same.refl H) (.bl _)
  cases dy with
  | lst hs ha =>
    cases e2
    exact ⟨_, _, rfl, .inl ((fz_sub O H).seq hs), rfl, by rw [dxAll_ints ha]; exact flat_ints _, fin _ (dxAll_ints ha)⟩
  | tup hs ha =>
    cases e2
    exact ⟨_, _, rfl, .inr (sqT_same (fz_sub O H) hs), rfl, by rw [dxAll_ints ha]; exact flat_ints _, fin _ (dxAll_ints ha)⟩
  | _ => cases e2
theorem of_in : OpR X (compareOp .In) (r2F X.K (gIn false)) := op_in_seq.imp fun _ _ _ _ h => rInF h
theorem of_notIn : OpR X (compareOp .NotIn) (r2F X.K (gIn true)) := op_notIn_seq.imp fun _ _ _ _ h => rInF h
/-! + of lists, of tuples -/
def gCat : PyData → PyData → Option PyData
  | .list a, .list b => if a.length + b.length < lim then some (.list (a ++ b)) else none
  | .tuple a, .tuple b => if a.length + b.length < lim then some (.tuple (a ++ b)) else none
  | _, _ => none
end
/-! ### connectives, tests -/
section
variable {X : Cx} {a b c : Expr} {fa fb fc : DF} {rest : List Expr} {pos : Pos}
def andF (fa fb : DF) : DF := fun ρ => (fa ρ).bind fun d => (toB d).bind fun k => if k = true then fb ρ else some (.bool false)
def notF (fa : DF) : DF := fun ρ => (fa ρ).bind fun d => (toB d).bind fun k => some (.bool (!k))
theorem pf_one {op} (h : PF X a fa) : PF X (.BoolOp op [a] pos) fa := ⟨pe_one h.pe⟩
theorem pf_and (ha : PF X a fa) (hb : PF X (.BoolOp .And (b :: rest) pos) fb) : PF X (.BoolOp .And (a :: b :: rest) pos) (andF fa fb) := ⟨(pe_and ha.pe hb.pe).imp fun σ H Q ⟨O, dv, ρ, d, al, r, e, q⟩ => by
  obtain ⟨x, e1, e⟩ := Option.bind_eq_some_iff.mp e
  obtain ⟨k, e2, e⟩ := Option.bind_eq_some_iff.mp e
  rw [toB_some e2] at e1
  refine ⟨O, dv, ρ, _, al, r, e1, fun v H1 s1 h1 => ?_⟩
  cases h1
  refine ⟨k, rfl, ?_⟩
  cases k with
  | true => exact ⟨O, dv, ρ, d, al.same s1, r.same s1, e, fun v H2 s2 h2 => q v H2 (s1.trans s2) h2⟩
  | false => cases e; exact q _ H1 s1 (.bl _)⟩
theorem pf_not (ha : PF X a fa) : PF X (.UnaryOp .Not a pos) (notF fa) := ⟨(pe_not ha.pe).imp fun σ H Q ⟨O, dv, ρ, d, al, r, e, q⟩ => by
  obtain ⟨x, e1, e⟩ := Option.bind_eq_some_iff.mp e
  obtain ⟨k, e2, e⟩ := Option.bind_eq_some_iff.mp e
  cases e
  rw [toB_some e2] at e1
  refine ⟨O, dv, ρ, _, al, r, e1, fun v H1 s1 h1 => ?_⟩
  cases h1
  exact ⟨k, rfl, q _ H1 s1 (.bl _)⟩⟩
/-! the same as tests -/
structure PFW (X : Cx) (e : Expr) (f : Dn → Option Bool) : Prop where
  pw : PW X e (tFT X.K f)
theorem _root_.L2.PW.imp {e : Expr} {t t' : TT} (h : PW X e t) (k : ∀ σ H Q, t' σ H Q → t σ H Q) : PW X e t' := ⟨fun wh pins s σ H Q I q => h.run wh pins s σ H Q I (k σ H Q q)⟩
def andT (f g : Dn → Option Bool) : Dn → Option Bool := fun ρ => (f ρ).bind fun k => if k = true then g ρ else some false
def orT (f g : Dn → Option Bool) : Dn → Option Bool := fun ρ => (f ρ).bind fun k => if k = true then some true else g ρ
def notT (f : Dn → Option Bool) : Dn → Option Bool := fun ρ => (f ρ).bind fun k => some (!k)
variable {ga gb : Dn → Option Bool}
theorem PFW.pft {e : Expr} (h : PFW X e ga) : PFT X e ga := ⟨h.pw.pt⟩
theorem pfw_and1 (h : PFT X a ga) : PFW X (.BoolOp .And [a] pos) ga := ⟨pw_and1 h.pt⟩
theorem pfw_or1 (h : PFT X a ga) : PFW X (.BoolOp .Or [a] pos) ga := ⟨pw_or1 h.pt⟩
theorem pfw_and (ha : PFT X a ga) (hb : PFW X (.BoolOp .And (b :: rest) pos) gb) : PFW X (.BoolOp .And (a :: b :: rest) pos) (andT ga gb) := ⟨(pw_and ha.pt hb.pw).imp fun σ H Q ⟨O, dv, ρ, d, al, r, e, q⟩ => by
  obtain ⟨k, e1, e⟩ := Option.bind_eq_some_iff.mp e
  refine ⟨O, dv, ρ, _, al, r, e1, fun H1 s1 => ?_⟩
  cases k with
  | true => exact ⟨O, dv, ρ, d, al.same s1, r.same s1, e, fun H2 s2 => q H2 (s1.trans s2)⟩
  | false => cases e; exact q H1 s1⟩
theorem pfw_or (ha : PFT X a ga) (hb : PFW X (.BoolOp .Or (b :: rest) pos) gb) : PFW X (.BoolOp .Or (a :: b :: rest) pos) (orT ga gb) := ⟨(pw_or ha.pt hb.pw).imp fun σ H Q ⟨O, dv, ρ, d, al, r, e, q⟩ => by
  obtain ⟨k, e1, e⟩ := Option.bind_eq_some_iff.mp e
  refine ⟨O, dv, ρ, _, al, r, e1, fun H1 s1 => ?_⟩
  cases k with
  | false => exact ⟨O, dv, ρ, d, al.same s1, r.same s1, e, fun H2 s2 => q H2 (s1.trans s2)⟩
  | true => cases e; exact q H1 s1⟩
theorem pft_not (ha : PFT X a ga) : PFT X (.UnaryOp .Not a pos) (notT ga) := ⟨(pt_not ha.pt).imp fun σ H Q ⟨O, dv, ρ, d, al, r, e, q⟩ => by
  obtain ⟨k, e1, e⟩ := Option.bind_eq_some_iff.mp e
  cases e
  exact ⟨O, dv, ρ, _, al, r, e1, fun H1 s1 => q H1 s1⟩⟩
/-- a if c else b -/
def ifF (g : Dn → Option Bool) (fa fb : DF) : DF := fun ρ => (g ρ).bind fun k => if k = true then fa ρ else fb ρ
theorem pf_ifExp (hc : PFT X c ga) (ha : PF X a fa) (hb : PF X b fb) : PF X (.IfExp c a b pos) (ifF ga fa fb) := ⟨(pe_ifExp hc.pt ha.pe hb.pe).imp fun σ H Q ⟨O, dv, ρ, d, al, r, e, q⟩ => by
  obtain ⟨k, e1, e⟩ := Option.bind_eq_some_iff.mp e
  refine ⟨O, dv, ρ, _, al, r, e1, fun H1 s1 => ?_⟩
  cases k with
  | true => exact ⟨O, dv, ρ, d, al.same s1, r.same s1, e, fun v H2 s2 h2 => q v H2 (s1.trans s2) h2⟩
  | false => exact ⟨O, dv, ρ, d, al.same s1, r.same s1, e, fun v H2 s2 h2 => q v H2 (s1.trans s2) h2⟩⟩
/-- a op b op' c -/
def chnF (g g' : PyData → PyData → Option PyData) (fa fb fc : DF) : DF := fun ρ => (fa ρ).bind fun x => (fb ρ).bind fun y => (g x y).bind fun z => (toB z).bind fun k => if k = true then (fc ρ).bind fun w => g' y w else some (.bool false)
theorem tChF {g g' : PyData → PyData → Option PyData} {σ : L2.St} {H : Hp} {Q : VK} (h : tF X.K (chnF g g' fa fb fc) σ H Q) : tChain (r2F X.K g) (r2F X.K g') (tF X.K fa) (tF X.K fb) (tF X.K fc) σ H Q := by
  obtain ⟨O, dv, ρ, d, al, r, e, q⟩ := h
  obtain ⟨x, e1, e⟩ := Option.bind_eq_some_iff.mp e
  obtain ⟨y, e2, e⟩ := Option.bind_eq_some_iff.mp e
  obtain ⟨z, e3, e⟩ := Option.bind_eq_some_iff.mp e
  obtain ⟨k, e4, e⟩ := Option.bind_eq_some_iff.mp e
  rw [toB_some e4] at e3
  refine ⟨O, dv, ρ, x, al, r, e1, fun v H1 s1 h1 => ⟨O, dv, ρ, y, al.same s1, r.same s1, e2, fun u H2 s2 h2 => ?_⟩⟩
  have s12 := s1.trans s2
  refine ⟨O, x, y, _, al.same s12, h1.same (s2.fz O), h2, e3, fun w H3 s3 h3 => ?_⟩
  cases h3
  refine ⟨k, rfl, ?_⟩
  have s13 := s12.trans s3
  cases k with
  | true =>
    obtain ⟨w, e5, e⟩ := Option.bind_eq_some_iff.mp e
    exact ⟨O, dv, ρ, w, al.same s13, r.same s13, e5, fun t H4 s4 h4 => ⟨O, y, w, d, (al.same s13).same s4, (h2.same (s3.fz O)).same (s4.fz O), h4, e, fun t' H5 s5 h5 => q t' H5 ((s13.trans s4).trans s5) h5⟩⟩
  | false =>
    cases e
    exact q _ H3 s13 (.bl _)
theorem pf_chain {op op' : CmpOp} {g g' : PyData → PyData → Option PyData} (ho : OpR X (compareOp op) (r2F X.K g)) (ho' : OpR X (compareOp op') (r2F X.K g')) (ha : PF X a fa) (hb : PF X b fb) (hc : PF X c fc)
    (hm : lastMarks [op, op'] [b, c] = false := by with_unfolding_all rfl) : PF X (.Compare a [op, op'] [b, c] pos) (chnF g g' fa fb fc) := ⟨(pe_chain ho ho' ha.pe hb.pe hc.pe hm).imp fun _ _ _ h => tChF h⟩
theorem pft_chain {op op' : CmpOp} {g g' : PyData → PyData → Option PyData} (ho : OpR X (compareOp op) (r2F X.K g)) (ho' : OpR X (compareOp op') (r2F X.K g')) (ha : PF X a fa) (hb : PF X b fb) (hc : PF X c fc)
    (hm : lastMarks [op, op'] [b, c] = false := by with_unfolding_all rfl) : PFT X (.Compare a [op, op'] [b, c] pos) (tstF (chnF g g' fa fb fc)) := ⟨(pt_chain ho ho' ha.pe hb.pe hc.pe hm).imp fun σ H Q ⟨O, dv, ρ, t, al, r, e, q⟩ => by
  obtain ⟨d, e1, e2⟩ := Option.bind_eq_some_iff.mp e
  rw [toB_some e2] at e1
  refine tChF ⟨O, dv, ρ, _, al, r, e1, fun v H' s h => ?_⟩
  cases h
  exact ⟨_, rfl, q H' s⟩⟩
/-! ### items, parts -/
def ixD (d e : PyData) : Option PyData := (toI e).bind fun i => match d with
  | .list ds => atI ds i
  | .tuple ds => atI ds i
  | .str z => if z.length < lim then (atI z.cps.toList i).map fun c => .str ⟨#[c]⟩ else none
  | _ => none
theorem DxAll.at {K : PySem.W.Frag} {H : Hp} {vs : List V} {ds : List PyData} {i : Int} {d : PyData} (h : DxAll K H vs ds) (e : atI ds i = some d) : ∃ v, atI vs i = some v ∧ Dx K H v d := by
  unfold atI at e ⊢
  rw [h.len]
  obtain ⟨j, e1, e2⟩ := Option.bind_eq_some_iff.mp e
  obtain ⟨v, h1, h2⟩ := h.get e2
  exact ⟨v, by rw [e1]; exact h1, h2⟩
theorem of_ix : IxR X (r2F X.K ixD) := fun va sl pins s σ H x y v u Q I rx ry ⟨O, d, e, c, al, dx, dy, g, q⟩ hs => by
  obtain ⟨i, e1, g⟩ := Option.bind_eq_some_iff.mp g
  rw [toI_some e1] at dy
  cases dy
  refine ix_seq va sl pins s σ H x _ v u Q I rx ry ?_ hs
  cases dx with
  | lst h1 h2 =>
    obtain ⟨w, e2, e3⟩ := h2.at g
    exact .inl ⟨_, _, _, _, rfl, rfl, (fz_sub O H).seq h1, e2, q _ H (Same.refl H) e3⟩
  | tup h1 h2 =>
    obtain ⟨w, e2, e3⟩ := h2.at g
    exact .inr (.inl ⟨_, _, _, _, rfl, rfl, sqT_same (fz_sub O H) h1, e2, q _ H (Same.refl H) e3⟩)
  | str z =>
    simp only at g
    split at g
    case isFalse => cases g
    rename_i hl
    obtain ⟨cc, e2, rfl⟩ := Option.map_eq_some_iff.mp g
    exact .inr (.inr ⟨_, _, _, rfl, rfl, Nat.le_of_lt (lim_le hl), e2, q _ H (Same.refl H) (.str _)⟩)
  | _ => cases g
theorem pf_ix (ha : PF X a fa) (hb : PF X b fb) (hs : PlainIx b := by exact fun _ _ => rfl) : PF X (.Subscript a b pos) (bin2 ixD fa fb) := ⟨(pe_ix of_ix ha.pe hb.pe hs).imp fun _ _ _ h => t2F h⟩
end
/-! ### calls -/
def rcF (K : PySem.W.Frag) (g : List PyData → Option PyData) : List V → Hp → VK → Prop := fun vs H Q => ∃ O ds c, Al O H ∧ DxAll K (Fz O H) vs ds ∧ g ds = some c ∧ ∀ v H', Same H H' → Dx K (Fz O H') v c → Q v H'
def callA (g : List PyData → Option PyData) (fa : Dn → Option (List PyData)) : DF := fun ρ => (fa ρ).bind g
section
variable {X : Cx} {x : Str} {p pos : Pos} {e : Expr} {es : List Expr} {fa : Dn → Option (List PyData)} {id T : String} {g : List PyData → Option PyData}
theorem tcF {σ : L2.St} {H : Hp} {Q : VK} (h : tF X.K (callA g fa) σ H Q) : tCB (rcF X.K g) (tFA X.K fa) σ H Q := by
  obtain ⟨O, dv, ρ, d, al, r, e, q⟩ := h
  obtain ⟨ds, e1, e⟩ := Option.bind_eq_some_iff.mp e
  exact ⟨O, dv, ρ, ds, al, r, e1, fun vs H1 s1 h1 => ⟨O, ds, d, al.same s1, h1, e, fun v H2 s2 h2 => q v H2 (s1.trans s2) h2⟩⟩
theorem pf_callB (hc : CallR X (.builtin id) (rcF X.K g)) (hg : Gl X x) (hm : X.mg x = none) (hv : bootBuiltins x = some (.builtin id)) (ha : PFA X (e :: es) fa) (hn : x ≠ "__name__" := by decide) (hdb : (x == ("__debug__" : Str)) = false := by decide)
    (he : starEach (e :: es) X.env = (false, eval e X.env) :: starEach es X.env := by rfl) (hpl : (backTo pos (starEach es X.env)).any (·.1) = false := by rfl) : PF X (.Call (.Name x p) (e :: es) [] pos) (callA g fa) :=
  ⟨(pe_callB hc hg hm hv ha.pa hn hdb he hpl).imp fun _ _ _ h => tcF h⟩
theorem pf_callTy (hc : CallR X (.type T) (rcF X.K g)) (hg : Gl X x) (hm : X.mg x = none) (hv : bootBuiltins x = some (.type T)) (ha : PFA X (e :: es) fa) (hn : x ≠ "__name__" := by decide) (hdb : (x == ("__debug__" : Str)) = false := by decide)
    (he : starEach (e :: es) X.env = (false, eval e X.env) :: starEach es X.env := by rfl) (hpl : (backTo pos (starEach es X.env)).any (·.1) = false := by rfl) : PF X (.Call (.Name x p) (e :: es) [] pos) (callA g fa) :=
  ⟨(pe_callTy hc hg hm hv ha.pa hn hdb he hpl).imp fun _ _ _ h => tcF h⟩
theorem _root_.L2.CallR.imp {f : Value} {r r' : List V → Hp → VK → Prop} (h : CallR X f r) (k : ∀ xs H Q, r' xs H Q → r xs H Q) : CallR X f r' := fun pins s σ H xs us Q I rs q => h pins s σ H xs us Q I rs (k xs H Q q)
def lenD : List PyData → Option PyData
  | [.list ds] => some (.int ds.length)
  | [.tuple ds] => some (.int ds.length)
  | [.str z] => if z.length < lim then some (.int z.length) else none
  | _ => none
theorem cf_len : CallR X (.builtin "len") (rcF X.K lenD) := (call_len_seq.or call_len_str).imp fun xs H Q ⟨O, ds, c, al, h, g, q⟩ => by
  match ds, h, g with
  | [.list ds], .cons (.lst h1 h2) .nil, g =>
    cases g
    refine .inl ⟨_, _, rfl, .inl ((fz_sub O H).seq h1), ?_⟩
    rw [h2.len]
    exact q _ H (Same.refl H) (.int _)
  | [.tuple ds], .cons (.tup h1 h2) .nil, g =>
    cases g
    refine .inl ⟨_, _, rfl, .inr (sqT_same (fz_sub O H) h1), ?_⟩
    rw [h2.len]
    exact q _ H (Same.refl H) (.int _)
  | [.str z], .cons (.str _) .nil, g =>
    simp only [lenD] at g
    split at g
    case isFalse => cases g
    rename_i hl
    cases g
    exact .inr ⟨z, rfl, Nat.le_of_lt (lim_le hl), q _ H (Same.refl H) (.int _)⟩
def toTup : List PyData → Option PyData
  | [.list ds] => some (.tuple ds)
  | [.tuple ds] => some (.tuple ds)
  | _ => none
def toLst : List PyData → Option PyData
  | [.list ds] => some (.list ds)
  | [.tuple ds] => some (.list ds)
  | _ => none
theorem cf_tuple : CallR X (.type "tuple") (rcF X.K toTup) := call_tuple_of.imp fun xs H Q ⟨O, ds, c, al, h, g, q⟩ => by
  match ds, h, g with
  | [.list ds], .cons (.lst h1 h2) .nil, g =>
    cases g
    exact ⟨_, _, rfl, .inl ⟨(fz_sub O H).seq h1, fun l nl => q _ _ (new_same nl) (Dx.newT al nl h2)⟩⟩
  | [.tuple ds], .cons (.tup h1 h2) .nil, g =>
    cases g
    exact ⟨_, _, rfl, .inr ⟨sqT_same (fz_sub O H) h1, q _ H (Same.refl H) (.tup h1 h2)⟩⟩
theorem cf_list : CallR X (.type "list") (rcF X.K toLst) := call_list_of.imp fun xs H Q ⟨O, ds, c, al, h, g, q⟩ => by
  match ds, h, g with
  | [.list ds], .cons (.lst h1 h2) .nil, g =>
    cases g
    exact ⟨_, _, rfl, .inl ((fz_sub O H).seq h1), fun l nl => q _ _ (new_same nl) (Dx.newL al nl h2)⟩
  | [.tuple ds], .cons (.tup h1 h2) .nil, g =>
    cases g
    exact ⟨_, _, rfl, .inr (sqT_same (fz_sub O H) h1), fun l nl => q _ _ (new_same nl) (Dx.newL al nl h2)⟩
def intD : List PyData → Option PyData
  | [.int i] => some (.int i)
  | [.bool b] => some (.int (if b then 1 else 0))
  | _ => none
theorem cf_int : CallR X (.type "int") (rcF X.K intD) := call_int1.imp fun xs H Q ⟨O, ds, c, al, h, g, q⟩ => by
  match ds, h, g with
  | [.int i], .cons (.int _) .nil, g =>
    cases g
    exact .inl ⟨i, rfl, q _ H (Same.refl H) (.int _)⟩
  | [.bool b], .cons (.bl _) .nil, g =>
    cases g
    exact .inr ⟨b, rfl, q _ H (Same.refl H) (.int _)⟩
/-! repr -/
def reprD : List PyData → Option PyData
  | [d] => if d.showable = true ∧ d.depth ≤ 40 ∧ d.shown.length < lim then some (.str d.shown) else none
  | _ => none
theorem cf_repr (hg : X.A.guards = some []) (hu : X.A.units + 64 < cLine) : CallR X (.builtin "repr") (rcF X.K reprD) := (call_reprX hg hu).imp fun xs H Q ⟨O, ds, c, al, h, g, q⟩ => by
  match ds, h, g with
  | [d], .cons h1 .nil, g =>
    simp only [reprD] at g
    split at g
    case isFalse => cases g
    rename_i hh
    cases g
    exact ⟨_, d, rfl, h1.same (fz_sub O H), hh.1, hh.2.1, Nat.le_of_lt (lim_le hh.2.2), q _ H (Same.refl H) (.str _)⟩
/-! list(range(n)), tuple(range(n)) -/
def tupI (f : Dn → Option (List PyData)) : DF := fun ρ => (f ρ).map .tuple
/-- a range, as an argument -/
structure PRF (X : Cx) (e : Expr) (f : Dn → Option (List PyData)) : Prop where
  lst : ∀ (hc : X.calm = true) {p pos : Pos} (hg : Gl X "list") (hm : X.mg "list" = none), starEach [e] X.env = (false, eval e X.env) :: starEach [] X.env → PF X (.Call (.Name "list" p) [e] [] pos) (lstI f)
  tup : ∀ (hc : X.calm = true) {p pos : Pos} (hg : Gl X "tuple") (hm : X.mg "tuple" = none), starEach [e] X.env = (false, eval e X.env) :: starEach [] X.env → PF X (.Call (.Name "tuple" p) [e] [] pos) (tupI f)
variable {f f2 : DF} {e2 : Expr}
/-! ### defs of the program -/
def spF (K : PySem.W.Frag) (n : Nat) (sem : List PyData → Option PyData) : Sp := fun vs H Q _ => ∃ O ds c, Al O H ∧ DxAll K (Fz O H) vs ds ∧ ds.length = n ∧ sem ds = some c ∧ ∀ v H', Same H H' → Dx K (Fz O H') v c → Q v H'
theorem spF_len {K : PySem.W.Frag} {n : Nat} {sem : List PyData → Option PyData} {vs : List V} {H : Hp} {Q : VK} {E : XK} (h : spF K n sem vs H Q E) : vs.length = n := by
  obtain ⟨O, ds, c, al, h1, h2, _⟩ := h
  rw [h1.len, h2]
def callU (n : Nat) (sem : List PyData → Option PyData) (fa : Dn → Option (List PyData)) : DF := fun ρ => (fa ρ).bind fun ds => if ds.length = n then sem ds else none
theorem pf_call {CX : CXT} {k n : Nat} {f : Addr} {fd : FuncData} {ps : List Str} {sem : List PyData → Option PyData} {E : XK} (F : FnG X.prog X.w X.K X.mg X.base CX k f fd ps (spF X.K n sem)) (hgd : X.A.guards = some []) (hr : Room k X.A) (hg : Gl X x) (hm : X.mg x = some (.ref f)) (hk : PySem.W.keepIn X.K (.ref f) = true) (hb : Binds X.K fd ps []) (hx : Passes CX X E)
    (ha : PFA X (e :: es) fa) (hdb : (x == ("__debug__" : Str)) = false := by decide) (he : starEach (e :: es) X.env = (false, eval e X.env) :: starEach es X.env := by rfl) (hpl : (backTo pos (starEach es X.env)).any (·.1) = false := by rfl) :
    PF X (.Call (.Name x p) (e :: es) [] pos) (callU n sem fa) :=
  ⟨(pe_callG F hgd hr hg hm hk hb .nil hx ha.pa hdb he hpl).imp fun σ H Q ⟨O, dv, ρ, d, al, r, e, q⟩ => by
    obtain ⟨ds, e1, e⟩ := Option.bind_eq_some_iff.mp e
    split at e
    case isFalse => cases e
    rename_i hl
    refine ⟨O, dv, ρ, ds, al, r, e1, fun vs H1 s1 h1 => ⟨O, ds, d, al.same s1, ?_, hl, e, fun v H2 s2 h2 => q v H2 (s1.trans s2) h2⟩⟩
    rw [List.append_nil]
    exact h1⟩
end
end DS
namespace DS
open PySem PySem.Spec PyProof.Rows L2
/-! ### isinstance -/
def tyN : PyData → String
  | .none => "NoneType"
  | .bool _ => "bool"
  | .int _ => "int"
  | .str _ => "str"
  | .list _ => "list"
  | .tuple _ => "tuple"
  | .dict _ => "dict"
theorem tyL {K : PySem.W.Frag} {H : Hp} {a : Addr} {xs : List V} (h : SqL K H a xs) : TyX K H (.ref a) (.type "list") := by
  rcases h with (h | ⟨o, h⟩) | ⟨o, its, n, h, hc, _⟩
  · exact .base (.lst h)
  · exact .base (.frz h)
  · exact .kList h hc
theorem tyT {K : PySem.W.Frag} {H : Hp} {a : Addr} {xs : List V} (h : SqT K H a xs) : TyX K H (.ref a) (.type "tuple") := by
  rcases h with (h | ⟨o, h⟩) | ⟨o, its, n, h, hc, _⟩
  · exact .base (.tup h)
  · exact .fTuple h
  · exact .kTuple h hc
theorem Dx.tyX {K : PySem.W.Frag} {H : Hp} {x : V} {d : PyData} (h : Dx K H x d) : TyX K H x (.type (tyN d)) := by
  cases h with
  | non => exact .base .non
  | bl b => exact .base (.bl b)
  | int i => exact .base (.int i)
  | str y => exact .base (.str y)
  | lst h _ => exact tyL h
  | tup h _ => exact tyT h
  | dic h _ _ => exact .base (.dK h)
  | dct h _ _ => exact .base (.dT h)
def isiS (a T : String) : Bool := a == T || (a == "bool" && T == "int")
/-- T is one of the built-in classes -/
def KitT (T : String) : Prop := ∀ d : PyData, kitB (tyN d) T = some (isiS (tyN d) T)
theorem kitT_of {T : String} (h : (["NoneType", "bool", "int", "str", "list", "tuple", "dict"].all fun a => kitB a T == some (isiS a T)) = true) : KitT T := fun d => by
  simp only [List.all_cons, List.all_nil, Bool.and_eq_true, beq_iff_eq] at h
  obtain ⟨h1, h2, h3, h4, h5, h6, h7, _⟩ := h
  cases d <;> assumption
theorem kit_tInt : KitT "int" := kitT_of (by decide +kernel)
theorem kit_tBool : KitT "bool" := kitT_of (by decide +kernel)
theorem kit_tStr : KitT "str" := kitT_of (by decide +kernel)
theorem kit_tTuple : KitT "tuple" := kitT_of (by decide +kernel)
def isiF (T : String) (f : DF) : DF := fun ρ => (f ρ).map fun d => .bool (isiS (tyN d) T)
section
variable {X : Cx} {e : Expr} {f : DF} {p p1 p2 pos : Pos} {x y z : Str} {T U : String}
theorem _root_.L2.TyX.same {K : PySem.W.Frag} {H H' : Hp} {v : V} {d : PyData} (h : Dx K H v d) (s : Same H H') : TyX K H' v (.type (tyN d)) := (h.same s).tyX
theorem pf_isi (hg : Gl X "isinstance") (hm : X.mg "isinstance" = none) (kt : KitT T) (hx : Gl X x) (mx : X.mg x = none) (bx : bootBuiltins x = some (.type T)) (he : PF X e f)
    (h1 : starEach [e, .Name x p1] X.env = (false, eval e X.env) :: starEach [.Name x p1] X.env := by rfl) (h2 : starEach [.Name x p1] X.env = (false, eval (.Name x p1) X.env) :: starEach [] X.env := by rfl) (h3 : (backTo pos (starEach [.Name x p1] X.env)).any (·.1) = false := by rfl) (n1 : x ≠ "__name__" := by decide) (n2 : (x == ("__debug__" : Str)) = false := by decide) :
    PF X (.Call (.Name "isinstance" p) [e, .Name x p1] [] pos) (isiF T f) :=
  ⟨(pe_callB call_isi hg hm (by decide +kernel) (pa_cons he.pe (pa_cons (pe_bltn (v := .ty T) hx mx bx rfl n1 n2) pa_nil h2) h1) (by decide) (by decide) h1 h3).imp fun σ H Q ⟨O, dv, ρ, c, al, r, e, q⟩ => by
    obtain ⟨d, e1, rfl⟩ := Option.map_eq_some_iff.mp e
    refine ⟨O, dv, ρ, d, al, r, e1, fun v H1 s1 hd => ⟨v, .ty T, .type (tyN d), .type T, _, rfl, .ty T, (hd.same (fz_sub O H1)).tyX, kit_ty (kt d), q _ H1 s1 (.bl _)⟩⟩⟩
end
/-! ### the state behind a def's statements -/
structure Fr where
  H0 : Hp
  O0 : Hid
  M : Hid
  dv : V
  Dk : Hp → Nat → Prop
structure RepS (K : PySem.W.Frag) (S : Fr) (B : Hp) (O : Hid) (H : Hp) (σ : L2.St) (ρ : Dn) (n : Nat) : Prop where
  al : Al O H
  rep : RepE K O H S.dv σ ρ
  kp : ∀ b x, S.H0 b = some x → ¬ S.M b → H b = some x
  sub : ∀ b, S.O0 b → O b
  mo : ∀ b, S.M b → O b
  fz : Same B (Fz O H)
  ow : ∀ (i : Nat) (e : Ent) (ov : Option V) (q : Addr), ρ[i]? = some e → σ[i]? = some ov → Hd H ov e q → S.H0 q = none ∧ ¬ S.M q ∧ ∀ (j : Nat) (e' : Ent) (ov' : Option V), ρ[j]? = some e' → σ[j]? = some ov' → Hd H ov' e' q → i = j
  dk : S.Dk H n
/-- the deck's word looks at the deck alone -/
structure Fr.Ok (S : Fr) : Prop where
  dk : ∀ (H H' : Hp) (n : Nat), (∀ a, S.M a → H' a = H a) → S.Dk H n → S.Dk H' n
  al : Al S.O0 S.H0
section
variable {K : PySem.W.Frag} {S : Fr} {B B' H H' : Hp} {O : Hid} {σ : L2.St} {ρ : Dn} {n : Nat}
theorem RepS.ent (h : RepS K S B O H σ ρ n) {i : Nat} {e : Ent} {ov : Option V} (e1 : ρ[i]? = some e) (e2 : σ[i]? = some ov) : EntOk K O H S.dv ov e := by
  obtain ⟨ov', h1, h2⟩ := h.rep.2 i e e1
  rw [e2] at h1
  cases h1
  exact h2
/-- the words about one's own addresses, in another heap that is the same there -/
theorem RepS.ow' (h : RepS K S B O H σ ρ n) (k : ∀ (i : Nat) (e : Ent) (ov : Option V) (q : Addr), ρ[i]? = some e → σ[i]? = some ov → Hd H ov e q → H' q = H q) :
    ∀ (i : Nat) (e : Ent) (ov : Option V) (q : Addr), ρ[i]? = some e → σ[i]? = some ov → Hd H' ov e q → S.H0 q = none ∧ ¬ S.M q ∧ ∀ (j : Nat) (e' : Ent) (ov' : Option V), ρ[j]? = some e' → σ[j]? = some ov' → Hd H' ov' e' q → i = j := fun i e ov q e1 e2 e3 => by
  have b : ∀ (j : Nat) (e' : Ent) (ov' : Option V), ρ[j]? = some e' → σ[j]? = some ov' → Hd H' ov' e' q → Hd H ov' e' q := fun j e' ov' z1 z2 z3 => Hd.eq (h.ent z1 z2) (fun q' k' => k j e' ov' q' z1 z2 k') z3
  obtain ⟨h1, h2, h3⟩ := h.ow i e ov q e1 e2 (b i e ov e1 e2 e3)
  exact ⟨h1, h2, fun j e' ov' z1 z2 z3 => h3 j e' ov' z1 z2 (b j e' ov' z1 z2 z3)⟩
theorem RepS.sameAt (h : RepS K S B O H σ ρ n) (s : Same H H') : ∀ (i : Nat) (e : Ent) (ov : Option V) (q : Addr), ρ[i]? = some e → σ[i]? = some ov → Hd H ov e q → H' q = H q := fun i e ov q e1 e2 k => by
  obtain ⟨_, x, z⟩ := (h.ent e1 e2).hd k
  rw [z]
  exact s q x z
theorem RepS.same (h : RepS K S B O H σ ρ n) (ok : S.Ok) (s : Same H H') : RepS K S B O H' σ ρ n where
  al := h.al.same s
  rep := h.rep.same s
  kp := fun b x e m => s b x (h.kp b x e m)
  sub := h.sub
  mo := h.mo
  fz := h.fz.trans (s.fz O)
  ow := h.ow' (h.sameAt s)
  dk := ok.dk H H' n (fun a m => by
    cases e : H a with
    | none => exact absurd e (h.al a (h.mo a m))
    | some o => exact s a o e) h.dk
theorem RepS.base (h : RepS K S B O H σ ρ n) (s : Same B' B) : RepS K S B' O H σ ρ n := ⟨h.al, h.rep, h.kp, h.sub, h.mo, s.trans h.fz, h.ow, h.dk⟩
theorem RepS.here (h : RepS K S B O H σ ρ n) : RepS K S (Fz O H) O H σ ρ n := ⟨h.al, h.rep, h.kp, h.sub, h.mo, Same.refl _, h.ow, h.dk⟩
def notOwn (e : Ent) : Prop := ∀ H ov q, ¬ Hd H ov e q
theorem notOwn_dat {d : PyData} : notOwn (.dat d) := fun _ _ _ h => h
theorem RepS.set (h : RepS K S B O H σ ρ n) {v : V} {e : Ent} (k : EntOk K O H S.dv (some v) e) (no : notOwn e) (i : Nat) : RepS K S B O H (σ.set i (some v)) (ρ.set i e) n where
  al := h.al
  rep := h.rep.set k i
  kp := h.kp
  sub := h.sub
  mo := h.mo
  fz := h.fz
  ow := fun j e' ov q e1 e2 e3 => by
    have ne : ∀ (j : Nat) e' ov, (ρ.set i e)[j]? = some e' → Hd H ov e' q → i ≠ j := fun j e' ov z z3 w => by
      subst w
      have lt : i < ρ.length := by
        have := (List.getElem?_eq_some_iff.mp z).1
        rwa [List.length_set] at this
      rw [List.getElem?_set_self lt] at z
      cases z
      exact no H ov q z3
    have n1 := ne j e' ov e1 e3
    rw [List.getElem?_set_ne n1] at e1 e2
    obtain ⟨h1, h2, h3⟩ := h.ow j e' ov q e1 e2 e3
    refine ⟨h1, h2, fun l es ol e4 e5 e6 => ?_⟩
    have n2 := ne l es ol e4 e6
    rw [List.getElem?_set_ne n2] at e4 e5
    exact h3 l es ol e4 e5 e6
  dk := h.dk
/-- new objects of one's own, put into slot i: their addresses A -/
theorem RepS.fresh (h : RepS K S B O H σ ρ n) (ok : S.Ok) {A : Addr → Prop} {v : V} {e : Ent} {H' : Hp} (s : Same H H') (nA : ∀ q, A q → H q = none) (k : EntOk K (fun a => O a ∨ A a) H' S.dv (some v) e) (there : ∀ q, A q → H' q ≠ none) (inA : ∀ q, Hd H' (some v) e q → A q) (i : Nat) :
    RepS K S B (fun a => O a ∨ A a) H' (σ.set i (some v)) (ρ.set i e) n := by
  have f : Same (Fz O H) (Fz (fun a => O a ∨ A a) H') := fun b o z => by
    obtain ⟨z1, z2⟩ := fz_get z
    rw [fz_out fun w => w.elim z2 fun w => by rw [nA b w] at z1; cases z1]
    exact s b o z1
  have news : ∀ q, A q → S.H0 q = none ∧ ¬ S.M q := fun q hq => by
    have nm : ¬ S.M q := fun z => h.al q (h.mo q z) (nA q hq)
    refine ⟨?_, nm⟩
    cases z : S.H0 q with
    | none => rfl
    | some x =>
      have := h.kp q x z nm
      rw [nA q hq] at this
      cases this
  have old : ∀ (j : Nat) e' ov q, ρ[j]? = some e' → σ[j]? = some ov → Hd H ov e' q → ¬ A q := fun j e' ov q z1 z2 z3 w => by
    obtain ⟨_, x, z⟩ := (h.ent z1 z2).hd z3
    rw [nA q w] at z
    cases z
  refine ⟨fun a z => ?_, (h.rep.shift s f fun b z => .inl z).set k i, fun b x e m => s b x (h.kp b x e m), fun b z => .inl (h.sub b z), fun b z => .inl (h.mo b z), fun b o z => f b o (h.fz b o z), fun j e' ov q e1 e2 e3 => ?_, ok.dk H H' n (fun a m => ?_) h.dk⟩
  · rcases z with z | z
    · exact h.al.same s a z
    · exact there a z
  · have ow1 := h.ow' (h.sameAt s)
    by_cases hj : i = j
    · subst hj
      have lt : i < σ.length := by
        have := (List.getElem?_eq_some_iff.mp e2).1
        rwa [List.length_set] at this
      rw [List.getElem?_set_self lt] at e2
      rw [List.getElem?_set_self (by rw [h.rep.1]; exact lt)] at e1
      cases e1
      cases e2
      have hA := inA q e3
      refine ⟨(news q hA).1, (news q hA).2, fun l fs ol e4 e5 e6 => ?_⟩
      by_cases hl : i = l
      · exact hl
      · rw [List.getElem?_set_ne hl] at e4 e5
        exact absurd hA (old l fs ol q e4 e5 (Hd.eq (h.ent e4 e5) (fun q' k' => h.sameAt s l fs ol q' e4 e5 k') e6))
    · rw [List.getElem?_set_ne hj] at e1 e2
      obtain ⟨h1, h2, h3⟩ := ow1 j e' ov q e1 e2 e3
      refine ⟨h1, h2, fun l fs ol e4 e5 e6 => ?_⟩
      by_cases hl : i = l
      · subst hl
        have lt : i < σ.length := by
          have := (List.getElem?_eq_some_iff.mp e5).1
          rwa [List.length_set] at this
        rw [List.getElem?_set_self lt] at e5
        rw [List.getElem?_set_self (by rw [h.rep.1]; exact lt)] at e4
        cases e4
        cases e5
        exact absurd (inA q e6) (old j e' ov q e1 e2 (Hd.eq (h.ent e1 e2) (fun q' k' => h.sameAt s j e' ov q' e1 e2 k') e3))
      · rw [List.getElem?_set_ne hl] at e4 e5
        exact h3 l fs ol e4 e5 e6
  · cases z : H a with
    | none => exact absurd z (h.al a (h.mo a m))
    | some o => exact s a o z
/-- a new list of one's own in slot i -/
theorem RepS.new (h : RepS K S B O H σ ρ n) (ok : S.Ok) {p : Addr} {vs : List V} {ds : List PyData} {H' : Hp} (s : Same H H') (np : H p = none) (hp : H' p = some (.lst vs)) (dx : DxAll K (Fz (hide O p) H') vs ds) (i : Nat) :
    RepS K S B (hide O p) H' (σ.set i (some (.ref p))) (ρ.set i (.own ds)) n :=
  h.fresh ok (A := fun a => a = p) (v := .ref p) (e := .own ds) s (fun q e => by rw [e]; exact np) ⟨p, vs, rfl, .inr rfl, hp, dx⟩ (fun q e => by rw [e, hp]; exact fun w => nomatch w) (fun q e => by cases e; rfl) i
/-- an object of one's own, in slot i, changed -/
theorem RepS.poke (h : RepS K S B O H σ ρ n) (ok : S.Ok) {q : Addr} {o : HO} {i : Nat} {e e' : Ent} {ov : Option V} (e1 : ρ[i]? = some e) (e2 : σ[i]? = some ov) (hq : Hd H ov e q) (new : EntOk K O (upd H q o) S.dv ov e') (sub : ∀ a, Hd (upd H q o) ov e' a → Hd H ov e a) :
    RepS K S B O (upd H q o) σ (ρ.set i e') n := by
  have h3 := ((h.ent e1 e2).hd hq).1
  obtain ⟨f1, f2, f3⟩ := h.ow i e ov q e1 e2 hq
  have li : i < ρ.length := (List.getElem?_eq_some_iff.mp e1).1
  have fe : Fz O (upd H q o) = Fz O H := fz_upd h3
  have oth : ∀ (j : Nat) g og a, i ≠ j → ρ[j]? = some g → σ[j]? = some og → Hd H og g a → (upd H q o) a = H a := fun j g og a hj z1 z2 z3 => upd_ne fun w => hj (f3 j g og z1 z2 (by rw [← w]; exact z3))
  refine ⟨fun a z => ?_, ⟨by rw [List.length_set]; exact h.rep.1, fun j g z => ?_⟩, fun b x z m => ?_, h.sub, h.mo, by rw [fe]; exact h.fz, fun j g og a z1 z2 z3 => ?_, ok.dk H _ n (fun a m => ?_) h.dk⟩
  · by_cases w : a = q
    · rw [w, upd_same]
      exact fun w => nomatch w
    · rw [upd_ne w]
      exact h.al a z
  · by_cases hj : i = j
    · subst hj
      rw [List.getElem?_set_self li] at z
      cases z
      exact ⟨_, e2, new⟩
    · rw [List.getElem?_set_ne hj] at z
      obtain ⟨og, k1, k2⟩ := h.rep.2 j g z
      exact ⟨og, k1, k2.shift (fun _ z => z) (by rw [fe]; exact Same.refl _) fun a k => oth j g og a hj z k1 k⟩
  · rw [upd_ne fun w => by rw [w, f1] at z; cases z]
    exact h.kp b x z m
  · -- the old words
    have old : ∀ (l : Nat) g og, (ρ.set i e')[l]? = some g → σ[l]? = some og → Hd (upd H q o) og g a → ∃ g', ρ[l]? = some g' ∧ Hd H og g' a := fun l g og y1 y2 y3 => by
      by_cases hl : i = l
      · subst hl
        rw [List.getElem?_set_self li] at y1
        cases y1
        rw [e2] at y2
        cases y2
        exact ⟨e, e1, sub a y3⟩
      · rw [List.getElem?_set_ne hl] at y1
        exact ⟨g, y1, Hd.eq (h.ent y1 y2) (fun a' k' => oth l g og a' hl y1 y2 k') y3⟩
    obtain ⟨g', y1, y2⟩ := old j g og z1 z2 z3
    obtain ⟨k1, k2, k3⟩ := h.ow j g' og a y1 z2 y2
    refine ⟨k1, k2, fun l gl ol w1 w2 w3 => ?_⟩
    obtain ⟨g2, y3, y4⟩ := old l gl ol w1 w2 w3
    exact k3 l g2 ol y3 w2 y4
  · exact upd_ne fun w => f2 (by rw [← w]; exact m)
/-- a list of one's own changed -/
theorem RepS.put (h : RepS K S B O H σ ρ n) (ok : S.Ok) {p : Addr} {vs : List V} {ds es : List PyData} {i : Nat} (e1 : ρ[i]? = some (.own ds)) (e2 : σ[i]? = some (some (.ref p))) (dx : DxAll K (Fz O H) vs es) :
    RepS K S B O (upd H p (.lst vs)) σ (ρ.set i (.own es)) n := by
  have h3 := ((h.ent e1 e2).hd (q := p) rfl).1
  exact h.poke ok e1 e2 (q := p) rfl ⟨p, vs, rfl, h3, upd_same, by rw [fz_upd h3]; exact dx⟩ fun a z => z
/-- an entry of one's own is data from here on -/
theorem RepS.melt (h : RepS K S B O H σ ρ n) (ok : S.Ok) {i : Nat} {e : Ent} {v : V} {d : PyData} (e1 : ρ[i]? = some e) (e2 : σ[i]? = some (some v)) (dx : Dx K (Fz (fun a => O a ∧ ¬ Hd H (some v) e a) H) v d) :
    RepS K S B (fun a => O a ∧ ¬ Hd H (some v) e a) H σ (ρ.set i (.dat d)) n := by
  have li : i < ρ.length := (List.getElem?_eq_some_iff.mp e1).1
  have ss : Same (Fz O H) (Fz (fun a => O a ∧ ¬ Hd H (some v) e a) H) := fz_less (fun b z => z.1) H
  have own := fun a (k : Hd H (some v) e a) => h.ow i e (some v) a e1 e2 k
  refine ⟨fun a z => h.al a z.1, ⟨by rw [List.length_set]; exact h.rep.1, fun j g z => ?_⟩, h.kp, fun b z => ⟨h.sub b z, fun k => ok.al b z (own b k).1⟩, fun b z => ⟨h.mo b z, fun k => (own b k).2.1 z⟩, h.fz.trans ss, fun j g og a z1 z2 z3 => ?_, h.dk⟩
  · by_cases hj : i = j
    · subst hj
      rw [List.getElem?_set_self li] at z
      cases z
      exact ⟨_, e2, v, rfl, dx⟩
    · rw [List.getElem?_set_ne hj] at z
      obtain ⟨og, k1, k2⟩ := h.rep.2 j g z
      refine ⟨og, k1, ?_⟩
      have nn : ∀ a, Hd H og g a → ¬ Hd H (some v) e a := fun a y1 y2 => hj ((own a y2).2.2 j g og z k1 y1)
      cases g with
      | na => trivial
      | dat d =>
        obtain ⟨v, k3, k4⟩ := k2
        exact ⟨v, k3, k4.same ss⟩
      | own fs =>
        obtain ⟨p, ws, k3, k4, k5, k6⟩ := k2
        exact ⟨p, ws, k3, ⟨k4, nn p k3⟩, k5, k6.same ss⟩
      | rows fs =>
        obtain ⟨p, qs, k3, k4, k5, k6, k7, k8⟩ := k2
        refine ⟨p, qs, k3, ⟨k4, nn p (.inl k3)⟩, k5, k6, k7, ?_⟩
        have : ∀ {qs' : List Addr} {dss : List (List PyData)}, RowsOk K O H qs' dss → (∀ q ∈ qs', q ∈ qs) → RowsOk K (fun a => O a ∧ ¬ Hd H (some v) e a) H qs' dss := fun {qs' dss} r => by
          induction r with
          | nil => exact fun _ => .nil
          | cons a1 a2 a3 a4 ih => exact fun m => .cons ⟨a1, nn _ (.inr ⟨p, _, k3, k5, List.mem_map_of_mem (m _ List.mem_cons_self)⟩)⟩ a2 (a3.same ss) (ih fun q hq => m q (List.mem_cons_of_mem _ hq))
        exact this k8 fun q hq => hq
      | dct fs =>
        obtain ⟨p, ws, k3, k4, k5, k6⟩ := k2
        exact ⟨p, ws, k3, ⟨k4, nn p k3⟩, k5, k6.same ss⟩
      | dck fs =>
        obtain ⟨p, ws, k3, k4, k5, k6⟩ := k2
        exact ⟨p, ws, k3, ⟨k4, nn p k3⟩, k5, k6.same ss⟩
      | dk => exact k2
      | tn fs =>
        obtain ⟨p, ws, o, k3, k4, k5, k6, k7⟩ := k2
        exact ⟨p, ws, o, k3, ss p _ k4, k5, k6, k7.same ss⟩
      | sd l d =>
        obtain ⟨v, k3, k4⟩ := k2
        exact ⟨v, k3, k4.same ss⟩
      | err a0 d0 f0 =>
        obtain ⟨k3, k30, k4⟩ := k2
        refine ⟨k3, k30, fun y x q => ?_⟩
        obtain ⟨dd, v, w1, w2, w3⟩ := k4 y x q
        exact ⟨dd, v, w1, ss dd _ w2, w3.same ss⟩
  · have ne : ∀ (l : Nat) g og, (ρ.set i (.dat d))[l]? = some g → Hd H og g a → i ≠ l ∧ ρ[l]? = some g := fun l g og y1 y3 => by
      have nl : i ≠ l := fun w => by
        subst w
        rw [List.getElem?_set_self li] at y1
        cases y1
        exact y3
      rw [List.getElem?_set_ne nl] at y1
      exact ⟨nl, y1⟩
    obtain ⟨_, y1⟩ := ne j g og z1 z3
    obtain ⟨k1, k2, k3⟩ := h.ow j g og a y1 z2 z3
    exact ⟨k1, k2, fun l gl ol w1 w2 w3 => k3 l gl ol (ne l gl ol w1 w3).2 w2 w3⟩
theorem RepS.freeze (h : RepS K S B O H σ ρ n) (ok : S.Ok) {ds : List PyData} {i : Nat} (e1 : ρ[i]? = some (.own ds)) : ∃ O', RepS K S B O' H σ (ρ.set i (.dat (.list ds))) n := by
  obtain ⟨ov, h1, p, us, h2, h3, h4, h5⟩ := h.rep.2 i _ e1
  subst h2
  refine ⟨_, h.melt ok e1 h1 (.lst (.inl (.inl ?_)) (h5.same (fz_less (fun b z => z.1) H)))⟩
  rw [fz_out fun w => w.2 rfl]
  exact h4
theorem kv_dx {κ : Type} {H : Hp} : ∀ {kvs : List (κ × V)} {kds : List (κ × PyData)}, KvOk K H kvs kds → DxAll K H (kvs.map (·.2)) (kds.map (·.2)) ∧ kvs.map (·.1) = kds.map (·.1)
  | _, _, .nil => ⟨.nil, rfl⟩
  | _, _, .cons h r => ⟨.cons h (kv_dx r).1, by rw [List.map_cons, List.map_cons, (kv_dx r).2]⟩
theorem zip_kv {κ : Type} (f : κ → PyData) (kds : List (κ × PyData)) : kds.map (fun p => (f p.1, p.2)) = ((kds.map (·.1)).map f).zip (kds.map (·.2)) := by
  induction kds with
  | nil => rfl
  | cons p l ih => rw [List.map_cons, List.map_cons, List.map_cons, List.map_cons, List.zip_cons_cons, ih]
/-- dicts as data -/
def dctD (kds : List (List Key × PyData)) : PyData := .dict (kds.map fun p => (kT p.1, p.2))
def dckD (kds : List (Key × PyData)) : PyData := .dict (kds.map fun p => (kD p.1, p.2))
theorem RepS.freezeT (h : RepS K S B O H σ ρ n) (ok : S.Ok) {kds : List (List Key × PyData)} {i : Nat} (e1 : ρ[i]? = some (.dct kds)) : ∃ O', RepS K S B O' H σ (ρ.set i (.dat (dctD kds))) n := by
  obtain ⟨ov, h1, p, kvs, h2, h3, h4, h5⟩ := h.rep.2 i _ e1
  subst h2
  obtain ⟨d1, d2⟩ := kv_dx h5
  refine ⟨_, h.melt ok e1 h1 (.dct (kvs := kvs) ?_ (d1.same (fz_less (fun b z => z.1) H)) ?_)⟩
  · rw [fz_out fun w => w.2 rfl]
    exact h4
  · rw [zip_kv kT kds, ← d2, List.map_map]
    rfl
theorem RepS.freezeK (h : RepS K S B O H σ ρ n) (ok : S.Ok) {kds : List (Key × PyData)} {i : Nat} (e1 : ρ[i]? = some (.dck kds)) : ∃ O', RepS K S B O' H σ (ρ.set i (.dat (dckD kds))) n := by
  obtain ⟨ov, h1, p, kvs, h2, h3, h4, h5⟩ := h.rep.2 i _ e1
  subst h2
  obtain ⟨d1, d2⟩ := kv_dx h5
  refine ⟨_, h.melt ok e1 h1 (.dic (kvs := kvs) ?_ (d1.same (fz_less (fun b z => z.1) H)) ?_)⟩
  · rw [fz_out fun w => w.2 rfl]
    exact h4
  · rw [zip_kv kD kds, ← d2, List.map_map]
    rfl
theorem rows_dx {A : Addr → Prop} : ∀ {qs : List Addr} {dss : List (List PyData)}, RowsOk K O H qs dss → (∀ q ∈ qs, A q) → DxAll K (Fz (fun a => O a ∧ ¬ A a) H) (qs.map V.ref) (dss.map PyData.list)
  | _, _, .nil, _ => .nil
  | _, _, .cons (q := q) h1 h2 h3 r, m => .cons (.lst (.inl (.inl (by rw [fz_out fun w => w.2 (m q List.mem_cons_self)]; exact h2))) (h3.same (fz_less (fun b z => z.1) H))) (rows_dx r fun x hx => m x (List.mem_cons_of_mem _ hx))
theorem RepS.freezeR (h : RepS K S B O H σ ρ n) (ok : S.Ok) {dss : List (List PyData)} {i : Nat} (e1 : ρ[i]? = some (.rows dss)) : ∃ O', RepS K S B O' H σ (ρ.set i (.dat (.list (dss.map .list)))) n := by
  obtain ⟨ov, h1, p, qs, h2, h3, h4, h5, h6, h7⟩ := h.rep.2 i _ e1
  subst h2
  refine ⟨_, h.melt ok e1 h1 (.lst (.inl (.inl ?_)) (rows_dx h7 fun q hq => .inr ⟨p, _, rfl, h4, List.mem_map_of_mem hq⟩))⟩
  rw [fz_out fun w => w.2 (.inl rfl)]
  exact h4
end
end DS
namespace DS
open PySem PySem.Spec PyProof.Rows L2
/-! ### statements over data -/
structure EnD where
  nx : Dn → Nat → Prop
  rt : PyData → Nat → Prop
  bk : Dn → Nat → Prop
  ct : Dn → Nat → Prop
abbrev TD := EnD → Dn → Nat → Prop
structure Ends2 (K : PySem.W.Frag) (S : Fr) (B : Hp) (DD : EnD) (D : Ends) : Prop where
  nx : ∀ O' σ' H' ρ' n', RepS K S B O' H' σ' ρ' n' → DD.nx ρ' n' → D.nx σ' H'
  bk : ∀ O' σ' H' ρ' n', RepS K S B O' H' σ' ρ' n' → DD.bk ρ' n' → D.bk σ' H'
  ct : ∀ O' σ' H' ρ' n', RepS K S B O' H' σ' ρ' n' → DD.ct ρ' n' → D.ct σ' H'
  rt : ∀ v H' d n', Dx K (Fz S.O0 H') v d → (∀ b x, S.H0 b = some x → ¬ S.M b → H' b = some x) → Al S.O0 H' → S.Dk H' n' → DD.rt d n' → D.rt v H'
def tS (K : PySem.W.Frag) (S : Fr) (T : TD) : TS := fun D σ H => ∃ B O ρ n DD, RepS K S B O H σ ρ n ∧ T DD ρ n ∧ Ends2 K S B DD D
structure PD (X : Cx) (S : Fr) (st : Stmt) (T : TD) : Prop where
  ps : PS X st (tS X.K S T)
structure PDs (X : Cx) (S : Fr) (st : List Stmt) (T : TD) : Prop where
  pss : PSs X st (tS X.K S T)
section
variable {X : Cx} {S : Fr} {st : Stmt} {rest : List Stmt} {T U : TD} {pos : Pos}
theorem RepS.out {K : PySem.W.Frag} {B H' : Hp} {O : Hid} {σ : L2.St} {ρ : Dn} {n : Nat} {v : V} {d : PyData} {D : Ends} {DD : EnD} (h : RepS K S B O H' σ ρ n) (E : Ends2 K S B DD D) (dx : Dx K (Fz O H') v d) (q : DD.rt d n) : D.rt v H' :=
  E.rt v H' d n (dx.same (fz_less h.sub H')) h.kp (fun a z => h.al a (h.sub a z)) h.dk q
def dNil : TD := fun DD ρ n => DD.nx ρ n
def dSeq (T U : TD) : TD := fun DD ρ n => T { DD with nx := fun ρ' n' => U DD ρ' n' } ρ n
theorem pds_nil : PDs X S [] dNil := ⟨pss_nil.imp fun D σ H ⟨B, O, ρ, n, DD, r, t, E⟩ => E.nx O σ H ρ n r t⟩
theorem pds_cons (h1 : PD X S st T) (h2 : PDs X S rest U) : PDs X S (st :: rest) (dSeq T U) := ⟨(pss_cons h1.ps h2.pss).imp fun D σ H ⟨B, O, ρ, n, DD, r, t, E⟩ =>
  ⟨B, O, ρ, n, _, r, t, ⟨fun O' σ' H' ρ' n' r' u => ⟨B, O', ρ', n', DD, r', u, E⟩, E.bk, E.ct, E.rt⟩⟩⟩
theorem pds_one (h1 : PD X S st T) : PDs X S [st] T := ⟨pss_one h1.ps⟩
/-! return, names, if -/
def dRet (f : DF) : TD := fun DD ρ n => ∃ d, f ρ = some d ∧ DD.rt d n
theorem pd_ret (ok : S.Ok) {e : Expr} {f : DF} (h : PF X e f) : PD X S (.Return (some e) pos) (dRet f) := ⟨(ps_ret h.pe).imp fun D σ H ⟨B, O, ρ, n, DD, r, ⟨d, e1, t⟩, E⟩ =>
  ⟨O, S.dv, ρ, d, r.al, r.rep, e1, fun v H' s dx => (r.same ok s).out E dx t⟩⟩
def dSet (i : Nat) (f : DF) : TD := fun DD ρ n => ∃ d, f ρ = some d ∧ DD.nx (ρ.set i (.dat d)) n
theorem dSet_ok (ok : S.Ok) {i : Nat} {f : DF} {K : PySem.W.Frag} {D : Ends} {σ : L2.St} {H : Hp} (h : tS K S (dSet i f) D σ H) : tAsg (tF K f) (gName i) D σ H := by
  obtain ⟨B, O, ρ, n, DD, r, ⟨d, e1, t⟩, E⟩ := h
  exact ⟨O, S.dv, ρ, d, r.al, r.rep, e1, fun v H' s dx => E.nx O _ H' _ n ((r.same ok s).set (v := v) (e := .dat d) ⟨v, rfl, dx⟩ notOwn_dat i) t⟩
theorem pd_set (ok : S.Ok) {i : Nat} {x : Str} {e : Expr} {f : DF} {pos' : Pos} (hN : X.N.Nodup) (hi : X.N[i]? = some x) (hx : Loc X.env.scope x) (he : PF X e f) (hs : swapsWith e (some (.Name x pos')) pos.line X.env = pure false := by rfl) (hf : X.fn x = true ∨ X.env.scope.names.lookup x = some .local := by first | exact .inl rfl | exact .inr rfl | assumption) :
    PD X S (.Assign [.Name x pos'] e pos) (dSet i f) := ⟨(ps_set hN hi hx he.pe hs hf).imp fun D σ H h => dSet_ok ok h⟩
/-- a new list of one's own -/
def dOwn (i : Nat) (f : Dn → Option (List PyData)) : TD := fun DD ρ n => ∃ ds, f ρ = some ds ∧ DD.nx (ρ.set i (.own ds)) n
theorem dOwn_ok (ok : S.Ok) {i : Nat} {f : Dn → Option (List PyData)} {K : PySem.W.Frag} {D : Ends} {σ : L2.St} {H : Hp} (h : tS K S (dOwn i f) D σ H) : tAsg (tFL K f) (gName i) D σ H := by
  obtain ⟨B, O, ρ, n, DD, r, ⟨ds, e1, t⟩, E⟩ := h
  exact ⟨O, S.dv, ρ, ds, r.al, r.rep, e1, fun p vs H' s np hp dx => E.nx _ _ H' _ n (r.new ok s np hp dx i) t⟩
theorem pd_own (ok : S.Ok) {i : Nat} {x : Str} {e : Expr} {f : Dn → Option (List PyData)} {pos' : Pos} (hN : X.N.Nodup) (hi : X.N[i]? = some x) (hx : Loc X.env.scope x) (he : PFL X e f) (hs : swapsWith e (some (.Name x pos')) pos.line X.env = pure false := by rfl) (hf : X.fn x = true ∨ X.env.scope.names.lookup x = some .local := by first | exact .inl rfl | exact .inr rfl | assumption) :
    PD X S (.Assign [.Name x pos'] e pos) (dOwn i f) := ⟨(ps_set hN hi hx he.pe hs hf).imp fun D σ H h => dOwn_ok ok h⟩
/-- name = [.. for ..] on one row -/
theorem tFL_of {K : PySem.W.Frag} {f : Dn → Option (List PyData)} {σ : L2.St} {H : Hp} {Q : VK} (h : tF K (lstI f) σ H Q) : tFL K f σ H Q := by
  obtain ⟨O, dv, ρ, d, al, r, e, q⟩ := h
  obtain ⟨ds, e1, rfl⟩ := Option.map_eq_some_iff.mp e
  refine ⟨O, dv, ρ, ds, al, r, e1, fun p vs H' s np hp dx => q _ H' s (.lst (.inl (.inl ?_)) (dx.same (fz_less (fun b z => .inl z) H')))⟩
  rw [fz_out (al.new np)]
  exact hp
section
variable {i : Nat} {y : Str} {py : Pos} {elt tg iter : Expr} {ifs : List Expr} {scope : Scope} {own : List (Str × Nat)} {spos : Pos} {fi : Dn → Option (List PyData)} {sl : List Nat} {g : PyData → Dn → Option Dn} {tt : Dn → Option Bool} {te : DF}
theorem ps_lcF (hc : X.calm = true) (hN : X.N.Nodup) (hy : X.N[i]? = some y) (hyl : X.env.scope.names.lookup y = some .local)
    (hsw : swapsWith (.ListComp elt [⟨tg, iter, ifs, 0⟩] scope pos) (some (.Name y py)) spos.line X.env = pure true) (hi : PIF X tg iter fi) (ok : BlkOk X.N X.env.scope scope own)
    (hg : ∀ (s : Shared) (H : Hp) (C : Addr) (cl : List (Str × Addr)) (fp : List Addr), PGF (X.blk s H scope (compEnvC scope cl C X.env) fp) tg sl g) (ht : ∀ (s : Shared) (H : Hp) (C : Addr) (cl : List (Str × Addr)) (fp : List Addr), PTsF (X.blk s H scope (compEnvC scope cl C X.env) fp) ifs tt)
    (he : ∀ (s : Shared) (H : Hp) (C : Addr) (cl : List (Str × Addr)) (fp : List Addr), PF (X.blk s H scope (compEnvC scope cl C X.env) fp) elt te) (hsl : ∀ i ∈ sl, i ∈ own.map (·.2) := by decide) (hs : ∀ x, foldedSetIterable iter X.env x = pure x := by intro _; rfl) :
    PS X (.Assign [.Name y py] (.ListComp elt [⟨tg, iter, ifs, 0⟩] scope pos) spos) (tAsg (tFL X.K (lcL fi g tt te (own.map (·.2)))) (gName i)) :=
  (ps_setLc (g := tG X.K sl g) (tt := tFT X.K tt) (te := tF X.K te) hc hN hy hyl hsw hi.pi ok (fun s H C cl fp => (hg s H C cl fp).pg) (fun s H C cl fp => (ht s H C cl fp).pts) (fun s H C cl fp => (he s H C cl fp).pe) hs).imp fun D σ H h => tlcF hsl h
theorem pd_setLc (ok0 : S.Ok) (hc : X.calm = true) (hN : X.N.Nodup) (hy : X.N[i]? = some y) (hyl : X.env.scope.names.lookup y = some .local)
    (hsw : swapsWith (.ListComp elt [⟨tg, iter, ifs, 0⟩] scope pos) (some (.Name y py)) spos.line X.env = pure true) (hi : PIF X tg iter fi) (ok : BlkOk X.N X.env.scope scope own)
    (hg : ∀ (s : Shared) (H : Hp) (C : Addr) (cl : List (Str × Addr)) (fp : List Addr), PGF (X.blk s H scope (compEnvC scope cl C X.env) fp) tg sl g) (ht : ∀ (s : Shared) (H : Hp) (C : Addr) (cl : List (Str × Addr)) (fp : List Addr), PTsF (X.blk s H scope (compEnvC scope cl C X.env) fp) ifs tt)
    (he : ∀ (s : Shared) (H : Hp) (C : Addr) (cl : List (Str × Addr)) (fp : List Addr), PF (X.blk s H scope (compEnvC scope cl C X.env) fp) elt te) (hsl : ∀ i ∈ sl, i ∈ own.map (·.2) := by decide) (hs : ∀ x, foldedSetIterable iter X.env x = pure x := by intro _; rfl) :
    PD X S (.Assign [.Name y py] (.ListComp elt [⟨tg, iter, ifs, 0⟩] scope pos) spos) (dSet i (lstI (lcL fi g tt te (own.map (·.2))))) :=
  ⟨(ps_lcF hc hN hy hyl hsw hi ok hg ht he hsl hs).imp fun D σ H h => tFL_of (dSet_ok ok0 h)⟩
theorem pd_ownLc (ok0 : S.Ok) (hc : X.calm = true) (hN : X.N.Nodup) (hy : X.N[i]? = some y) (hyl : X.env.scope.names.lookup y = some .local)
    (hsw : swapsWith (.ListComp elt [⟨tg, iter, ifs, 0⟩] scope pos) (some (.Name y py)) spos.line X.env = pure true) (hi : PIF X tg iter fi) (ok : BlkOk X.N X.env.scope scope own)
    (hg : ∀ (s : Shared) (H : Hp) (C : Addr) (cl : List (Str × Addr)) (fp : List Addr), PGF (X.blk s H scope (compEnvC scope cl C X.env) fp) tg sl g) (ht : ∀ (s : Shared) (H : Hp) (C : Addr) (cl : List (Str × Addr)) (fp : List Addr), PTsF (X.blk s H scope (compEnvC scope cl C X.env) fp) ifs tt)
    (he : ∀ (s : Shared) (H : Hp) (C : Addr) (cl : List (Str × Addr)) (fp : List Addr), PF (X.blk s H scope (compEnvC scope cl C X.env) fp) elt te) (hsl : ∀ i ∈ sl, i ∈ own.map (·.2) := by decide) (hs : ∀ x, foldedSetIterable iter X.env x = pure x := by intro _; rfl) :
    PD X S (.Assign [.Name y py] (.ListComp elt [⟨tg, iter, ifs, 0⟩] scope pos) spos) (dOwn i (lcL fi g tt te (own.map (·.2)))) :=
  ⟨(ps_lcF hc hN hy hyl hsw hi ok hg ht he hsl hs).imp fun D σ H h => dOwn_ok ok0 h⟩
end
/-- a, b = x, y -/
def dPar (i j : Nat) (g : Dn → Option (List PyData)) : TD := fun DD ρ n => ∃ x y, g ρ = some [x, y] ∧ DD.nx ((ρ.set i (.dat x)).set j (.dat y)) n
theorem pd_par (ok : S.Ok) {i j : Nat} {x y : Str} {a b : Expr} {ga : Dn → Option (List PyData)} {px py pt : Pos} {kt k2 pt2} (hc : X.calm = true) (hN : X.N.Nodup) (hi : X.N[i]? = some x) (hj : X.N[j]? = some y) (hij : i ≠ j)
    (hx : X.env.scope.names.lookup x = some .local) (hy : X.env.scope.names.lookup y = some .local) (ha : PFA X [a, b] ga)
    (hw : swappedStores [.Tuple [.Name x px, .Name y py] kt pt] (.Tuple [a, b] k2 pt2) X.env = pure (some [x, y]))
    (hs : swapsWithSole [.Tuple [.Name x px, .Name y py] kt pt] (.Tuple [a, b] k2 pt2) pos.line X.env = pure false := by rfl) :
    PD X S (.Assign [.Tuple [.Name x px, .Name y py] kt pt] (.Tuple [a, b] k2 pt2) pos) (dPar i j ga) := ⟨(ps_par hc hN hi hj hij hx hy ha.pa hw hs).imp fun D σ H ⟨B, O, ρ, n, DD, r, ⟨d, e, e1, t⟩, E⟩ =>
  ⟨O, S.dv, ρ, _, r.al, r.rep, e1, fun vs H' s dx => by
    cases dx with
    | cons h1 h2 =>
      cases h2 with
      | cons h2 h3 =>
        cases h3
        exact ⟨_, _, rfl, E.nx O _ H' _ n (((r.same ok s).set (e := .dat d) ⟨_, rfl, h1⟩ notOwn_dat i).set (e := .dat e) ⟨_, rfl, h2⟩ notOwn_dat j) t⟩⟩⟩
def dIf (g : Dn → Option Bool) (T U : TD) : TD := fun DD ρ n => ∃ b, g ρ = some b ∧ if b = true then T DD ρ n else U DD ρ n
theorem pd_if (ok : S.Ok) {c : Expr} {a b : List Stmt} {g : Dn → Option Bool} (hc : PFT X c g) (ha : PDs X S a T) (hb : PDs X S b U) : PD X S (.If c a b pos) (dIf g T U) := ⟨(ps_if hc.pt ha.pss hb.pss).imp fun D σ H ⟨B, O, ρ, n, DD, r, ⟨k, e1, t⟩, E⟩ =>
  ⟨O, S.dv, ρ, k, r.al, r.rep, e1, fun H' s => by
    cases k with
    | true => exact ⟨B, O, ρ, n, DD, r.same ok s, t, E⟩
    | false => exact ⟨B, O, ρ, n, DD, r.same ok s, t, E⟩⟩⟩
/-! for -/
def dFor (fi : Dn → Option (List PyData)) (g : PyData → Dn → Option Dn) (T : TD) : TD := fun DD ρ n => ∃ xs, fi ρ = some xs ∧ ∃ I : Nat → Dn → Nat → Prop, I 0 ρ n ∧
  (∀ i x ρ' n', xs[i]? = some x → I i ρ' n' → ∃ ρ2, g x ρ' = some ρ2 ∧ T { nx := I (i + 1), ct := I (i + 1), bk := DD.nx, rt := DD.rt } ρ2 n') ∧ ∀ ρ' n', I xs.length ρ' n' → DD.nx ρ' n'
/-- a target's slots are no lists of one's own behind it -/
def Sets (g : PyData → Dn → Option Dn) (sl : List Nat) : Prop := ∀ d ρ ρ2, g d ρ = some ρ2 → ρ2.length = ρ.length ∧ (∀ j : Nat, j ∉ sl → ρ2[j]? = ρ[j]?) ∧ ∀ j ∈ sl, ∀ e, ρ2[j]? = some e → notOwn e
theorem sets_name (i : Nat) : Sets (setN i) [i] := fun d ρ ρ2 e => by
  cases e
  refine ⟨List.length_set, fun j hj => List.getElem?_set_ne fun z => hj (by simp [z]), fun j hj g z => ?_⟩
  have : j = i := by simpa using hj
  subst this
  by_cases lt : j < ρ.length
  · rw [List.getElem?_set_self lt] at z
    cases z
    exact notOwn_dat
  · rw [List.getElem?_eq_none (by rw [List.length_set]; omega)] at z
    cases z
theorem setMany_ok : ∀ (sl : List Nat) (ds : List PyData) (ρ ρ2 : Dn), setMany sl ds ρ = some ρ2 → ρ2.length = ρ.length ∧ (∀ j : Nat, j ∉ sl → ρ2[j]? = ρ[j]?) ∧ ∀ j ∈ sl, ∀ e, ρ2[j]? = some e → notOwn e
  | [], [], ρ, ρ2, e => by cases e; exact ⟨rfl, fun _ _ => rfl, fun _ h => nomatch h⟩
  | [], _ :: _, _, _, e => nomatch e
  | _ :: _, [], _, _, e => nomatch e
  | i :: sl, d :: ds, ρ, ρ2, e => by
    obtain ⟨h1, h2, h3⟩ := setMany_ok sl ds (ρ.set i (.dat d)) ρ2 e
    refine ⟨h1.trans List.length_set, fun j hj => ?_, fun j hj fs z => ?_⟩
    · rw [h2 j fun z => hj (List.mem_cons_of_mem _ z), List.getElem?_set_ne fun z => hj (by rw [z]; exact List.mem_cons_self)]
    · by_cases k : j ∈ sl
      · exact h3 j k fs z
      · have : j = i := (List.mem_cons.mp hj).resolve_right k
        subst this
        rw [h2 j k] at z
        by_cases lt : j < ρ.length
        · rw [List.getElem?_set_self lt] at z
          cases z
          exact notOwn_dat
        · rw [List.getElem?_eq_none (by rw [List.length_set]; omega)] at z
          cases z
theorem sets_tup (sl : List Nat) : Sets (setT sl) sl := fun d ρ ρ2 e => by
  obtain ⟨ds, e1, e2⟩ := Option.bind_eq_some_iff.mp e
  split at e2
  case isFalse => cases e2
  exact setMany_ok sl ds ρ ρ2 e2
theorem RepS.target {K : PySem.W.Frag} {B H : Hp} {O : Hid} {σ σ2 : L2.St} {ρ ρ2 : Dn} {n : Nat} {g : PyData → Dn → Option Dn} {sl : List Nat} {d : PyData} (h : RepS K S B O H σ ρ n) (hg : Sets g sl) (e : g d ρ = some ρ2) (r : RepE K O H S.dv σ2 ρ2)
    (w : ∀ vs : List Nat, (∀ i ∈ sl, i ∈ vs) → wipe σ2 vs = wipe σ vs) : RepS K S B O H σ2 ρ2 n := by
  obtain ⟨h1, h2, h3⟩ := hg d ρ ρ2 e
  have hw := w sl fun i hi => hi
  have same : ∀ j : Nat, j ∉ sl → σ2[j]? = σ[j]? := fun j hj => by
    have e1 := wipe_get σ2 sl j
    have e2 := wipe_get σ sl j
    rw [if_neg hj] at e1 e2
    rw [← e1, ← e2, hw]
  refine ⟨h.al, r, h.kp, h.sub, h.mo, h.fz, fun i g og q e1 e2 e3 => ?_, h.dk⟩
  have ni : i ∉ sl := fun z => h3 i z g e1 _ _ _ e3
  rw [h2 i ni] at e1
  rw [same i ni] at e2
  obtain ⟨k1, k2, k3⟩ := h.ow i g og q e1 e2 e3
  refine ⟨k1, k2, fun j es os e4 e5 e6 => ?_⟩
  have nj : j ∉ sl := fun z => h3 j z es e4 _ _ _ e6
  rw [h2 j nj] at e4
  rw [same j nj] at e5
  exact k3 j es os e4 e5 e6
theorem pd_for (ok : S.Ok) {tg iter : Expr} {body : List Stmt} {fi : Dn → Option (List PyData)} {sl : List Nat} {g : PyData → Dn → Option Dn} (hp : PassesOwn (model X.prog X.w) X.A X.env X.xe) (hc : X.calm = true) (hi : PIF X tg iter fi) (hg : PGF X tg sl g) (sg : Sets g sl) (hb : PDs X S body T)
    (hs : ∀ x, foldedSetIterable iter X.env x = pure x := by intro _; rfl) : PD X S (.For tg iter body [] pos) (dFor fi g T) := ⟨(ps_for hp hc hi.pi hg.pg hb.pss hs).imp fun D σ H ⟨B, O, ρ, n, DD, r, ⟨xs, e1, I, i0, step, fin⟩, E⟩ => by
  refine ⟨O, S.dv, ρ, xs, r.al, r.rep, e1, fun J H1 s1 it => ?_⟩
  have r1 := (r.same ok s1).here
  have bb : Same B (Fz O H1) := (r.same ok s1).fz
  refine ⟨fun i m σ' H' => m = xs.length - i ∧ i ≤ xs.length ∧ ∃ O' ρ' n', RepS X.K S (Fz O H1) O' H' σ' ρ' n' ∧ I i ρ' n', ⟨xs.length, by simp, Nat.zero_le _, O, ρ, n, r1, i0⟩, ?_⟩
  rintro i m σ' H' ⟨rfl, hi, O', ρ', n', r', inv⟩
  obtain ⟨g1, g2, g3⟩ := it O' H' r'.fz r'.al
  by_cases hlt : i < xs.length
  · have ex : xs[i]? = some xs[i] := List.getElem?_eq_getElem hlt
    obtain ⟨ρ2, e2, tb⟩ := step i _ ρ' n' ex inv
    refine .inr ⟨g1 i hlt, fun σ2 H2 => ∃ O2 ρ2 n2, RepS X.K S (Fz O H1) O2 H2 σ2 ρ2 n2 ∧ I (i + 1) ρ2 n2, fun σ2 H2 ⟨O2, ρ2, n2, r2, i2⟩ => ⟨xs.length - (i + 1), by omega, rfl, hlt, O2, ρ2, n2, r2, i2⟩, fun x H2 y => ?_⟩
    obtain ⟨s2, dx⟩ := g3 i x H2 _ ex y
    have r2 := r'.same ok s2
    refine ⟨O', S.dv, ρ', _, ρ2, r2.al, r2.rep, dx, e2, fun σ2 re w => ⟨Fz O H1, O', ρ2, n', _, r2.target sg e2 re w, tb, ?_⟩⟩
    exact ⟨fun O3 σ3 H3 ρ3 n3 r3 q => ⟨O3, ρ3, n3, r3, q⟩, fun O3 σ3 H3 ρ3 n3 r3 q => E.nx O3 σ3 H3 ρ3 n3 (r3.base bb) q, fun O3 σ3 H3 ρ3 n3 r3 q => ⟨O3, ρ3, n3, r3, q⟩, E.rt⟩
  · have ei : i = xs.length := by omega
    subst ei
    exact .inl ⟨g2, E.nx O' σ' H' ρ' n' (r'.base bb) (fin ρ' n' inv)⟩⟩
/-! while -/
/-! x.append(e), x a list of one's own in slot i -/
def getO (i : Nat) : Dn → Option (List PyData) := fun ρ => match ρ[i]? with | some (.own ds) => some ds | _ => none
theorem getO_some {i : Nat} {ρ : Dn} {ds : List PyData} (h : getO i ρ = some ds) : ρ[i]? = some (.own ds) := by
  unfold getO at h
  split at h
  · rename_i e
    cases h
    exact e
  · cases h
def dApp (i : Nat) (f : DF) : TD := fun DD ρ n => ∃ ds d, getO i ρ = some ds ∧ f ρ = some d ∧ ds.length < lim ∧ DD.nx (ρ.set i (.own (ds ++ [d]))) n
theorem pd_append (ok : S.Ok) {i : Nat} {x : Str} {e : Expr} {f : DF} {p apos cpos : Pos} (hN : X.N[i]? = some x) (hv : Vis X.env.scope x) (he : PF X e f)
    (hbase : attributeBase (.Name x p) "append" X.env (eval (.Name x p) X.env) = eval (.Name x p) X.env := by rfl)
    (hfew : ((backTo cpos (starEach [e] X.env)).all (fun x => !x.1) && (backToKw cpos (keywordEach [] X.env)).all (fun x => x.1.isSome) && decide ([e].length + ([] : List Keyword).length + (if ([] : List Keyword).isEmpty then 0 else 1) < 30)) = true := by rfl)
    (hline : (apos.endLine == cpos.line) = true := by rfl) (hs : starEach [e] X.env = (false, eval e X.env) :: starEach [] X.env := by rfl) (hplain : (backTo cpos (starEach [] X.env)).any (·.1) = false := by rfl)
    (hsw : swapsWith (.Call (.Attribute (.Name x p) "append" apos) [e] [] cpos) none pos.line X.env = pure false := by rfl) (hd : (x == ("__debug__" : Str)) = false := by decide) (hcd : (x == ("__classdict__" : Str)) = false := by decide) :
    PD X S (.Expr (.Call (.Attribute (.Name x p) "append" apos) [e] [] cpos) pos) (dApp i f) := ⟨(ps_expr (pe_bm PySem.F.plainAttrs_list PySem.F.slot_list_append PySem.F.type_list_append mt_append (pe_var hN hv hd hcd) (pa_cons he.pe pa_nil hs) hbase hfew hline hs hplain) hsw).imp fun D σ H ⟨B, O, ρ, n, DD, r, ⟨ds, d, e1, e2, hl, t⟩, E⟩ => by
  have e1' := getO_some e1
  obtain ⟨ov, h1, q, us, h2, h3, h4, h5⟩ := r.rep.2 i _ e1'
  subst h2
  refine ⟨.ref q, h1, .inl ⟨rfl, _, SqL.of h4⟩, O, S.dv, ρ, d, r.al, r.rep, e2, fun v H' s dx => ⟨q, us, v, rfl, rfl, s _ _ h4, lim_le (by rw [h5.len]; exact hl), ?_⟩⟩
  have r2 := r.same ok s
  exact E.nx O σ _ _ n (r2.put ok e1' h1 ((h5.same (s.fz O)).append (.cons dx .nil))) t⟩
/-- what was of one's own is data from here on -/
def frzO (i : Nat) (ρ : Dn) : Option Dn := match ρ[i]? with
  | some (.own ds) => some (ρ.set i (.dat (.list ds)))
  | some (.rows dss) => some (ρ.set i (.dat (.list (dss.map .list))))
  | some (.dct kds) => some (ρ.set i (.dat (dctD kds)))
  | some (.dck kds) => some (ρ.set i (.dat (dckD kds)))
  | _ => none
theorem pds_freeze (ok : S.Ok) (i : Nat) {sts : List Stmt} (h : PDs X S sts T) : PDs X S sts (fun DD ρ n => T DD ρ n ∨ ∃ ρ', frzO i ρ = some ρ' ∧ T DD ρ' n) := ⟨h.pss.imp fun D σ H ⟨B, O, ρ, n, DD, r, t, E⟩ => by
  rcases t with t | ⟨ρ', e1, t⟩
  · exact ⟨B, O, ρ, n, DD, r, t, E⟩
  · unfold frzO at e1
    split at e1
    · rename_i ds e2
      cases e1
      obtain ⟨O', r'⟩ := r.freeze ok e2
      exact ⟨B, O', _, n, DD, r', t, E⟩
    · rename_i ds e2
      cases e1
      obtain ⟨O', r'⟩ := r.freezeR ok e2
      exact ⟨B, O', _, n, DD, r', t, E⟩
    · rename_i ds e2
      cases e1
      obtain ⟨O', r'⟩ := r.freezeT ok e2
      exact ⟨B, O', _, n, DD, r', t, E⟩
    · rename_i ds e2
      cases e1
      obtain ⟨O', r'⟩ := r.freezeK ok e2
      exact ⟨B, O', _, n, DD, r', t, E⟩
    · cases e1⟩
end
/-! ### a def by its body -/
def startD (N : Nat) (ds : List PyData) : Dn := ds.map .dat ++ List.replicate (N - ds.length) .na
theorem repE_start {K : PySem.W.Frag} {O : Hid} {H : Hp} {dv : V} {N : List Str} {vs : List V} {ds : List PyData} (h : DxAll K (Fz O H) vs ds) : RepE K O H dv (L2.start N vs) (startD N.length ds) := by
  have hl := h.len
  refine ⟨by simp [startD, L2.start, hl], fun i e q => ?_⟩
  unfold startD at q
  unfold L2.start
  by_cases lt : i < ds.length
  · rw [List.getElem?_append_left (by rw [List.length_map]; exact lt), List.getElem?_map] at q
    rw [List.getElem?_append_left (by rw [List.length_map]; omega), List.getElem?_map]
    cases z : ds[i]? with
    | none => rw [z] at q; cases q
    | some d =>
      rw [z] at q
      cases q
      obtain ⟨v, h1, h2⟩ := h.get z
      exact ⟨some v, by rw [h1]; rfl, v, rfl, h2⟩
  · rw [List.getElem?_append_right (by rw [List.length_map]; omega), List.getElem?_replicate] at q
    rw [List.getElem?_append_right (by rw [List.length_map]; omega), List.getElem?_replicate]
    split at q
    case isFalse => cases q
    rename_i z
    cases q
    rw [List.length_map] at z
    refine ⟨none, ?_, trivial⟩
    rw [if_pos (by rw [List.length_map]; omega)]
def noDeck (H : Hp) (O : Hid) : Fr := ⟨H, O, fun _ => False, .non, fun _ _ => True⟩
theorem noDeck_ok {H : Hp} {O : Hid} (al : Al O H) : (noDeck H O).Ok := ⟨fun _ _ _ _ _ => trivial, al⟩
section
variable {P : Program} {w : World} {K : PySem.W.Frag} {mg : Str → Option Value} {base : Heap}
/-- a def without a deck, by its statements -/
theorem fn_data {x qual : Str} {st : Stmt} {N ps : List Str} {f : Addr} {fd : FuncData} {k n : Nat} {sem : List PyData → Option PyData} (F : Fun K x qual st f fd) (Sc : FnScope N ps (defScope st)) (hn : ps.length = n)
    (hb : ∀ (cdv : Value) (A : Around) (outer : List Env) (s : Shared) (H : Hp) (E : XK) (O : Hid), Al O H → (A.deeper (envOfC qual (defScope st) s.heap.objs.size f cdv)).guards = some [] → Room k (A.deeper (envOfC qual (defScope st) s.heap.objs.size f cdv)) →
      ∃ T, PDs (cxOf CX0 P w K mg base N qual (defScope st) f cdv A outer s H E).nox (noDeck H O) (defBody st) T ∧ ∀ ds d, ds.length = n → sem ds = some d → T ⟨fun _ _ => d = .none, fun e _ => e = d, fun _ _ => False, fun _ _ => False⟩ (startD N.length ds) 0) : FnG P w K mg base CX0 (k + 1) f fd ps (spF K n sem) := by
  refine FnG.ok F Sc (fun vs H Q E h => by rw [spF_len h, hn]) (fun cdv A outer s H vs Q E hg hr h => ?_)
  obtain ⟨O, ds, d, al, hd, hl, es, q⟩ := h
  obtain ⟨T, pt, want⟩ := hb cdv A outer s H E O al hg hr
  refine ⟨_, pt.pss, Fz O H, O, _, 0, _, ⟨al, repE_start hd, fun b y e _ => e, fun _ h => h, fun _ h => h.elim, Same.refl _, fun i g og q e1 e2 e3 => ?_, trivial⟩, want ds d hl es, ?_⟩
  · unfold startD at e1
    by_cases lt : i < ds.length
    · rw [List.getElem?_append_left (by rw [List.length_map]; exact lt), List.getElem?_map] at e1
      cases z : ds[i]? with
      | none => rw [z] at e1; cases e1
      | some d => rw [z] at e1; cases e1; exact e3.elim
    · rw [List.getElem?_append_right (by rw [List.length_map]; omega), List.getElem?_replicate] at e1
      split at e1 <;> cases e1
      exact e3.elim
  · refine ⟨fun O' σ' H' ρ' n' r e => ?_, fun O' σ' H' ρ' n' r e => e, fun O' σ' H' ρ' n' r e => e, fun v H' e n' dx kp _ _ h => ?_⟩
    · refine q _ H' (fun b y z => r.kp b y z fun h => h) ?_
      rw [show d = PyData.none from e]
      exact .non
    · rw [show e = d from h] at dx
      exact q v H' (fun b y z => kp b y z fun h => h) dx
end
end DS
namespace DS
open PySem PySem.Spec PyProof.Rows L2
/-! ### statements as functions of the slots -/
inductive Res where
  | nx (ρ : Dn)
  | rt (d : PyData)
  | bk (ρ : Dn)
  | ct (ρ : Dn)
abbrev SF := Dn → Option Res
def EnD.ends (DD : EnD) (n : Nat) : Res → Prop
  | .nx ρ => DD.nx ρ n
  | .rt d => DD.rt d n
  | .bk ρ => DD.bk ρ n
  | .ct ρ => DD.ct ρ n
def dFun (f : SF) : TD := fun DD ρ n => ∃ r, f ρ = some r ∧ DD.ends n r
structure PZ (X : Cx) (S : Fr) (st : Stmt) (f : SF) : Prop where
  pd : PD X S st (dFun f)
structure PZs (X : Cx) (S : Fr) (st : List Stmt) (f : SF) : Prop where
  pds : PDs X S st (dFun f)
theorem PD.imp {X : Cx} {S : Fr} {st : Stmt} {T T' : TD} (h : PD X S st T) (k : ∀ DD ρ n, T' DD ρ n → T DD ρ n) : PD X S st T' := ⟨h.ps.imp fun D σ H ⟨B, O, ρ, n, DD, r, t, E⟩ => ⟨B, O, ρ, n, DD, r, k _ _ _ t, E⟩⟩
theorem PDs.imp {X : Cx} {S : Fr} {st : List Stmt} {T T' : TD} (h : PDs X S st T) (k : ∀ DD ρ n, T' DD ρ n → T DD ρ n) : PDs X S st T' := ⟨h.pss.imp fun D σ H ⟨B, O, ρ, n, DD, r, t, E⟩ => ⟨B, O, ρ, n, DD, r, k _ _ _ t, E⟩⟩
section
variable {X : Cx} {S : Fr} {st : Stmt} {rest : List Stmt} {f g h : SF} {pos : Pos}
def sNil : SF := fun ρ => some (.nx ρ)
def sSeq (f g : SF) : SF := fun ρ => (f ρ).bind fun r => match r with
  | .nx ρ' => g ρ'
  | .rt d => some (.rt d)
  | .bk ρ' => some (.bk ρ')
  | .ct ρ' => some (.ct ρ')
theorem pzs_nil : PZs X S [] sNil := ⟨pds_nil.imp fun DD ρ n ⟨r, e, t⟩ => by cases e; exact t⟩
theorem pzs_one (h1 : PZ X S st f) : PZs X S [st] f := ⟨pds_one h1.pd⟩
theorem pzs_cons (h1 : PZ X S st f) (h2 : PZs X S rest g) : PZs X S (st :: rest) (sSeq f g) := ⟨(pds_cons h1.pd h2.pds).imp fun DD ρ n ⟨r, e, t⟩ => by
  obtain ⟨r1, e1, e2⟩ := Option.bind_eq_some_iff.mp e
  refine ⟨r1, e1, ?_⟩
  cases r1 with
  | nx ρ' => exact ⟨r, e2, t⟩
  | rt d => cases e2; exact t
  | bk ρ' => cases e2; exact t
  | ct ρ' => cases e2; exact t⟩
def sRet (f : DF) : SF := fun ρ => (f ρ).bind fun d => some (.rt d)
theorem pz_ret (ok : S.Ok) {e : Expr} {f : DF} (h : PF X e f) : PZ X S (.Return (some e) pos) (sRet f) := ⟨(pd_ret ok h).imp fun DD ρ n ⟨r, e, t⟩ => by
  obtain ⟨d, e1, e2⟩ := Option.bind_eq_some_iff.mp e
  cases e2
  exact ⟨d, e1, t⟩⟩
def sSet (i : Nat) (f : DF) : SF := fun ρ => (f ρ).bind fun d => some (.nx (ρ.set i (.dat d)))
theorem dSet_sSet {i : Nat} {f : DF} {DD : EnD} {ρ : Dn} {n : Nat} (h : dFun (sSet i f) DD ρ n) : dSet i f DD ρ n := by
  obtain ⟨r, e, t⟩ := h
  obtain ⟨d, e1, e2⟩ := Option.bind_eq_some_iff.mp e
  cases e2
  exact ⟨d, e1, t⟩
theorem pz_of_set {i : Nat} {f : DF} (h : PD X S st (dSet i f)) : PZ X S st (sSet i f) := ⟨h.imp fun _ _ _ h => dSet_sSet h⟩
def sOwn (i : Nat) (f : Dn → Option (List PyData)) : SF := fun ρ => (f ρ).bind fun d => some (.nx (ρ.set i (.own d)))
theorem pz_of_own {i : Nat} {f : Dn → Option (List PyData)} (h : PD X S st (dOwn i f)) : PZ X S st (sOwn i f) := ⟨h.imp fun DD ρ n ⟨r, e, t⟩ => by
  obtain ⟨d, e1, e2⟩ := Option.bind_eq_some_iff.mp e
  cases e2
  exact ⟨d, e1, t⟩⟩
def sPar (i j : Nat) (g : Dn → Option (List PyData)) : SF := fun ρ => (g ρ).bind fun ds => match ds with
  | [x, y] => some (.nx ((ρ.set i (.dat x)).set j (.dat y)))
  | _ => none
theorem pz_of_par {i j : Nat} {g : Dn → Option (List PyData)} (h : PD X S st (dPar i j g)) : PZ X S st (sPar i j g) := ⟨h.imp fun DD ρ n ⟨r, e, t⟩ => by
  obtain ⟨ds, e1, e2⟩ := Option.bind_eq_some_iff.mp e
  match ds, e2 with
  | [x, y], e2 =>
    cases e2
    exact ⟨x, y, e1, t⟩⟩
def sApp (i : Nat) (f : DF) : SF := fun ρ => (getO i ρ).bind fun ds => (f ρ).bind fun d => if ds.length < lim then some (.nx (ρ.set i (.own (ds ++ [d])))) else none
theorem pz_of_app {i : Nat} {f : DF} (h : PD X S st (dApp i f)) : PZ X S st (sApp i f) := ⟨h.imp fun DD ρ n ⟨r, e, t⟩ => by
  obtain ⟨ds, e1, e2⟩ := Option.bind_eq_some_iff.mp e
  obtain ⟨d, e3, e4⟩ := Option.bind_eq_some_iff.mp e2
  split at e4
  case isFalse => cases e4
  rename_i hl
  cases e4
  exact ⟨ds, d, e1, e3, hl, t⟩⟩
def sIf (g : Dn → Option Bool) (f h : SF) : SF := fun ρ => (g ρ).bind fun b => if b = true then f ρ else h ρ
theorem pz_if (ok : S.Ok) {c : Expr} {a b : List Stmt} {t : Dn → Option Bool} (hc : PFT X c t) (ha : PZs X S a f) (hb : PZs X S b g) : PZ X S (.If c a b pos) (sIf t f g) := ⟨(pd_if ok hc ha.pds hb.pds).imp fun DD ρ n ⟨r, e, w⟩ => by
  obtain ⟨k, e1, e2⟩ := Option.bind_eq_some_iff.mp e
  refine ⟨k, e1, ?_⟩
  cases k with
  | true => exact ⟨r, e2, w⟩
  | false => exact ⟨r, e2, w⟩⟩
/-- a list of one's own is data from here on -/
def frzD (i : Nat) (ρ : Dn) : Dn := (frzO i ρ).getD ρ
theorem pzs_freeze (ok : S.Ok) (i : Nat) {sts : List Stmt} (h : PZs X S sts f) : PZs X S sts (fun ρ => f (frzD i ρ)) := ⟨(pds_freeze ok i h.pds).imp fun DD ρ n ⟨r, e, t⟩ => by
  have e : f (frzD i ρ) = some r := e
  unfold frzD at e
  cases z : frzO i ρ with
  | some ρ' =>
    rw [z] at e
    exact .inr ⟨ρ', rfl, r, e, t⟩
  | none =>
    rw [z] at e
    exact .inl ⟨r, e, t⟩⟩
/-! loops -/
def runFor (g : PyData → Dn → Option Dn) (f : SF) : List PyData → SF
  | [], ρ => some (.nx ρ)
  | x :: xs, ρ => (g x ρ).bind fun ρ1 => (f ρ1).bind fun r => match r with
    | .nx ρ2 => runFor g f xs ρ2
    | .ct ρ2 => runFor g f xs ρ2
    | .bk ρ2 => some (.nx ρ2)
    | .rt d => some (.rt d)
def sFor (fi : Dn → Option (List PyData)) (g : PyData → Dn → Option Dn) (f : SF) : SF := fun ρ => (fi ρ).bind fun xs => runFor g f xs ρ
theorem pz_for (ok : S.Ok) {tg iter : Expr} {body : List Stmt} {fi : Dn → Option (List PyData)} {sl : List Nat} {g : PyData → Dn → Option Dn} (hp : PassesOwn (model X.prog X.w) X.A X.env X.xe) (hc : X.calm = true) (hi : PIF X tg iter fi) (hg : PGF X tg sl g) (sg : Sets g sl) (hb : PZs X S body f)
    (hs : ∀ x, foldedSetIterable iter X.env x = pure x := by intro _; rfl) : PZ X S (.For tg iter body [] pos) (sFor fi g f) := ⟨(pd_for ok hp hc hi hg sg hb.pds hs).imp fun DD ρ n ⟨r, e, t⟩ => by
  obtain ⟨xs, e1, e2⟩ := Option.bind_eq_some_iff.mp e
  refine ⟨xs, e1, fun i ρ' n' => n' = n ∧ ∃ r', runFor g f (xs.drop i) ρ' = some r' ∧ DD.ends n r', ⟨rfl, r, e2, t⟩, fun i x ρ' n' ex ⟨en, r', e3, t'⟩ => ?_, fun ρ' n' ⟨en, r', e3, t'⟩ => ?_⟩
  · subst en
    have ed : xs.drop i = x :: xs.drop (i + 1) := by
      obtain ⟨lt, e0⟩ := List.getElem?_eq_some_iff.mp ex
      rw [List.drop_eq_getElem_cons lt, e0]
    rw [ed] at e3
    obtain ⟨ρ1, e4, e5⟩ := Option.bind_eq_some_iff.mp e3
    obtain ⟨r1, e6, e7⟩ := Option.bind_eq_some_iff.mp e5
    refine ⟨ρ1, e4, r1, e6, ?_⟩
    cases r1 with
    | nx ρ2 => exact ⟨rfl, r', e7, t'⟩
    | ct ρ2 => exact ⟨rfl, r', e7, t'⟩
    | bk ρ2 => cases e7; exact t'
    | rt d => cases e7; exact t'
  · subst en
    rw [List.drop_length] at e3
    cases e3
    exact t'⟩
end
/-- what a def gives -/
def semZ (N : Nat) (f : SF) : List PyData → Option PyData := fun ds => (f (startD N ds)).bind fun r => match r with
  | .rt d => some d
  | .nx _ => some .none
  | _ => none
section
variable {P : Program} {w : World} {K : PySem.W.Frag} {mg : Str → Option Value} {base : Heap}
theorem fn_z {x qual : Str} {st : Stmt} {N ps : List Str} {fa : Addr} {fd : FuncData} {k n : Nat} {f : SF} (F : Fun K x qual st fa fd) (Sc : FnScope N ps (defScope st)) (hn : ps.length = n)
    (hb : ∀ (cdv : Value) (A : Around) (outer : List Env) (s : Shared) (H : Hp) (E : XK) (O : Hid), Al O H → (A.deeper (envOfC qual (defScope st) s.heap.objs.size fa cdv)).guards = some [] → Room k (A.deeper (envOfC qual (defScope st) s.heap.objs.size fa cdv)) →
      PZs (cxOf CX0 P w K mg base N qual (defScope st) fa cdv A outer s H E).nox (noDeck H O) (defBody st) f) : FnG P w K mg base CX0 (k + 1) fa fd ps (spF K n (semZ N.length f)) :=
  fn_data F Sc hn fun cdv A outer s H E O al hg hr => ⟨_, (hb cdv A outer s H E O al hg hr).pds, fun ds d hl es => by
    obtain ⟨r, e1, e2⟩ := Option.bind_eq_some_iff.mp es
    refine ⟨r, e1, ?_⟩
    cases r with
    | rt d => cases e2; rfl
    | nx ρ => cases e2; rfl
    | bk ρ => cases e2
    | ct ρ => cases e2⟩
end
end DS
namespace DS
open PySem PySem.Spec PyProof.Rows L2
theorem vals_ix : ∀ {xs : List V} {us : List Value}, xs.length = us.length → (∀ (j : Nat) (x : V) (u : Value), xs[j]? = some x → us[j]? = some u → RelV x u) → Vals xs us
  | [], [], _, _ => .nil
  | x :: xs, u :: us, e, h => .cons (h 0 x u rfl rfl) (vals_ix (by simpa using e) fun j y v hy hv => h (j + 1) y v hy hv)
  | [], u :: us, e, _ => (nomatch e)
  | x :: xs, [], e, _ => (nomatch e)
/-- the signs of a text, one by one -/
def sgs (y : Str) : List V := y.cps.toList.map fun c => V.str ⟨#[c]⟩
/-- list(text) -/
theorem call_listS {X : Cx} (hc : X.calm = true) : CallR X (.type "list") (fun xs H Q => ∃ y : Str, xs = [.str y] ∧ y.cps.size ≤ sizeLine ∧ ∀ l, H l = none → Q (.ref l) (upd H l (.lst (sgs y)))) := by
  intro pins s σ H xs us Q I r h
  obtain ⟨y, rfl, hz, q⟩ := h
  obtain ⟨u, rfl, t, rfl⟩ := vals1 r
  have ls : (sgs y).length = y.cps.size := by
    unfold sgs
    rw [List.length_map, Array.length_toList]
  refine call_list_str (I.ok.hd hc) y t (hn := hz) fun h' tk acc c k e hacc => ?_
  have hv : Vals (sgs y) acc.toList := vals_ix (by rw [ls, Array.length_toList, hacc.1]) fun j x v hx hv => by
    obtain ⟨c, u, h1, rfl⟩ := hacc.2 j v (by simpa using hv)
    have h2 : y.cps.toList[j]? = some c := by rw [Array.getElem?_toList]; exact h1
    unfold sgs at hx
    rw [List.getElem?_map, h2] at hx
    cases hx
    exact ⟨u, rfl⟩
  exact ⟨.ref s.heap.objs.size, _, I.laid (t' := tk) k (Nat.le_refl _) (show ObjOk X.prog X.w _ h' _ (.lst (sgs y)) from ⟨by rw [ls]; exact hz, acc.toList, c, hv, by simpa using e⟩), rfl, q _ (I.hok.fresh (Nat.le_refl _))⟩
end DS
namespace DS
open PySem PySem.Spec PyProof.Rows L2
section
variable {prog : Program} {w : World} {A : Around} {E : Value → Shared → Prop} {s : Shared}
end
section
variable {X : Cx}
end
end DS
namespace DS
open PySem PySem.Spec PyProof.Rows L2
/-! ### sum of a tuple of numbers -/
section
variable {prog : Program} {w : World} {A : Around} {E : Value → Shared → Prop} {s : Shared} {l : Addr} {its : List Value} {ns : List Int} {Q : Value → Shared → Prop}
end
/-! ### a sign counted -/
end DS
namespace DS
open PySem PySem.Spec PyProof.Rows L2
section
variable {X : Cx} {a b e : Expr} {fa fb f : DF} {p pos : Pos}
theorem pf_v (i : Nat) {x : Str} {pos : Pos} (hN : X.N[i]? = some x := by rfl) (hv : Vis X.env.scope x := by first | exact Or.inl rfl | exact Or.inr (Or.inl rfl) | exact Or.inr (Or.inr rfl)) (hd : (x == ("__debug__" : Str)) = false := by decide)
    (hcd : (x == ("__classdict__" : Str)) = false := by decide) : PF X (.Name x pos) (getD i) := pf_var hN hv hd hcd
/-- a module's constant -/
theorem pf_glob {x : Str} {v : V} {d : PyData} {u : Value} (hg : Gl X x) (hm : X.mg x = some u) (r : RelV v u) (hd : ∀ K H, Dx K H v d) (hn : (x == ("__debug__" : Str)) = false := by decide) : PF X (.Name x pos) (cD d) :=
  ⟨(pe_glob hg hm r hn).imp fun σ H Q ⟨O, dv, ρ, c, al, r, e, q⟩ => by cases e; exact q _ H (Same.refl H) (hd _ _)⟩
def negF (f : DF) : DF := fun ρ => (f ρ).bind fun d => (toI d).map fun i => .int (-i)
theorem pf_neg (h : PF X a fa) : PF X (.UnaryOp .USub a pos) (negF fa) := ⟨(pe_un un_neg h.pe).imp fun σ H Q ⟨O, dv, ρ, d, al, r, e, q⟩ => by
  obtain ⟨x, e1, e2⟩ := Option.bind_eq_some_iff.mp e
  obtain ⟨i, e3, rfl⟩ := Option.map_eq_some_iff.mp e2
  rw [toI_some e3] at e1
  refine ⟨O, dv, ρ, _, al, r, e1, fun v H1 s1 h1 => ?_⟩
  cases h1
  exact ⟨i, rfl, q _ H1 s1 (.int _)⟩⟩
/-! + -/
def gAdd (d e : PyData) : Option PyData := match d, e with
  | .int i, .int j => some (.int (i + j))
  | .list xs, .list ys => if xs.length + ys.length < lim then some (.list (xs ++ ys)) else none
  | .tuple xs, .tuple ys => if xs.length + ys.length < lim then some (.tuple (xs ++ ys)) else none
  | .str x, .str y => if x.length + y.length < lim then some (.str (x ++ y)) else none
  | _, _ => none
/-- two lists that are read, joined -/
theorem op_catK : OpR X (binaryOp .Add) (fun x y H Q => ∃ l b xs zs, x = .ref l ∧ y = .ref b ∧ SqL X.K H l xs ∧ SqL X.K H b zs ∧ xs.length + zs.length ≤ sizeLine ∧ ∀ p, H p = none → Q (.ref p) (upd H p (.lst (xs ++ zs)))) := by
  intro pins s σ H x y v u Q I rx ry h
  obtain ⟨l, b, xs, zs, rfl, rfl, hH, hB, hz, q⟩ := h
  cases rx
  cases ry
  obtain ⟨its, r, ⟨⟨c1, d1, t1, s1⟩, n1, ho, hc, hdd, hd⟩, h1⟩ := I.list hH
  obtain ⟨jts, r', ⟨⟨c2, d2, t2, s2⟩, n2, ho2, hc2, hdd2, hd2⟩, h2⟩ := I.list hB
  simp only at hc hd hc2 hd2
  subst hc hd hc2 hd2
  have e : its.toArray ++ jts.toArray = (its ++ jts).toArray := by simp
  refine concat_meets ⟨_, ho, rfl⟩ ⟨_, ho2, rfl⟩ noFill_list_add seq_list_add PySem.F.slot_list_add PySem.F.entry_list_add (PySem.F.args_list_add_2 _ _) (list_addW l b its.toArray jts.toArray n1 n2 d1 d2 s1 s2 (by rw [List.size_toArray, List.size_toArray, ← r.length, ← r'.length]; exact hz)) ⟨ho, ho2, ?_⟩
  rw [e]
  exact ⟨.ref _, _, I.lnew (t' := s.toks) (r.append r') (by rw [List.length_append]; exact hz), rfl, q _ I.fresh⟩
theorem of_addA : OpR X (binaryOp .Add) (r2F X.K gAdd) := (op_add.or (op_catK.or (op_catA.or op_add_str))).imp fun x y H Q ⟨O, d, e, c, al, dx, dy, g, q⟩ => by
  match d, e, dx, dy, g with
  | .int i, .int j, .int _, .int _, g =>
    cases g
    exact .inl ⟨i, j, rfl, rfl, q _ H (Same.refl H) (.int _)⟩
  | .list xs, .list ys, .lst h1 h2, .lst h3 h4, g =>
    simp only [gAdd] at g
    split at g
    case isFalse => cases g
    rename_i hl
    cases g
    refine .inr (.inl ⟨_, _, _, _, rfl, rfl, (fz_sub O H).seq h1, (fz_sub O H).seq h3, Nat.le_of_lt (lim_le (by rw [h2.len, h4.len]; exact hl)), fun p np => q _ _ (new_same np) (Dx.newL al np (h2.append h4))⟩)
  | .tuple xs, .tuple ys, .tup h1 h2, .tup h3 h4, g =>
    simp only [gAdd] at g
    split at g
    case isFalse => cases g
    rename_i hl
    cases g
    refine .inr (.inr (.inl ⟨_, _, _, _, rfl, rfl, sqT_same (fz_sub O H) h1, sqT_same (fz_sub O H) h3, Nat.le_of_lt (lim_le (by rw [h2.len, h4.len]; exact hl)), fun z => ?_, fun z1 z2 => ?_, fun _ _ p np => q _ _ (new_same np) (Dx.newT al np (h2.append h4))⟩))
    · subst z
      cases h2
      exact q _ H (Same.refl H) (.tup h3 h4)
    · subst z2
      cases h4
      rw [List.append_nil] at q
      exact q _ H (Same.refl H) (.tup h1 h2)
  | .str x, .str y, .str _, .str _, g =>
    simp only [gAdd] at g
    split at g
    case isFalse => cases g
    rename_i hl
    cases g
    exact .inr (.inr (.inr ⟨_, _, rfl, rfl, Nat.le_of_lt (lim_le hl), q _ H (Same.refl H) (.str _)⟩))
/-! [..] * n, [..] + [..] as new lists -/
def repL (g : Dn → Option (List PyData)) (fb : DF) : Dn → Option (List PyData) := fun ρ => (g ρ).bind fun ds => (fb ρ).bind fun e => (toI e).bind fun k => if okR k && decide (ds.length * k.toNat < lim) && decide (ds.length < lim) then some (List.replicate k.toNat ds).flatten else none
theorem DxAll.rep {K : PySem.W.Frag} {H : Hp} {vs : List V} {ds : List PyData} (h : DxAll K H vs ds) : ∀ k : Nat, DxAll K H (List.replicate k vs).flatten (List.replicate k ds).flatten
  | 0 => .nil
  | k + 1 => by
    rw [List.replicate_succ, List.replicate_succ, List.flatten_cons, List.flatten_cons]
    exact h.append (h.rep k)
theorem pfl_rep {es : List Expr} {pos1 : Pos} {g : Dn → Option (List PyData)} (h : PFA X es g) (hb : PF X b fb) : PFL X (.BinOp (.List es pos1) .Mult b pos) (repL g fb) := ⟨(pe_op op_rep (pe_lst h.pa) hb.pe).imp fun σ H Q ⟨O, dv, ρ, d, al, r, e, q⟩ => by
  obtain ⟨ds, e1, e2⟩ := Option.bind_eq_some_iff.mp e
  obtain ⟨y, e3, e4⟩ := Option.bind_eq_some_iff.mp e2
  obtain ⟨k, e5, e6⟩ := Option.bind_eq_some_iff.mp e4
  rw [toI_some e5] at e3
  split at e6
  case isFalse => cases e6
  rename_i hh
  simp only [Bool.and_eq_true, decide_eq_true_eq] at hh
  cases e6
  refine ⟨O, dv, ρ, ds, al, r, e1, fun vs H1 s1 h1 => ⟨Nat.le_of_lt (lim_le (by rw [h1.len]; exact hh.2)), fun p np => ?_⟩⟩
  have s2 := s1.trans (new_same (o := .lst vs) np)
  refine ⟨O, dv, ρ, _, al.same s2, r.same s2, e3, fun v H2 s3 hv => ?_⟩
  cases hv
  have h2 := okR_of hh.1.1
  refine ⟨p, k, vs, rfl, rfl, s3 _ _ upd_same, by omega, by omega, Nat.le_of_lt (lim_le (by rw [h1.len]; exact hh.1.2)), fun l nl => ?_⟩
  have s4 := s2.trans s3
  exact q l _ _ (s4.trans (new_same nl)) (s4.free nl) upd_same (DxAll.hide nl (((h1.same ((new_same np).fz O)).same (s3.fz O)).rep _))⟩
/-! enumerate, reversed(range) -/
def enumD (ds : List PyData) : List PyData := ds.mapIdx fun i d => .tuple [.int i, d]
def chrsD (z : Str) : List PyData := z.cps.toList.map fun c => .str ⟨#[c]⟩
def seqS : PyData → Option (List PyData)
  | .list ds => some ds
  | .tuple ds => some ds
  | .str z => some (chrsD z)
  | _ => none
def enumI (f : DF) : Dn → Option (List PyData) := fun ρ => (f ρ).bind fun d => (seqS d).map enumD
theorem enumD_len (ds : List PyData) : (enumD ds).length = ds.length := by simp [enumD]
theorem enumD_get {ds : List PyData} {i : Nat} {d : PyData} (h : (enumD ds)[i]? = some d) : ∃ x, ds[i]? = some x ∧ d = .tuple [.int i, x] := by
  unfold enumD at h
  rw [List.getElem?_mapIdx] at h
  obtain ⟨x, h1, h2⟩ := Option.map_eq_some_iff.mp h
  exact ⟨x, h1, h2.symm⟩
theorem pair_new {K : PySem.W.Frag} {O : Hid} {H : Hp} {T : Addr} {x y : V} {d e : PyData} (al : Al O H) (nT : H T = none) (h1 : Dx K (Fz O H) x d) (h2 : Dx K (Fz O H) y e) : Same H (upd H T (.tup [x, y])) ∧ Dx K (Fz O (upd H T (.tup [x, y]))) (.ref T) (.tuple [d, e]) :=
  ⟨new_same nT, Dx.newT al nT (.cons h1 (.cons h2 .nil))⟩
theorem pif_enum {p pos tpos : Pos} {elts : List Expr} {kk : Nat} (hg : Gl X "enumerate") (hm : X.mg "enumerate" = none) (ha : PF X e f) (hs : starEach [e] X.env = [(false, eval e X.env)] := by rfl) :
    PIF X (.Tuple elts kk tpos) (.Call (.Name "enumerate" p) [e] [] pos) (enumI f) :=
  have hpa : PA X [e] (tCons (tF X.K f) tNil) := pa_cons ha.pe pa_nil (by rw [hs]; rfl)
  ⟨((pi_enum hg hm hpa hs).or ((pi_enumT hg hm hpa hs).or (pi_enumS hg hm hpa hs))).imp fun σ H R ⟨O, dv, ρ, xs, al, r, e, q⟩ => by
    obtain ⟨d, e1, e2⟩ := Option.bind_eq_some_iff.mp e
    obtain ⟨ds, e3, rfl⟩ := Option.map_eq_some_iff.mp e2
    match d, e3 with
    | .list ds, e3 =>
      cases e3
      refine .inl ⟨O, dv, ρ, _, al, r, e1, fun v H' s hv => ?_⟩
      cases hv with
      | @lst a vs _ h1 h2 =>
        refine ⟨_, _, rfl, (fz_sub O H').seq h1, q _ H' s fun O' H2 s2 al2 => ?_⟩
        have h3 : SqL X.K H2 a vs := (s2.trans (fz_sub O' H2)).seq h1
        have ln := h2.len
        refine ⟨fun i hi => ?_, ?_, fun i x H3 d' ed y => ?_⟩
        · rw [enumD_len] at hi
          exact ⟨vs, vs[i]'(by omega), h3, by simp⟩
        · exact ⟨vs, h3, by rw [enumD_len]; omega⟩
        · obtain ⟨T, x', rfl, nT, rfl, y⟩ := y
          obtain ⟨dd, e4, rfl⟩ := enumD_get ed
          obtain ⟨v, e5, e6⟩ := h2.get e4
          have := y vs h3
          rw [e5] at this
          cases this
          exact pair_new al2 nT (.int _) (e6.same s2)
    | .tuple ds, e3 =>
      cases e3
      refine .inr (.inl ⟨O, dv, ρ, _, al, r, e1, fun v H' s hv => ?_⟩)
      cases hv with
      | @tup a vs _ h1 h2 =>
        refine ⟨_, _, rfl, sqT_same (fz_sub O H') h1, q _ H' s fun O' H2 s2 al2 => ?_⟩
        have h3 : SqT X.K H2 a vs := sqT_same (s2.trans (fz_sub O' H2)) h1
        have ln := h2.len
        refine ⟨fun i hi => ?_, ?_, fun i x H3 d' ed y => ?_⟩
        · rw [enumD_len] at hi
          exact ⟨by omega, h3⟩
        · exact ⟨by rw [enumD_len]; omega, h3⟩
        · obtain ⟨T, rfl, nT, rfl⟩ := y
          obtain ⟨dd, e4, rfl⟩ := enumD_get ed
          obtain ⟨v, e5, e6⟩ := h2.get e4
          have e7 : vs.getD i .non = v := by rw [List.getD_eq_getElem?_getD, e5]; rfl
          show Same H2 (upd H2 T (.tup [.int (i : Nat), vs.getD i .non])) ∧ Dx X.K (Fz O' (upd H2 T (.tup [.int (i : Nat), vs.getD i .non]))) (.ref T) _
          rw [e7]
          exact pair_new al2 nT (.int _) (e6.same s2)
    | .str z, e3 =>
      cases e3
      refine .inr (.inr ⟨O, dv, ρ, _, al, r, e1, fun v H' s hv => ?_⟩)
      cases hv
      refine ⟨z, rfl, q _ H' s fun O' H2 s2 al2 => ?_⟩
      have ln : (enumD (chrsD z)).length = z.cps.size := by rw [enumD_len]; simp [chrsD]
      refine ⟨fun i hi => ?_, ?_, fun i x H3 d' ed y => ?_⟩
      · rw [ln] at hi
        exact ⟨hi, trivial⟩
      · exact ⟨ln, trivial⟩
      · obtain ⟨T, rfl, nT, rfl⟩ := y
        obtain ⟨dd, e4, rfl⟩ := enumD_get ed
        unfold chrsD at e4
        rw [List.getElem?_map] at e4
        obtain ⟨c, e5, rfl⟩ := Option.map_eq_some_iff.mp e4
        have e6 : z.cps.getD i 0 = c := by
          rw [Array.getD_eq_getD_getElem?, ← Array.getElem?_toList, e5]
          rfl
        show Same H2 (upd H2 T (.tup [.int (i : Nat), .str ⟨#[z.cps.getD i 0]⟩])) ∧ Dx X.K (Fz O' (upd H2 T (.tup [.int (i : Nat), .str ⟨#[z.cps.getD i 0]⟩]))) (.ref T) _
        rw [e6]
        exact pair_new al2 nT (.int _) (.str _)⟩
end
end DS
namespace DS
open PySem PySem.Spec PyProof.Rows L2
/-! ### expressions with draws -/
abbrev TXP := Dn → Nat → (PyData → Dn → Nat → Prop) → Prop
abbrev TXB := Dn → Nat → (Bool → Dn → Nat → Prop) → Prop
abbrev TXA := Dn → Nat → (List PyData → Dn → Nat → Prop) → Prop
def MonoX {α : Type} (T : Dn → Nat → (α → Dn → Nat → Prop) → Prop) : Prop := ∀ ρ n Q Q', (∀ d ρ' n', Q d ρ' n' → Q' d ρ' n') → T ρ n Q → T ρ n Q'
def tX (K : PySem.W.Frag) (S : Fr) (T : TXP) : TE := fun σ H Q => ∃ B O ρ n, RepS K S B O H σ ρ n ∧ T ρ n (fun d ρ' n' => ∀ v H', RepS K S B O H' σ ρ' n' → Dx K (Fz O H') v d → Q v H')
structure PX (X : Cx) (S : Fr) (e : Expr) (T : TXP) : Prop where
  pe : PE X e (tX X.K S T)
  mono : MonoX T
def tXT (K : PySem.W.Frag) (S : Fr) (T : TXB) : TT := fun σ H Q => ∃ B O ρ n, RepS K S B O H σ ρ n ∧ T ρ n (fun b ρ' n' => ∀ H', RepS K S B O H' σ ρ' n' → Q b H')
structure PXT (X : Cx) (S : Fr) (e : Expr) (T : TXB) : Prop where
  pt : PT X e (tXT X.K S T)
  mono : MonoX T
def tXA (K : PySem.W.Frag) (S : Fr) (T : TXA) : TA := fun σ H Q => ∃ B O ρ n, RepS K S B O H σ ρ n ∧ T ρ n (fun ds ρ' n' => ∀ vs H', RepS K S B O H' σ ρ' n' → DxAll K (Fz O H') vs ds → Q vs H')
structure PXA (X : Cx) (S : Fr) (es : List Expr) (T : TXA) : Prop where
  pa : PA X es (tXA X.K S T)
  mono : MonoX T
section
variable {X : Cx} {S : Fr} {a b c e : Expr} {Ta Tb Tc : TXP} {pos p : Pos} {rest : List Expr}
def xF (f : DF) : TXP := fun ρ n Q => ∃ d, f ρ = some d ∧ Q d ρ n
theorem px_pf (ok : S.Ok) {f : DF} (h : PF X e f) : PX X S e (xF f) := ⟨h.pe.imp fun σ H Q ⟨B, O, ρ, n, r, d, e1, q⟩ => ⟨O, S.dv, ρ, d, r.al, r.rep, e1, fun v H' s dx => q v H' (r.same ok s) dx⟩, fun ρ n Q Q' k ⟨d, e, q⟩ => ⟨d, e, k _ _ _ q⟩⟩
/-- two in a row -/
theorem tX2 {K : PySem.W.Frag} {σ : L2.St} {H : Hp} {R : V → V → Hp → Prop} (mb : MonoX Tb) (ma : MonoX Ta) {B : Hp} {O : Hid} {ρ : Dn} {n : Nat} (r : RepS K S B O H σ ρ n) {P : PyData → PyData → Dn → Nat → Prop}
    (h : Ta ρ n fun d ρ1 n1 => Tb ρ1 n1 fun e ρ2 n2 => P d e ρ2 n2) (k : ∀ d e ρ2 n2 H2 x y, RepS K S B O H2 σ ρ2 n2 → Dx K (Fz O H2) x d → Dx K (Fz O H2) y e → P d e ρ2 n2 → R x y H2) :
    tX K S Ta σ H fun x H1 => tX K S Tb σ H1 fun y H2 => R x y H2 := by
  refine ⟨B, O, ρ, n, r, ma _ _ _ _ (fun d ρ1 n1 h1 x H1 r1 dx => ?_) h⟩
  refine ⟨Fz O H1, O, ρ1, n1, r1.here, mb _ _ _ _ (fun e ρ2 n2 h2 y H2 r2 dy => ?_) h1⟩
  exact k d e ρ2 n2 H2 x y (r2.base r1.fz) (dx.same r2.fz) dy h2
def x2 (g : PyData → PyData → Option PyData) (Ta Tb : TXP) : TXP := fun ρ n Q => Ta ρ n fun d ρ1 n1 => Tb ρ1 n1 fun e ρ2 n2 => ∃ c, g d e = some c ∧ Q c ρ2 n2
theorem x2_mono {g : PyData → PyData → Option PyData} (ma : MonoX Ta) (mb : MonoX Tb) : MonoX (x2 g Ta Tb) := fun ρ n Q Q' k h => ma _ _ _ _ (fun d ρ1 n1 h1 => mb _ _ _ _ (fun e ρ2 n2 ⟨c, e1, q⟩ => ⟨c, e1, k _ _ _ q⟩) h1) h
theorem tX2F (ok : S.Ok) {g : PyData → PyData → Option PyData} {σ : L2.St} {H : Hp} {Q : VK} (ma : MonoX Ta) (mb : MonoX Tb) (h : tX X.K S (x2 g Ta Tb) σ H Q) : tOp (r2F X.K g) (tX X.K S Ta) (tX X.K S Tb) σ H Q := by
  obtain ⟨B, O, ρ, n, r, t⟩ := h
  exact tX2 mb ma r t fun d e ρ2 n2 H2 x y r2 dx dy ⟨c, e1, q⟩ => ⟨O, d, e, c, r2.al, dx, dy, e1, fun v H3 s3 dv => q v H3 (r2.same ok s3) dv⟩
theorem px_op (ok : S.Ok) {op : Operator} {g : PyData → PyData → Option PyData} (ho : OpR X (binaryOp op) (r2F X.K g)) (ha : PX X S a Ta) (hb : PX X S b Tb) : PX X S (.BinOp a op b pos) (x2 g Ta Tb) :=
  ⟨(pe_op ho ha.pe hb.pe).imp fun _ _ _ h => tX2F ok ha.mono hb.mono h, x2_mono ha.mono hb.mono⟩
theorem px_cmp (ok : S.Ok) {op : CmpOp} {g : PyData → PyData → Option PyData} (ho : OpR X (compareOp op) (r2F X.K g)) (ha : PX X S a Ta) (hb : PX X S b Tb) (hm : behindInMarks op b = false) : PX X S (.Compare a [op] [b] pos) (x2 g Ta Tb) :=
  ⟨(pe_cmpR ho ha.pe hb.pe hm).imp fun _ _ _ h => tX2F ok ha.mono hb.mono h, x2_mono ha.mono hb.mono⟩
theorem px_ix (ok : S.Ok) (ha : PX X S a Ta) (hb : PX X S b Tb) (hs : PlainIx b := by exact fun _ _ => rfl) : PX X S (.Subscript a b pos) (x2 ixD Ta Tb) :=
  ⟨(pe_ix of_ix ha.pe hb.pe hs).imp fun _ _ _ h => tX2F ok ha.mono hb.mono h, x2_mono ha.mono hb.mono⟩
/-! tests -/
def xB (T : TXP) : TXB := fun ρ n Q => T ρ n fun d ρ' n' => ∃ b, d = .bool b ∧ Q b ρ' n'
theorem xB_mono (m : MonoX Ta) : MonoX (xB Ta) := fun ρ n Q Q' k h => m _ _ _ _ (fun d ρ' n' ⟨b, e, q⟩ => ⟨b, e, k _ _ _ q⟩) h
theorem tX_test {K : PySem.W.Frag} {σ : L2.St} {H : Hp} {Q : Bool → Hp → Prop} (m : MonoX Ta) (h : tXT K S (xB Ta) σ H Q) : tX K S Ta σ H fun x H1 => ∃ k, x = .bl k ∧ Q k H1 := by
  obtain ⟨B, O, ρ, n, r, t⟩ := h
  refine ⟨B, O, ρ, n, r, m _ _ _ _ (fun d ρ' n' ⟨b, e, q⟩ v H' r' dx => ?_) t⟩
  subst e
  cases dx
  exact ⟨b, rfl, q H' r'⟩
theorem pxt_cmp (ok : S.Ok) {op : CmpOp} {g : PyData → PyData → Option PyData} (ho : OpR X (compareOp op) (r2F X.K g)) (ha : PX X S a Ta) (hb : PX X S b Tb) (hm : behindInMarks op b = false) : PXT X S (.Compare a [op] [b] pos) (xB (x2 g Ta Tb)) :=
  ⟨(pt_cmpR ho ha.pe hb.pe hm).imp fun _ _ _ h => tX2F ok ha.mono hb.mono (tX_test (x2_mono ha.mono hb.mono) h), xB_mono (x2_mono ha.mono hb.mono)⟩
variable {Ba Bb : TXB}
structure PXW (X : Cx) (S : Fr) (e : Expr) (T : TXB) : Prop where
  pw : PW X e (tXT X.K S T)
  mono : MonoX T
/-! arguments, displays, calls -/
def xNil : TXA := fun ρ n Q => Q [] ρ n
def xCons (T : TXP) (R : TXA) : TXA := fun ρ n Q => T ρ n fun d ρ1 n1 => R ρ1 n1 fun ds ρ2 n2 => Q (d :: ds) ρ2 n2
theorem pxa_nil : PXA X S [] xNil := ⟨pa_nil.imp fun σ H Q ⟨B, O, ρ, n, r, t⟩ => t [] H r .nil, fun ρ n Q Q' k h => k _ _ _ h⟩
theorem pxa_cons {es : List Expr} {R : TXA} (ha : PX X S e Ta) (hr : PXA X S es R) (hs : starEach (e :: es) X.env = (false, eval e X.env) :: starEach es X.env := by rfl) : PXA X S (e :: es) (xCons Ta R) :=
  ⟨(pa_cons ha.pe hr.pa hs).imp fun σ H Q ⟨B, O, ρ, n, r, t⟩ => by
    refine ⟨B, O, ρ, n, r, ha.mono _ _ _ _ (fun d ρ1 n1 z v H1 r1 dx => ?_) t⟩
    refine ⟨Fz O H1, O, ρ1, n1, r1.here, hr.mono _ _ _ _ (fun ds ρ2 n2 z2 vs H2 r2 dxs => ?_) z⟩
    exact z2 (v :: vs) H2 (r2.base r1.fz) (.cons (dx.same r2.fz) dxs), fun ρ n Q Q' k h => ha.mono _ _ _ _ (fun d ρ1 n1 z => hr.mono _ _ _ _ (fun ds ρ2 n2 z2 => k _ _ _ z2) z) h⟩
variable {R : TXA} {es : List Expr}
def xTup (R : TXA) : TXP := fun ρ n Q => R ρ n fun ds ρ1 n1 => ds.length < lim ∧ Q (.tuple ds) ρ1 n1
def xLst (R : TXA) : TXP := fun ρ n Q => R ρ n fun ds ρ1 n1 => ds.length < lim ∧ Q (.list ds) ρ1 n1
theorem px_tup (ok : S.Ok) {x1} (h : PXA X S es R) : PX X S (.Tuple es x1 pos) (xTup R) := ⟨(pe_tup h.pa).imp fun σ H Q ⟨B, O, ρ, n, r, t⟩ =>
  ⟨B, O, ρ, n, r, h.mono _ _ _ _ (fun ds ρ1 n1 ⟨hl, z⟩ vs H1 r1 dx => ⟨Nat.le_of_lt (lim_le (by rw [dx.len]; exact hl)), fun p np => z _ _ (r1.same ok (new_same np)) (Dx.newT r1.al np dx)⟩) t⟩, fun ρ n Q Q' k h' => h.mono _ _ _ _ (fun d ρ1 n1 ⟨l, z⟩ => ⟨l, k _ _ _ z⟩) h'⟩
theorem px_lst (ok : S.Ok) (h : PXA X S es R) : PX X S (.List es pos) (xLst R) := ⟨(pe_lst h.pa).imp fun σ H Q ⟨B, O, ρ, n, r, t⟩ =>
  ⟨B, O, ρ, n, r, h.mono _ _ _ _ (fun ds ρ1 n1 ⟨hl, z⟩ vs H1 r1 dx => ⟨Nat.le_of_lt (lim_le (by rw [dx.len]; exact hl)), fun p np => z _ _ (r1.same ok (new_same np)) (Dx.newL r1.al np dx)⟩) t⟩, fun ρ n Q Q' k h' => h.mono _ _ _ _ (fun d ρ1 n1 ⟨l, z⟩ => ⟨l, k _ _ _ z⟩) h'⟩
def xCall (g : List PyData → Option PyData) (R : TXA) : TXP := fun ρ n Q => R ρ n fun ds ρ1 n1 => ∃ c, g ds = some c ∧ Q c ρ1 n1
theorem xCall_mono {g : List PyData → Option PyData} (m : MonoX R) : MonoX (xCall g R) := fun ρ n Q Q' k h => m _ _ _ _ (fun d ρ1 n1 ⟨c, e, z⟩ => ⟨c, e, k _ _ _ z⟩) h
section
variable {x : Str} {id T : String} {g : List PyData → Option PyData}
theorem txF (ok : S.Ok) (m : MonoX R) {σ : L2.St} {H : Hp} {Q : VK} (h : tX X.K S (xCall g R) σ H Q) : tCB (rcF X.K g) (tXA X.K S R) σ H Q := by
  obtain ⟨B, O, ρ, n, r, t⟩ := h
  exact ⟨B, O, ρ, n, r, m _ _ _ _ (fun ds ρ1 n1 ⟨c, e, z⟩ vs H1 r1 dx => ⟨O, ds, c, r1.al, dx, e, fun v H2 s2 h2 => z v H2 (r1.same ok s2) h2⟩) t⟩
theorem px_callTy (ok : S.Ok) (hc : CallR X (.type T) (rcF X.K g)) (hg : Gl X x) (hm : X.mg x = none) (hv : bootBuiltins x = some (.type T)) (ha : PXA X S (e :: es) R) (hn : x ≠ "__name__" := by decide) (hdb : (x == ("__debug__" : Str)) = false := by decide)
    (he : starEach (e :: es) X.env = (false, eval e X.env) :: starEach es X.env := by rfl) (hpl : (backTo pos (starEach es X.env)).any (·.1) = false := by rfl) : PX X S (.Call (.Name x p) (e :: es) [] pos) (xCall g R) :=
  ⟨(pe_callTy hc hg hm hv ha.pa hn hdb he hpl).imp fun _ _ _ h => txF ok ha.mono h, xCall_mono ha.mono⟩
end
/-! a call that is handed the deck -/
abbrev FamT := V → Hid → (Hp → Nat → Prop) → Prop
abbrev WD := List PyData → Nat → (PyData → Nat → Prop) → Prop
def spD (Fam : FamT) (K : PySem.W.Frag) (m : Nat) (W : WD) : Sp := fun vs H Q _ => ∃ dv M Dk us O ds n, vs = dv :: us ∧ Fam dv M Dk ∧ Dk H n ∧ Al O H ∧ (∀ b, M b → O b) ∧ DxAll K (Fz O H) us ds ∧ ds.length = m ∧
  W ds n fun d n' => ∀ v H', (∀ b x, H b = some x → ¬ M b → H' b = some x) → Dk H' n' → Al O H' → Dx K (Fz O H') v d → Q v H'
def MonoW (W : WD) : Prop := ∀ ds n Q Q', (∀ d n', Q d n' → Q' d n') → W ds n Q → W ds n Q'
/-- what a call leaves of the state -/
theorem RepS.after {K : PySem.W.Frag} {B H H' : Hp} {O : Hid} {σ : L2.St} {ρ : Dn} {n n' : Nat} (r : RepS K S B O H σ ρ n) (kp : ∀ b x, H b = some x → ¬ S.M b → H' b = some x) (dk : S.Dk H' n') (al : Al O H') : RepS K S B O H' σ ρ n' := by
  have f : Same (Fz O H) (Fz O H') := fun b o z => by
    obtain ⟨z1, z2⟩ := fz_get z
    rw [fz_out z2]
    exact kp b o z1 fun w => z2 (r.mo b w)
  have at_ : ∀ (i : Nat) (e : Ent) (ov : Option V) (q : Addr), ρ[i]? = some e → σ[i]? = some ov → Hd H ov e q → H' q = H q := fun i e ov q e1 e2 k => by
    obtain ⟨_, x, z⟩ := (r.ent e1 e2).hd k
    rw [z]
    exact kp q x z (r.ow i e ov q e1 e2 k).2.1
  refine ⟨al, ⟨r.rep.1, fun i e q => ?_⟩, fun b x e m => kp b x (r.kp b x e m) m, r.sub, r.mo, r.fz.trans f, r.ow' at_, dk⟩
  obtain ⟨ov, h1, h2⟩ := r.rep.2 i e q
  exact ⟨ov, h1, h2.shift (fun _ z => z) f fun a k => at_ i e ov a q h1 k⟩
def getK (i : Nat) (ρ : Dn) : Prop := ρ[i]? = some .dk
def xDraw (i m : Nat) (W : WD) (R : TXA) : TXP := fun ρ n Q => getK i ρ ∧ R ρ n fun ds ρ1 n1 => ds.length = m ∧ W ds n1 fun d n2 => Q d ρ1 n2
theorem px_callD (ok : S.Ok) {Fam : FamT} {k m i : Nat} {y : Str} {p1 : Pos} {f : Addr} {fd : FuncData} {ps : List Str} {W : WD} {x : Str} (F : FnG X.prog X.w X.K X.mg X.base CX0 k f fd ps (spD Fam X.K m W)) (mw : MonoW W) (fam : Fam S.dv S.M S.Dk) (hgd : X.A.guards = some []) (hr : Room k X.A) (hg : Gl X x) (hm : X.mg x = some (.ref f)) (hk : PySem.W.keepIn X.K (.ref f) = true) (hb : Binds X.K fd ps [])
    (hN : X.N[i]? = some y) (hv : Vis X.env.scope y) (ha : PXA X S es R) (hdb : (x == ("__debug__" : Str)) = false := by decide) (hs : starEach (.Name y p1 :: es) X.env = (false, eval (.Name y p1) X.env) :: starEach es X.env := by rfl) (hpl : (backTo pos (starEach es X.env)).any (·.1) = false := by rfl)
    (hd : (y == ("__debug__" : Str)) = false := by decide) (hcd : (y == ("__classdict__" : Str)) = false := by decide) :
    PX X S (.Call (.Name x p) (.Name y p1 :: es) [] pos) (xDraw i m W R) :=
  ⟨(pe_callG F hgd hr hg hm hk hb .nil pass0 (E := fun _ _ _ => False) (pa_cons (pe_var hN hv hd hcd) ha.pa hs) hdb hs hpl).imp fun σ H Q ⟨B, O, ρ, n, r, ⟨gk, t⟩⟩ => by
    obtain ⟨ov, h1, h2⟩ := r.rep.2 i _ gk
    have h2 : ov = some S.dv := h2
    subst h2
    refine ⟨S.dv, h1, B, O, ρ, n, r, ha.mono _ _ _ _ (fun ds ρ1 n1 ⟨hl, w⟩ vs H1 r1 dx => ?_) t⟩
    refine ⟨S.dv, S.M, S.Dk, vs, O, ds, n1, by rw [List.append_nil], fam, r1.dk, r1.al, r1.mo, dx, hl, mw _ _ _ _ (fun d n2 z v H2 kp dk al dx2 => ?_) w⟩
    exact z v H2 (r1.after kp dk al) dx2, fun ρ n Q Q' k ⟨gk, h⟩ => ⟨gk, ha.mono _ _ _ _ (fun d ρ1 n1 ⟨l, z⟩ => ⟨l, mw _ _ _ _ (fun d n2 z2 => k _ _ _ z2) z⟩) h⟩⟩
/-! statements with draws -/
def dRetX (T : TXP) : TD := fun DD ρ n => T ρ n fun d _ n' => DD.rt d n'
theorem pd_retX (h : PX X S e Ta) : PD X S (.Return (some e) pos) (dRetX Ta) := ⟨(ps_ret h.pe).imp fun D σ H ⟨B, O, ρ, n, DD, r, t, E⟩ => ⟨B, O, ρ, n, r, h.mono _ _ _ _ (fun d ρ1 n1 z v H1 r1 dx => r1.out E dx z) t⟩⟩
def dSetX (i : Nat) (T : TXP) : TD := fun DD ρ n => T ρ n fun d ρ' n' => DD.nx (ρ'.set i (.dat d)) n'
theorem pd_setX {i : Nat} {x : Str} {pos' : Pos} (hN : X.N.Nodup) (hi : X.N[i]? = some x) (hx : Loc X.env.scope x) (he : PX X S e Ta) (hs : swapsWith e (some (.Name x pos')) pos.line X.env = pure false := by rfl) (hf : X.fn x = true ∨ X.env.scope.names.lookup x = some .local := by first | exact .inl rfl | exact .inr rfl | assumption) :
    PD X S (.Assign [.Name x pos'] e pos) (dSetX i Ta) := ⟨(ps_set hN hi hx he.pe hs hf).imp fun D σ H ⟨B, O, ρ, n, DD, r, t, E⟩ => ⟨B, O, ρ, n, r, he.mono _ _ _ _ (fun d ρ1 n1 z v H1 r1 dx => E.nx O _ H1 _ n1 (r1.set (v := v) (e := .dat d) ⟨v, rfl, dx⟩ notOwn_dat i) z) t⟩⟩
def dParX (i j : Nat) (R : TXA) : TD := fun DD ρ n => R ρ n fun ds ρ1 n1 => ∃ x y, ds = [x, y] ∧ DD.nx ((ρ1.set i (.dat x)).set j (.dat y)) n1
theorem pd_parX {i j : Nat} {x y : Str} {px py pt : Pos} {kt k2 pt2} (hc : X.calm = true) (hN : X.N.Nodup) (hi : X.N[i]? = some x) (hj : X.N[j]? = some y) (hij : i ≠ j)
    (hx : X.env.scope.names.lookup x = some .local) (hy : X.env.scope.names.lookup y = some .local) (ha : PXA X S [a, b] R)
    (hw : swappedStores [.Tuple [.Name x px, .Name y py] kt pt] (.Tuple [a, b] k2 pt2) X.env = pure (some [x, y]))
    (hs : swapsWithSole [.Tuple [.Name x px, .Name y py] kt pt] (.Tuple [a, b] k2 pt2) pos.line X.env = pure false := by rfl) :
    PD X S (.Assign [.Tuple [.Name x px, .Name y py] kt pt] (.Tuple [a, b] k2 pt2) pos) (dParX i j R) := ⟨(ps_par hc hN hi hj hij hx hy ha.pa hw hs).imp fun D σ H ⟨B, O, ρ, n, DD, r, t, E⟩ =>
  ⟨B, O, ρ, n, r, ha.mono _ _ _ _ (fun ds ρ1 n1 ⟨d, e, e1, z⟩ vs H1 r1 dx => by
    subst e1
    cases dx with
    | cons h1 h2 =>
      cases h2 with
      | cons h2 h3 =>
        cases h3
        exact ⟨_, _, rfl, E.nx O _ H1 _ n1 ((r1.set (e := .dat d) ⟨_, rfl, h1⟩ notOwn_dat i).set (e := .dat e) ⟨_, rfl, h2⟩ notOwn_dat j) z⟩) t⟩⟩
end
/-! ### a def that is handed the deck -/
def startK (N : Nat) (ds : List PyData) : Dn := .dk :: startD (N - 1) ds
structure FamOk (Fam : FamT) : Prop where
  dk : ∀ dv M Dk, Fam dv M Dk → ∀ (H H' : Hp) (n : Nat), (∀ a, M a → H' a = H a) → Dk H n → Dk H' n
section
variable {P : Program} {w : World} {K : PySem.W.Frag} {mg : Str → Option Value} {base : Heap}
theorem fn_deck {Fam : FamT} (fo : FamOk Fam) {x qual : Str} {st : Stmt} {N ps : List Str} {f : Addr} {fd : FuncData} {k m : Nat} {W : WD} (F : Fun K x qual st f fd) (Sc : FnScope N ps (defScope st)) (hn : ps.length = m + 1) (hN : 0 < N.length)
    (hb : ∀ (cdv : Value) (A : Around) (outer : List Env) (s : Shared) (H : Hp) (E : XK) (S : Fr), S.Ok → Fam S.dv S.M S.Dk → S.H0 = H → (A.deeper (envOfC qual (defScope st) s.heap.objs.size f cdv)).guards = some [] → Room k (A.deeper (envOfC qual (defScope st) s.heap.objs.size f cdv)) →
      ∃ T, PDs (cxOf CX0 P w K mg base N qual (defScope st) f cdv A outer s H E).nox S (defBody st) T ∧ ∀ ds n Q, ds.length = m → W ds n Q → T ⟨fun _ n' => Q .none n', fun e n' => Q e n', fun _ _ => False, fun _ _ => False⟩ (startK N.length ds) n) : FnG P w K mg base CX0 (k + 1) f fd ps (spD Fam K m W) := by
  refine FnG.ok F Sc (fun vs H Q E h => ?_) (fun cdv A outer s H vs Q E hg hr h => ?_)
  · obtain ⟨dv, M, Dk, us, O, ds, n, rfl, _, _, _, _, dx, hl, _⟩ := h
    rw [List.length_cons, dx.len, hl, hn]
  · obtain ⟨dv, M, Dk, us, O, ds, n, rfl, fam, dk, al, mo, dx, hl, w⟩ := h
    obtain ⟨T, pt, want⟩ := hb cdv A outer s H E ⟨H, O, M, dv, Dk⟩ ⟨fo.dk dv M Dk fam, al⟩ fam rfl hg hr
    refine ⟨_, pt.pss, Fz O H, O, _, n, _, ⟨al, ?_, fun b y e _ => e, fun _ h => h, mo, Same.refl _, fun i g og q e1 e2 e3 => ?_, dk⟩, want ds n _ hl w, ?_⟩
    · have e1 : L2.start N (dv :: us) = some dv :: L2.start (N.tail) us := by
        unfold L2.start
        rw [List.map_cons, List.cons_append, List.length_cons, List.length_tail]
        congr 3
        omega
      rw [e1]
      have r0 := repE_start (K := K) (O := O) (H := H) (dv := dv) (N := N.tail) dx
      have e2 : N.tail.length = N.length - 1 := List.length_tail
      refine ⟨by unfold startK; rw [List.length_cons, List.length_cons, ← e2, r0.1], fun i e q => ?_⟩
      cases i with
      | zero =>
        cases q
        exact ⟨_, rfl, rfl⟩
      | succ i =>
        have q : (startD (N.length - 1) ds)[i]? = some e := q
        rw [← e2] at q
        exact r0.2 i e q
    · exfalso
      unfold startK at e1
      cases i with
      | zero => cases e1; exact e3
      | succ i =>
        have e1 : (startD (N.length - 1) ds)[i]? = some g := e1
        unfold startD at e1
        by_cases lt : i < ds.length
        · rw [List.getElem?_append_left (by rw [List.length_map]; exact lt), List.getElem?_map] at e1
          cases z : ds[i]? with
          | none => rw [z] at e1; cases e1
          | some d => rw [z] at e1; cases e1; exact e3
        · rw [List.getElem?_append_right (by rw [List.length_map]; omega), List.getElem?_replicate] at e1
          split at e1 <;> cases e1
          exact e3
    · refine ⟨fun O' σ' H' ρ' n' r e => ?_, fun O' σ' H' ρ' n' r e => e, fun O' σ' H' ρ' n' r e => e, fun v H' e n' dx kp al' dk' h => ?_⟩
      · refine e .non H' r.kp r.dk (fun a z => r.al a (r.sub a z)) .non
      · exact h v H' kp dk' al' dx
end
end DS
namespace DS
open PySem PySem.Spec PyProof.Rows L2
section
variable {X : Cx} {S : Fr} {a b c e : Expr} {fa fb f : DF} {Ta Tb : TXP} {pos p : Pos}
/-! ### list(range(n)) as a new list -/
/-! list(e) as a new list -/
def toLstL (f : DF) : Dn → Option (List PyData) := fun ρ => (f ρ).bind itemsD
theorem pfl_list (hg : Gl X "list") (hm : X.mg "list" = none) (ha : PF X e f) (hs : starEach [e] X.env = (false, eval e X.env) :: starEach [] X.env := by rfl) (hpl : (backTo pos (starEach [] X.env)).any (·.1) = false := by rfl) :
    PFL X (.Call (.Name "list" p) [e] [] pos) (toLstL f) := ⟨(pe_callTy call_list_of hg hm (by decide +kernel) (pa_cons ha.pe pa_nil hs) (by decide) (by decide) hs hpl).imp fun σ H Q ⟨O, dv, ρ, d, al, r, e, q⟩ => by
  obtain ⟨x, e1, e2⟩ := Option.bind_eq_some_iff.mp e
  refine ⟨O, dv, ρ, x, al, r, e1, fun v H' s hv => ?_⟩
  cases hv with
  | lst h1 h2 =>
    cases e2
    exact ⟨_, _, rfl, .inl ((fz_sub O H').seq h1), fun l nl => q l _ _ (s.trans (new_same nl)) (s.free nl) upd_same (DxAll.hide nl h2)⟩
  | tup h1 h2 =>
    cases e2
    exact ⟨_, _, rfl, .inr (sqT_same (fz_sub O H') h1), fun l nl => q l _ _ (s.trans (new_same nl)) (s.free nl) upd_same (DxAll.hide nl h2)⟩
  | _ => cases e2⟩
/-! ### reading a list of one's own -/
theorem own_at {K : PySem.W.Frag} {O : Hid} {H : Hp} {dv : V} {σ : L2.St} {ρ : Dn} {i : Nat} {ds : List PyData} (r : RepE K O H dv σ ρ) (h : getO i ρ = some ds) : ∃ q vs, σ[i]? = some (some (.ref q)) ∧ O q ∧ H q = some (.lst vs) ∧ DxAll K (Fz O H) vs ds := by
  obtain ⟨ov, h1, q, us, h2, h3, h4, h5⟩ := r.2 i _ (getO_some h)
  subst h2
  exact ⟨q, us, h1, h3, h4, h5⟩
def ixO (i : Nat) (fb : DF) : DF := fun ρ => (getO i ρ).bind fun ds => (fb ρ).bind fun d => (toI d).bind fun j => atI ds j
theorem pf_ixO (i : Nat) {x : Str} {p1 : Pos} (hb : PF X b fb) (hN : X.N[i]? = some x := by rfl) (hv : Vis X.env.scope x := by first | exact Or.inl rfl | exact Or.inr (Or.inl rfl) | exact Or.inr (Or.inr rfl)) (hd : (x == ("__debug__" : Str)) = false := by decide) (hcd : (x == ("__classdict__" : Str)) = false := by decide)
    (hs : PlainIx b := by exact fun _ _ => rfl) : PF X (.Subscript (.Name x p1) b pos) (ixO i fb) :=
  ⟨(pe_ix ix_list (pe_var hN hv hd hcd) hb.pe hs).imp fun σ H Q ⟨O, dv, ρ, d, al, r, e, q⟩ => by
    obtain ⟨ds, e1, e2⟩ := Option.bind_eq_some_iff.mp e
    obtain ⟨y, e3, e4⟩ := Option.bind_eq_some_iff.mp e2
    obtain ⟨j, e5, e6⟩ := Option.bind_eq_some_iff.mp e4
    rw [toI_some e5] at e3
    obtain ⟨p, vs, h1, h2, h3, h4⟩ := own_at r e1
    refine ⟨.ref p, h1, O, dv, ρ, _, al, r, e3, fun v H' s hv => ?_⟩
    cases hv
    obtain ⟨w, z1, z2⟩ := h4.at e6
    exact ⟨p, vs, j, w, rfl, rfl, SqL.of (s _ _ h3), z1, q _ H' s (z2.same (s.fz O))⟩⟩
/-! ### pop -/
/-! ### methods of texts -/
def strsD : List PyData → Option (List Str)
  | [] => some []
  | .str x :: ds => (strsD ds).map fun xs => x :: xs
  | _ => none
theorem strsD_some : ∀ {ds : List PyData} {xs : List Str}, strsD ds = some xs → ds = xs.map .str
  | [], _, h => by cases h; rfl
  | .str x :: ds, xs, h => by
    obtain ⟨ys, e1, rfl⟩ := Option.map_eq_some_iff.mp h
    rw [strsD_some e1]
    rfl
theorem strsD_map : ∀ xs : List Str, strsD (xs.map .str) = some xs
  | [] => rfl
  | x :: xs => by simp [strsD, strsD_map xs]
theorem dxAll_strs {K : PySem.W.Frag} {H : Hp} : ∀ {xs : List Str} {vs : List V}, DxAll K H vs (xs.map PyData.str) → vs = xs.map V.str
  | [], _, h => by cases h; rfl
  | x :: xs, _, h => by
    cases h with
    | cons h1 h2 =>
      cases h1
      rw [dxAll_strs h2]
      rfl
def joinD (d e : PyData) : Option PyData := match d with
  | .str a => (itemsD e).bind fun ds => (strsD ds).bind fun ys => if (ys.map (·.length)).sum + ys.length * a.length < lim then some (.str (Txt.join a ys)) else none
  | _ => none
theorem pf_join (ha : PF X a fa) (hb : PF X b fb) {apos cpos : Pos} (hbase : attributeBase a "join" X.env (eval a X.env) = eval a X.env := by rfl)
    (hfew : ((backTo cpos (starEach [b] X.env)).all (fun x => !x.1) && (backToKw cpos (keywordEach [] X.env)).all (fun x => x.1.isSome) && decide ([b].length + ([] : List Keyword).length + (if ([] : List Keyword).isEmpty then 0 else 1) < 30)) = true := by rfl)
    (hline : (apos.endLine == cpos.line) = true := by rfl) (hs : starEach [b] X.env = (false, eval b X.env) :: starEach [] X.env := by rfl) (hplain : (backTo cpos (starEach [] X.env)).any (·.1) = false := by rfl) :
    PF X (.Call (.Attribute a "join" apos) [b] [] cpos) (bin2 joinD fa fb) := ⟨(pe_bm PySem.F.plainAttrs_str PySem.F.slot_str_join PySem.F.type_str_join mt_join ha.pe (pa_cons hb.pe pa_nil hs) hbase hfew hline hs hplain).imp fun σ H Q ⟨O, dv, ρ, d, al, r, e, q⟩ => by
  obtain ⟨x, e1, e2⟩ := Option.bind_eq_some_iff.mp e
  obtain ⟨y, e3, e4⟩ := Option.bind_eq_some_iff.mp e2
  match x, e4 with
  | .str x, e4 =>
    obtain ⟨ds, e5, e6⟩ := Option.bind_eq_some_iff.mp e4
    obtain ⟨ys, e7, e8⟩ := Option.bind_eq_some_iff.mp e6
    split at e8
    case isFalse => cases e8
    rename_i hl
    cases e8
    rw [strsD_some e7] at e5
    have hz : (ys.map (·.length)).sum + ys.length * x.length ≤ 16777216 := by
      have : lim = 1000000 := rfl
      omega
    refine ⟨O, dv, ρ, _, al, r, e1, fun v H1 s1 h1 => ?_⟩
    cases h1
    refine ⟨rfl, O, dv, ρ, _, al.same s1, r.same s1, e3, fun v2 H2 s2 h2 => ?_⟩
    cases h2 with
    | lst h3 h4 =>
      cases e5
      rw [dxAll_strs h4] at h3
      exact ⟨x, _, ys, rfl, rfl, .inl ((fz_sub O H2).seq h3), hz, q _ H2 (s1.trans s2) (.str _)⟩
    | tup h3 h4 =>
      cases e5
      rw [dxAll_strs h4] at h3
      exact ⟨x, _, ys, rfl, rfl, .inr (sqT_same (fz_sub O H2) h3), hz, q _ H2 (s1.trans s2) (.str _)⟩
    | _ => cases e5⟩
end
end DS
namespace DS
open PySem PySem.Spec PyProof.Rows L2
section
variable {K : PySem.W.Frag} {S : Fr} {B B' H H' : Hp} {O : Hid} {σ : L2.St} {ρ : Dn} {n : Nat}
/-! ### wiped slots -/
theorem wipeE_get (ρ : Dn) : ∀ (vs : List Nat) (j : Nat), (wipeE ρ vs)[j]? = if j ∈ vs then ρ[j]?.map (fun _ => Ent.na) else ρ[j]?
  | [], j => by simp [wipeE]
  | v :: vs, j => by
    unfold wipeE
    have hl : (wipeE ρ vs).length = ρ.length := by
      clear j
      induction vs with
      | nil => rfl
      | cons x xs ih => unfold wipeE; rw [List.length_set, ih]
    by_cases h : v = j
    · subst h
      rw [if_pos List.mem_cons_self]
      by_cases lt : v < (wipeE ρ vs).length
      · rw [List.getElem?_set_self lt]
        rw [hl] at lt
        rw [List.getElem?_eq_getElem lt]
        rfl
      · rw [List.getElem?_eq_none (by rw [List.length_set]; omega)]
        rw [hl] at lt
        rw [List.getElem?_eq_none (by omega)]
        rfl
    · rw [List.getElem?_set_ne h, wipeE_get ρ vs j]
      have : (j ∈ v :: vs) ↔ j ∈ vs := by simp [Ne.symm h]
      by_cases k : j ∈ vs
      · rw [if_pos k, if_pos (this.mpr k)]
      · rw [if_neg k, if_neg fun z => k (this.mp z)]
theorem RepS.wipe (h : RepS K S B O H σ ρ n) (vs : List Nat) : RepS K S B O H (wipe σ vs) (wipeE ρ vs) n := by
  refine ⟨h.al, h.rep.wipe vs, h.kp, h.sub, h.mo, h.fz, fun i e ov q e1 e2 e3 => ?_, h.dk⟩
  have b : ∀ (j : Nat) (e' : Ent) (ov' : Option V), (wipeE ρ vs)[j]? = some e' → (L2.wipe σ vs)[j]? = some ov' → Hd H ov' e' q → ρ[j]? = some e' ∧ σ[j]? = some ov' := fun j e' ov' z1 z2 z3 => by
    rw [wipeE_get] at z1
    rw [wipe_get] at z2
    by_cases k : j ∈ vs
    · rw [if_pos k] at z1
      obtain ⟨_, _, z⟩ := Option.map_eq_some_iff.mp z1
      rw [← z] at z3
      exact z3.elim
    · rw [if_neg k] at z1 z2
      exact ⟨z1, z2⟩
  obtain ⟨y1, y2⟩ := b i e ov e1 e2 e3
  obtain ⟨h1, h2, h3⟩ := h.ow i e ov q y1 y2 e3
  refine ⟨h1, h2, fun j e' ov' z1 z2 z3 => ?_⟩
  obtain ⟨w1, w2⟩ := b j e' ov' z1 z2 z3
  exact h3 j e' ov' w1 w2 z3
theorem RepS.unwipe {vs : List Nat} (h : RepS K S B O H (L2.wipe σ vs) ρ n) : RepS K S B O H σ ρ n := by
  refine ⟨h.al, ⟨h.rep.1.trans (wipe_length σ vs), fun i e q => ?_⟩, h.kp, h.sub, h.mo, h.fz, fun i e ov q e1 e2 e3 => ?_, h.dk⟩
  · obtain ⟨ov, h1, h2⟩ := h.rep.2 i e q
    rw [wipe_get] at h1
    by_cases k : i ∈ vs
    · rw [if_pos k] at h1
      obtain ⟨o0, y1, y2⟩ := Option.map_eq_some_iff.mp h1
      subst y2
      refine ⟨o0, y1, ?_⟩
      cases e with
      | na => trivial
      | dat d => obtain ⟨_, z, _⟩ := h2; cases z
      | own d => obtain ⟨_, _, z, _⟩ := h2; cases z
      | rows d => obtain ⟨_, _, z, _⟩ := h2; cases z
      | dct d => obtain ⟨_, _, z, _⟩ := h2; cases z
      | dck d => obtain ⟨_, _, z, _⟩ := h2; cases z
      | dk => cases h2
      | tn d => obtain ⟨_, _, _, z, _⟩ := h2; cases z
      | sd l d => obtain ⟨_, z, _⟩ := h2; cases z
      | err a0 d0 f0 => cases h2.1
    · rw [if_neg k] at h1
      exact ⟨ov, h1, h2⟩
  · have b : ∀ (j : Nat) (e' : Ent) (ov' : Option V), ρ[j]? = some e' → σ[j]? = some ov' → Hd H ov' e' q → (L2.wipe σ vs)[j]? = some ov' := fun j e' ov' z1 z2 z3 => by
      rw [wipe_get]
      by_cases k : j ∈ vs
      · exfalso
        obtain ⟨o1, y1, y2⟩ := h.rep.2 j e' z1
        rw [wipe_get, if_pos k] at y1
        obtain ⟨_, _, w⟩ := Option.map_eq_some_iff.mp y1
        subst w
        cases e' with
        | na => exact z3
        | dat d => exact z3
        | own d => obtain ⟨_, _, z, _⟩ := y2; cases z
        | rows d => obtain ⟨_, _, z, _⟩ := y2; cases z
        | dct d => obtain ⟨_, _, z, _⟩ := y2; cases z
        | dck d => obtain ⟨_, _, z, _⟩ := y2; cases z
        | dk => exact z3
        | tn d => exact z3
        | sd l d => exact z3
        | err a0 d0 f0 => exact z3
      · rw [if_neg k]
        exact z2
    obtain ⟨h1, h2, h3⟩ := h.ow i e ov q e1 (b i e ov e1 e2 e3) e3
    exact ⟨h1, h2, fun j e' ov' z1 z2 z3 => h3 j e' ov' z1 (b j e' ov' z1 z2 z3) z3⟩
/-! ### a list that is being made -/
def Fr.wi (S : Fr) (D : Addr) (o : HO) : Fr := { S with H0 := upd S.H0 D o }
theorem Fr.wi_ok {D : Addr} {o : HO} (ok : S.Ok) : (S.wi D o).Ok := ⟨ok.dk, fun a z => by
  show upd S.H0 D o a ≠ none
  by_cases e : a = D
  · rw [e, upd_same]
    exact fun w => nomatch w
  · rw [upd_ne e]
    exact ok.al a z⟩
theorem RepS.freshAt (h : RepS K S B O H σ ρ n) {D : Addr} (nD : H D = none) : S.H0 D = none ∧ ¬ S.M D ∧ ¬ O D := by
  have nO := h.al.new nD
  have nm : ¬ S.M D := fun z => nO (h.mo D z)
  refine ⟨?_, nm, nO⟩
  cases z : S.H0 D with
  | none => rfl
  | some x =>
    have := h.kp D x z nm
    rw [nD] at this
    cases this
theorem RepS.enter (h : RepS K S B O H σ ρ n) (ok : S.Ok) {D : Addr} {o : HO} (nD : H D = none) : RepS K (S.wi D o) B (hide O D) (upd H D o) σ ρ n := by
  obtain ⟨f1, f2, f3⟩ := h.freshAt nD
  have f : Same (Fz O H) (Fz (hide O D) (upd H D o)) := fun b x z => by
    obtain ⟨z1, z2⟩ := fz_get z
    have ne := ne_of_none z1 nD
    rw [fz_out fun w => w.elim z2 ne, upd_ne ne]
    exact z1
  have ne : ∀ (i : Nat) (e : Ent) (ov : Option V) (q : Addr), ρ[i]? = some e → σ[i]? = some ov → Hd H ov e q → q ≠ D := fun i e ov q e1 e2 k w => by
    obtain ⟨_, x, z⟩ := (h.ent e1 e2).hd k
    rw [w, nD] at z
    cases z
  have at_ : ∀ (i : Nat) (e : Ent) (ov : Option V) (q : Addr), ρ[i]? = some e → σ[i]? = some ov → Hd H ov e q → (upd H D o) q = H q := fun i e ov q e1 e2 k => upd_ne (ne i e ov q e1 e2 k)
  refine ⟨fun a z => ?_, ⟨h.rep.1, fun i e q => ?_⟩, fun b x z m => ?_, fun b z => .inl (h.sub b z), fun b z => .inl (h.mo b z), h.fz.trans f, fun i e ov q e1 e2 e3 => ?_, ok.dk H _ n (fun a m => upd_ne fun w => f2 (by rw [← w]; exact m)) h.dk⟩
  · rcases z with z | z
    · rw [upd_ne fun w => f3 (by rw [← w]; exact z)]
      exact h.al a z
    · rw [z, upd_same]
      exact fun w => nomatch w
  · obtain ⟨ov, h1, h2⟩ := h.rep.2 i e q
    exact ⟨ov, h1, h2.shift (fun _ z => .inl z) f fun a k => at_ i e ov a q h1 k⟩
  · have z : upd S.H0 D o b = some x := z
    by_cases w : b = D
    · rw [w, upd_same] at z ⊢
      exact z
    · rw [upd_ne w] at z ⊢
      exact h.kp b x z m
  · have k0 := Hd.eq (h.ent e1 e2) (fun q' k' => at_ i e ov q' e1 e2 k') e3
    obtain ⟨h1, h2, h3⟩ := h.ow' at_ i e ov q e1 e2 e3
    refine ⟨?_, h2, h3⟩
    show upd S.H0 D o q = none
    rw [upd_ne (ne i e ov q e1 e2 k0)]
    exact h1
theorem RepS.turn {D : Addr} {o o' : HO} (h : RepS K (S.wi D o) B O H σ ρ n) (ok : S.Ok) (hO : O D) (nM : ¬ S.M D) : RepS K (S.wi D o') B O (upd H D o') σ ρ n := by
  have fe : Fz O (upd H D o') = Fz O H := fz_upd hO
  have ne : ∀ (i : Nat) (e : Ent) (ov : Option V) (q : Addr), ρ[i]? = some e → σ[i]? = some ov → Hd H ov e q → q ≠ D := fun i e ov q e1 e2 k w => by
    have := (h.ow i e ov q e1 e2 k).1
    have : upd S.H0 D o q = none := this
    rw [w, upd_same] at this
    cases this
  have at_ : ∀ (i : Nat) (e : Ent) (ov : Option V) (q : Addr), ρ[i]? = some e → σ[i]? = some ov → Hd H ov e q → (upd H D o') q = H q := fun i e ov q e1 e2 k => upd_ne (ne i e ov q e1 e2 k)
  refine ⟨fun a z => ?_, ⟨h.rep.1, fun i e q => ?_⟩, fun b x z m => ?_, h.sub, h.mo, by rw [fe]; exact h.fz, fun i e ov q e1 e2 e3 => ?_, ok.dk H _ n (fun a m => upd_ne fun w => nM (by rw [← w]; exact m)) h.dk⟩
  · by_cases w : a = D
    · rw [w, upd_same]
      exact fun w => nomatch w
    · rw [upd_ne w]
      exact h.al a z
  · obtain ⟨ov, h1, h2⟩ := h.rep.2 i e q
    exact ⟨ov, h1, h2.shift (fun _ z => z) (by rw [fe]; exact Same.refl _) fun a k => at_ i e ov a q h1 k⟩
  · have z : upd S.H0 D o' b = some x := z
    by_cases w : b = D
    · rw [w, upd_same] at z ⊢
      exact z
    · rw [upd_ne w] at z ⊢
      refine h.kp b x ?_ m
      show upd S.H0 D o b = some x
      rw [upd_ne w]
      exact z
  · have k0 := Hd.eq (h.ent e1 e2) (fun q' k' => at_ i e ov q' e1 e2 k') e3
    obtain ⟨h1, h2, h3⟩ := h.ow' at_ i e ov q e1 e2 e3
    refine ⟨?_, h2, h3⟩
    have h1 : upd S.H0 D o q = none := h1
    show upd S.H0 D o' q = none
    rw [upd_ne (ne i e ov q e1 e2 k0)] at h1 ⊢
    exact h1
theorem RepS.leave {D : Addr} {o : HO} (h : RepS K (S.wi D o) B (hide O D) H σ ρ n) (al : Al O H) (sub : ∀ b, S.O0 b → O b) (mo : ∀ b, S.M b → O b) (nS : S.H0 D = none) : RepS K S B O H σ ρ n := by
  have ne : ∀ (i : Nat) (e : Ent) (ov : Option V) (q : Addr), ρ[i]? = some e → σ[i]? = some ov → Hd H ov e q → q ≠ D := fun i e ov q e1 e2 k w => by
    have := (h.ow i e ov q e1 e2 k).1
    have : upd S.H0 D o q = none := this
    rw [w, upd_same] at this
    cases this
  have f : Same (Fz (hide O D) H) (Fz O H) := fz_less (fun b z => .inl z) H
  refine ⟨al, ⟨h.rep.1, fun i e q => ?_⟩, fun b x z m => ?_, sub, mo, h.fz.trans f, fun i e ov q e1 e2 e3 => ?_, h.dk⟩
  · obtain ⟨ov, h1, h2⟩ := h.rep.2 i e q
    have hid : ∀ a, Hd H ov e a → O a := fun a k => (h2.hd k).1.elim (fun z => z) fun z => absurd z (ne i e ov a q h1 k)
    refine ⟨ov, h1, ?_⟩
    cases e with
    | na => trivial
    | dat d =>
      obtain ⟨v, k3, k4⟩ := h2
      exact ⟨v, k3, k4.same f⟩
    | own fs =>
      obtain ⟨p, ws, k3, k4, k5, k6⟩ := h2
      exact ⟨p, ws, k3, hid p k3, k5, k6.same f⟩
    | rows fs =>
      obtain ⟨p, qs, k3, k4, k5, k6, k7, k8⟩ := h2
      refine ⟨p, qs, k3, hid p (.inl k3), k5, k6, k7, ?_⟩
      have : ∀ {qs' : List Addr} {dss : List (List PyData)}, RowsOk K (hide O D) H qs' dss → (∀ q ∈ qs', q ∈ qs) → RowsOk K O H qs' dss := fun {qs' dss} r => by
        induction r with
        | nil => exact fun _ => .nil
        | cons a1 a2 a3 a4 ih => exact fun m => .cons (hid _ (.inr ⟨p, _, k3, k5, List.mem_map_of_mem (m _ List.mem_cons_self)⟩)) a2 (a3.same f) (ih fun q hq => m q (List.mem_cons_of_mem _ hq))
      exact this k8 fun q hq => hq
    | dct fs =>
      obtain ⟨p, ws, k3, k4, k5, k6⟩ := h2
      exact ⟨p, ws, k3, hid p k3, k5, k6.same f⟩
    | dck fs =>
      obtain ⟨p, ws, k3, k4, k5, k6⟩ := h2
      exact ⟨p, ws, k3, hid p k3, k5, k6.same f⟩
    | dk => exact h2
    | tn fs =>
      obtain ⟨p, ws, o, k3, k4, k5, k6, k7⟩ := h2
      exact ⟨p, ws, o, k3, f p _ k4, k5, k6, k7.same f⟩
    | sd l d =>
      obtain ⟨v, k3, k4⟩ := h2
      exact ⟨v, k3, k4.same f⟩
    | err a0 d0 f0 =>
      obtain ⟨k3, k30, k4⟩ := h2
      refine ⟨k3, k30, fun y x q => ?_⟩
      obtain ⟨dd, v, w1, w2, w3⟩ := k4 y x q
      exact ⟨dd, v, w1, f dd _ w2, w3.same f⟩
  · refine h.kp b x ?_ m
    show upd S.H0 D o b = some x
    rw [upd_ne fun w => by rw [w, nS] at z; cases z]
    exact z
  · obtain ⟨h1, h2, h3⟩ := h.ow i e ov q e1 e2 e3
    refine ⟨?_, h2, h3⟩
    have h1 : upd S.H0 D o q = none := h1
    rw [upd_ne (ne i e ov q e1 e2 e3)] at h1
    exact h1
end
/-! ### comprehensions with draws -/
structure Like (S S' : Fr) : Prop where
  dv : S'.dv = S.dv
  m : S'.M = S.M
  dk : S'.Dk = S.Dk
theorem Like.fam {S S' : Fr} {Fam : FamT} (l : Like S S') (h : Fam S.dv S.M S.Dk) : Fam S'.dv S'.M S'.Dk := by rw [l.dv, l.m, l.dk]; exact h
theorem Like.refl (S : Fr) : Like S S := ⟨rfl, rfl, rfl⟩
end DS
namespace DS
open PySem PySem.Spec PyProof.Rows L2
/-! ### [[..] * n for ..]: rows of one's own -/
def rowsM (h : PyData → Option (List PyData)) : List PyData → Option (List (List PyData))
  | [] => some []
  | x :: xs => (h x).bind fun d => (rowsM h xs).bind fun ds => some (d :: ds)
theorem rowsM_snoc (h : PyData → Option (List PyData)) (x : PyData) : ∀ xs : List PyData, rowsM h (xs ++ [x]) = (rowsM h xs).bind fun ys => (h x).bind fun o => some (ys ++ [o])
  | [] => by
    simp only [List.nil_append, rowsM]
    cases h x <;> simp
  | y :: xs => by
    simp only [List.cons_append, rowsM]
    rw [rowsM_snoc h x xs]
    cases h y <;> cases rowsM h xs <;> cases h x <;> simp
theorem rowsM_take {h : PyData → Option (List PyData)} : ∀ {xs : List PyData} {ys : List (List PyData)}, rowsM h xs = some ys → ∀ i, ∃ zs, rowsM h (xs.take i) = some zs
  | [], ys, e, i => ⟨[], by simp [rowsM]⟩
  | x :: xs, ys, e, 0 => ⟨[], rfl⟩
  | x :: xs, ys, e, i + 1 => by
    obtain ⟨d, e1, e2⟩ := Option.bind_eq_some_iff.mp e
    obtain ⟨ds, e3, e4⟩ := Option.bind_eq_some_iff.mp e2
    obtain ⟨zs, e5⟩ := rowsM_take e3 i
    exact ⟨d :: zs, by simp [List.take_succ_cons, rowsM, e1, e5]⟩
theorem rowsM_const {h : PyData → Option (List PyData)} {r : List PyData} : ∀ {xs : List PyData}, (∀ x ∈ xs, h x = some r) → rowsM h xs = some (List.replicate xs.length r)
  | [], _ => rfl
  | x :: xs, k => by
    simp only [rowsM]
    rw [k x List.mem_cons_self, rowsM_const fun y hy => k y (List.mem_cons_of_mem _ hy)]
    rfl
theorem RowsOk.snoc {K : PySem.W.Frag} {O : Hid} {H : Hp} {q : Addr} {vs : List V} {ds : List PyData} (h1 : O q) (h2 : H q = some (.lst vs)) (h3 : DxAll K (Fz O H) vs ds) : ∀ {qs : List Addr} {dss : List (List PyData)}, RowsOk K O H qs dss → RowsOk K O H (qs ++ [q]) (dss ++ [ds])
  | _, _, .nil => .cons h1 h2 h3 .nil
  | _, _, .cons a b c r => .cons a b c (RowsOk.snoc h1 h2 h3 r)
def lcR (fi : Dn → Option (List PyData)) (g : PyData → Dn → Option Dn) (fe : Dn → Option (List PyData)) (vs : List Nat) : Dn → Option (List (List PyData)) := fun ρ => (fi ρ).bind fun xs => if xs.length < lim then rowsM (fun x => (g x (wipeE ρ vs)).bind fe) xs else none
theorem tlcR {K : PySem.W.Frag} {fi : Dn → Option (List PyData)} {sl vs : List Nat} {g : PyData → Dn → Option Dn} {fe : Dn → Option (List PyData)} {σ : L2.St} {H : Hp} {Q : VK} (hsl : ∀ i ∈ sl, i ∈ vs) {O : Hid} {dv : V} {ρ : Dn} {dss : List (List PyData)} (al : Al O H) (r : RepE K O H dv σ ρ) (e : lcR fi g fe vs ρ = some dss)
    (q : ∀ D qs H', Same H H' → H D = none → (∀ x ∈ qs, H x = none) → D ∉ qs → qs.Nodup → H' D = some (.lst (qs.map V.ref)) → RowsOk K (fun a => O a ∨ (a = D ∨ a ∈ qs)) H' qs dss → Q (.ref D) H') :
    tLc (iF K fi) (tG K sl g) tYes (tFL K fe) vs σ H Q := by
  obtain ⟨xs, e1, e0⟩ := Option.bind_eq_some_iff.mp e
  split at e0
  case isFalse => cases e0
  rename_i hl
  refine ⟨O, dv, ρ, xs, al, r, e1, fun J H1 s1 it D nD => ?_⟩
  have nO : ¬ O D := (al.same s1).new nD
  have r1 := r.same s1
  let Nx : Nat → Hp → Prop := fun i H2 => Same H1 H2 ∧ ∃ qs ds, H2 D = some (.lst (qs.map V.ref)) ∧ qs.length = i ∧ D ∉ qs ∧ qs.Nodup ∧ (∀ x ∈ qs, H1 x = none) ∧ rowsM (fun x => (g x (wipeE ρ vs)).bind fe) (xs.take i) = some ds ∧ RowsOk K (fun a => O a ∨ (a = D ∨ a ∈ qs)) H2 qs ds
  refine ⟨fun i m H2 => m = xs.length - i ∧ i ≤ xs.length ∧ Nx i H2, ⟨xs.length, by simp, Nat.zero_le _, new_same nD, [], [], upd_same, rfl, by simp, by simp, by simp, by simp [rowsM], .nil⟩, ?_⟩
  rintro i m H2 ⟨rfl, hi, s2, qs, ds, hD, lq, nq, nd, fresh, er, ro⟩
  let O2 : Hid := fun a => O a ∨ (a = D ∨ a ∈ qs)
  have k1 : Same (Fz O H1) (Fz O2 H2) := fun b o z => by
    obtain ⟨z1, z2⟩ := fz_get z
    rw [fz_out fun w => w.elim z2 fun w => w.elim (fun w => by rw [w, nD] at z1; cases z1) fun w => by rw [fresh b w] at z1; cases z1]
    exact s2 b o z1
  have k2 : Al O2 H2 := fun b z => by
    rcases z with z | z | z
    · exact (al.same s1).same s2 b z
    · rw [z, hD]
      exact fun w => nomatch w
    · obtain ⟨_, ws, w⟩ := ro.there b z
      rw [w]
      exact fun w => nomatch w
  obtain ⟨g1, g2, g3⟩ := it O2 H2 k1 k2
  by_cases hlt : i < xs.length
  · refine .inr ⟨g1 i hlt, Nx (i + 1), fun H' p' => ⟨xs.length - (i + 1), by omega, rfl, hlt, p'⟩, fun x H3 y => ?_⟩
    have ex : xs[i]? = some xs[i] := List.getElem?_eq_getElem hlt
    obtain ⟨s3, dx⟩ := g3 i x H3 _ ex y
    have et : xs.take (i + 1) = xs.take i ++ [xs[i]] := by rw [List.take_succ, ex]; rfl
    obtain ⟨zs, ez⟩ := rowsM_take e0 (i + 1)
    have ez0 := ez
    rw [et, rowsM_snoc, er] at ez
    obtain ⟨row, e4, e5⟩ := Option.bind_eq_some_iff.mp (show ((g xs[i] (wipeE ρ vs)).bind fe).bind (fun o => some (ds ++ [o])) = some zs from ez)
    cases e5
    obtain ⟨ρ2, e2, e3⟩ := Option.bind_eq_some_iff.mp e4
    have r3 : RepE K O2 H3 dv (wipe σ vs) (wipeE ρ vs) := ((r1.wipe _).shift s2 k1 fun p h => .inl h).same s3
    have al3 := k2.same s3
    refine ⟨O2, dv, _, _, ρ2, al3, r3, dx, e2, fun σ2 r4 hw => ⟨(hw _ hsl).trans (wipe_wipe _ _), ?_⟩⟩
    refine @id (tFL K fe σ2 H3 fun y H4 => ∃ acc, H4 D = some (.lst acc) ∧ acc.length < sizeLine ∧ Nx (i + 1) (upd H4 D (.lst (acc ++ [y])))) ?_
    refine ⟨O2, dv, ρ2, row, al3, r4, e3, fun p ws H4 s4 np hp dp => ?_⟩
    have pD : p ≠ D := fun w => by rw [w, s3 _ _ hD] at np; cases np
    have np2 : H2 p = none := s3.free np
    have pq : p ∉ qs := fun w => by
      obtain ⟨_, us, z⟩ := ro.there p w
      rw [np2] at z
      cases z
    have np1 : H1 p = none := s2.free np2
    refine ⟨_, s4 _ _ (s3 _ _ hD), lim_le (by rw [List.length_map]; omega), fun b o z => ?_, qs ++ [p], ds ++ [row], by rw [upd_same, List.map_append]; rfl, by rw [List.length_append, lq]; rfl, ?_, ?_, ?_, ez0, ?_⟩
    · rw [upd_ne fun w => by rw [w, nD] at z; cases z]
      exact s4 _ _ (s3 _ _ (s2 _ _ z))
    · intro w
      rcases List.mem_append.mp w with w | w
      · exact nq w
      · exact pD (List.mem_singleton.mp w).symm
    · rw [List.nodup_append]
      refine ⟨nd, by simp, fun a ha b hb => ?_⟩
      rw [List.mem_singleton.mp hb]
      exact fun w => pq (w ▸ ha)
    · intro x hx
      rcases List.mem_append.mp hx with w | w
      · exact fresh x w
      · rw [List.mem_singleton.mp w]
        exact np1
    · have inO : ∀ a, O2 a → (fun a => O a ∨ (a = D ∨ a ∈ qs ++ [p])) a := fun a z => z.elim .inl fun z => .inr (z.elim .inl fun z => .inr (List.mem_append_left _ z))
      refine RowsOk.snoc (vs := ws) (.inr (.inr (List.mem_append_right _ (List.mem_singleton.mpr rfl)))) (by rw [upd_ne pD]; exact hp) (dp.same fun b o z => ?_) (ro.shift inO (fun b o z => ?_) fun x hx => ?_)
      · obtain ⟨z1, z2⟩ := fz_get z
        have bD : b ≠ D := fun w => z2 (.inl (.inr (.inl w)))
        rw [fz_out fun w => w.elim (fun w => z2 (.inl (.inl w))) fun w => w.elim bD fun w => (List.mem_append.mp w).elim (fun w => z2 (.inl (.inr (.inr w)))) fun w => z2 (.inr (List.mem_singleton.mp w)), upd_ne bD]
        exact z1
      · obtain ⟨z1, z2⟩ := fz_get z
        have bD : b ≠ D := fun w => z2 (.inr (.inl w))
        have bp : b ≠ p := fun w => by rw [w, np2] at z1; cases z1
        rw [fz_out fun w => w.elim (fun w => z2 (.inl w)) fun w => w.elim bD fun w => (List.mem_append.mp w).elim (fun w => z2 (.inr (.inr w))) fun w => bp (List.mem_singleton.mp w), upd_ne bD]
        exact s4 _ _ (s3 _ _ z1)
      · obtain ⟨_, us, z⟩ := ro.there x hx
        have xD : x ≠ D := fun w => nq (by rw [← w]; exact hx)
        rw [upd_ne xD, z]
        exact s4 _ _ (s3 _ _ z)
  · have ei : i = xs.length := by omega
    subst ei
    rw [List.take_length, e0] at er
    cases er
    exact .inl ⟨g2, q D qs H2 (s1.trans s2) (s1.free nD) (fun x hx => s1.free (fresh x hx)) nq nd hD ro⟩
section
variable {X : Cx} {S : Fr} {a b c e : Expr} {fa fb fc f : DF} {pos p : Pos}
def dRows (i : Nat) (f : Dn → Option (List (List PyData))) : TD := fun DD ρ n => ∃ dss, f ρ = some dss ∧ DD.nx (ρ.set i (.rows dss)) n
theorem dRows_ok (ok : S.Ok) {i : Nat} {K : PySem.W.Frag} {fi : Dn → Option (List PyData)} {sl vs : List Nat} {g : PyData → Dn → Option Dn} {fe : Dn → Option (List PyData)} (hsl : ∀ i ∈ sl, i ∈ vs) {D : Ends} {σ : L2.St} {H : Hp} (h : tS K S (dRows i (lcR fi g fe vs)) D σ H) : tAsg (tLc (iF K fi) (tG K sl g) tYes (tFL K fe) vs) (gName i) D σ H := by
  obtain ⟨B, O, ρ, n, DD, r, ⟨dss, e1, t⟩, E⟩ := h
  refine tlcR hsl r.al r.rep e1 fun D0 qs H' s nD nq ndq nd hD ro => ?_
  refine E.nx _ _ H' _ n (r.fresh ok (A := fun a => a = D0 ∨ a ∈ qs) (v := .ref D0) (e := .rows dss) s (fun x hx => hx.elim (fun w => by rw [w]; exact nD) (nq x)) ⟨D0, qs, rfl, .inr (.inl rfl), hD, ndq, nd, ro⟩ (fun x hx => ?_) (fun x hx => ?_) i) t
  · rcases hx with w | w
    · rw [w, hD]
      exact fun w => nomatch w
    · obtain ⟨_, us, z⟩ := ro.there x w
      rw [z]
      exact fun w => nomatch w
  · rcases hx with w | ⟨p', us, w1, w2, w3⟩
    · cases w
      exact .inl rfl
    · cases w1
      rw [hD] at w2
      cases w2
      exact .inr (mem_refs w3)
theorem pd_rows (ok0 : S.Ok) {i : Nat} {y : Str} {py : Pos} {elt tg iter : Expr} {scope : Scope} {own : List (Str × Nat)} {spos : Pos} {fi : Dn → Option (List PyData)} {sl : List Nat} {g : PyData → Dn → Option Dn} {fe : Dn → Option (List PyData)} (hc : X.calm = true) (hN : X.N.Nodup) (hy : X.N[i]? = some y) (hyl : X.env.scope.names.lookup y = some .local)
    (hsw : swapsWith (.ListComp elt [⟨tg, iter, [], 0⟩] scope pos) (some (.Name y py)) spos.line X.env = pure true) (hi : PIF X tg iter fi) (ok : BlkOk X.N X.env.scope scope own)
    (hg : ∀ (s : Shared) (H : Hp) (C : Addr) (cl : List (Str × Addr)) (fp : List Addr), PGF (X.blk s H scope (compEnvC scope cl C X.env) fp) tg sl g)
    (he : ∀ (s : Shared) (H : Hp) (C : Addr) (cl : List (Str × Addr)) (fp : List Addr), PFL (X.blk s H scope (compEnvC scope cl C X.env) fp) elt fe) (hsl : ∀ i ∈ sl, i ∈ own.map (·.2) := by decide) (hs : ∀ x, foldedSetIterable iter X.env x = pure x := by intro _; rfl) :
    PD X S (.Assign [.Name y py] (.ListComp elt [⟨tg, iter, [], 0⟩] scope pos) spos) (dRows i (lcR fi g fe (own.map (·.2)))) :=
  ⟨(ps_setLc (g := tG X.K sl g) (tt := tYes) (te := tFL X.K fe) hc hN hy hyl hsw hi.pi ok (fun s H C cl fp => (hg s H C cl fp).pg) (fun s H C cl fp => pts_nil) (fun s H C cl fp => (he s H C cl fp).pe) hs).imp fun D σ H h => dRows_ok ok0 hsl h⟩
/-! rows[a][b] = c -/
def getR (i : Nat) : Dn → Option (List (List PyData)) := fun ρ => match ρ[i]? with | some (.rows ds) => some ds | _ => none
theorem getR_some {i : Nat} {ρ : Dn} {ds : List (List PyData)} (h : getR i ρ = some ds) : ρ[i]? = some (.rows ds) := by
  unfold getR at h
  split at h
  · rename_i e
    cases h
    exact e
  · cases h
theorem RowsOk.put {K : PySem.W.Frag} {O : Hid} {H : Hp} {q : Addr} {ws : List V} {es : List PyData} (dx : DxAll K (Fz O H) ws es) (hO : O q) : ∀ {qs : List Addr} {dss : List (List PyData)} {j : Nat}, RowsOk K O H qs dss → qs.Nodup → qs[j]? = some q → RowsOk K O (upd H q (.lst ws)) qs (dss.set j es)
  | _, _, 0, .cons (vs := vs) (ds := ds) h1 h2 h3 r, nd, e => by
    cases e
    have nq := (List.nodup_cons.mp nd).1
    refine .cons h1 upd_same (by rw [fz_upd hO]; exact dx) (r.shift (fun _ z => z) (by rw [fz_upd hO]; exact Same.refl _) fun x hx => upd_ne fun w => nq (w ▸ hx))
  | _, _, j + 1, .cons (q := q0) h1 h2 h3 r, nd, e => by
    have nd' := List.nodup_cons.mp nd
    have mem : q ∈ _ := List.mem_of_getElem? (show _[j]? = some q from e)
    have ne : q0 ≠ q := fun w => nd'.1 (by rw [w]; exact mem)
    refine .cons h1 (by rw [upd_ne ne]; exact h2) (by rw [fz_upd hO]; exact h3) (RowsOk.put dx hO (j := j) r nd'.2 e)
theorem setDx {K : PySem.W.Frag} {H : Hp} {v : V} {d : PyData} (h : Dx K H v d) : ∀ {vs : List V} {ds : List PyData} (j : Nat), DxAll K H vs ds → DxAll K H (vs.set j v) (ds.set j d)
  | _, _, _, .nil => .nil
  | _, _, 0, .cons _ r => .cons h r
  | _, _, j + 1, .cons a r => .cons a (setDx h j r)
theorem ixN_nat {n j : Nat} (hj : j < n) : ixN n (j : Int) = some j := by
  unfold ixN
  rw [if_pos (by omega), if_pos (by omega)]
  simp
end
/-! ### the law's def: the deck is made first -/
section
variable {X : Cx} {sts : List Stmt} {T : TD}
end
end DS
namespace DS
open PySem PySem.Spec PyProof.Rows L2
/-! ### decks: cells, rests, a count -/
structure Deck (H : Hp) (d c r : Addr) (n : Nat) : Prop where
  ex : ∃ (cs rs : List Int) (k : Nat), H d = some (.lst [.ref c, .ref r, .int k]) ∧ H c = some (.lst (cs.map V.int)) ∧ H r = some (.lst (rs.map V.int)) ∧
    cs.length = rs.length ∧ 0 < cs.length ∧ cs.length ≤ 64 ∧ k ≤ n
  dc : d ≠ c
  dr : d ≠ r
  cr : c ≠ r
/-- all but the deck's own two objects that change stays -/
def Frm (d r : Addr) (H H' : Hp) : Prop := ∀ b x, H b = some x → b ≠ d → b ≠ r → H' b = some x
theorem Frm.refl {d r : Addr} {H : Hp} : Frm d r H H := fun _ _ e _ _ => e
theorem Frm.trans {d r : Addr} {H H1 H2 : Hp} (h : Frm d r H H1) (k : Frm d r H1 H2) : Frm d r H H2 := fun b x e h1 h2 => k b x (h b x e h1 h2) h1 h2
def spLaw (K : PySem.W.Frag) : Sp := fun vs H Q _ => ∃ (a : Addr) (ns : List Int), vs = [.ref a] ∧ SqL K H a (ns.map V.int) ∧ ns.length ≤ 63 ∧ ∀ H', Q (.bl true) H'
end DS
namespace DS
open PySem PySem.Spec PyProof.Rows L2
section
variable {X : Cx} {S : Fr} {a b e : Expr} {fa fb f : DF} {Ta : TXP} {p pos : Pos}
/-! ### zip -/
/-! ### slices, abs, not -/
structure PFO (X : Cx) (e : Option Expr) (f : Dn → Option (Option Int)) : Prop where
  po : PO X e (fun σ H Q => ∃ O dv ρ o, Al O H ∧ RepE X.K O H dv σ ρ ∧ f ρ = some o ∧ ∀ H', Same H H' → Q o H')
def noP : Dn → Option (Option Int) := fun _ => some none
def someP (f : DF) : Dn → Option (Option Int) := fun ρ => (f ρ).bind fun d => (toI d).map some
theorem pfo_none : PFO X none noP := ⟨⟨fun pins s σ H Q I ⟨O, dv, ρ, o, al, r, e, q⟩ => po_none.run pins s σ H Q I (by cases e; exact q H (Same.refl H))⟩⟩
theorem pfo_some (h : PF X e f) : PFO X (some e) (someP f) := ⟨⟨fun pins s σ H Q I ⟨O, dv, ρ, o, al, r, e, q⟩ => (po_some h.pe).run pins s σ H Q I (by
  obtain ⟨d, e1, e2⟩ := Option.bind_eq_some_iff.mp e
  obtain ⟨i, e3, rfl⟩ := Option.map_eq_some_iff.mp e2
  rw [toI_some e3] at e1
  refine ⟨O, dv, ρ, _, al, r, e1, fun v H' s hv => ?_⟩
  cases hv
  exact ⟨i, rfl, q H' s⟩)⟩⟩
def cutD (xs : List PyData) (lo hi : Option Int) : List PyData := (xs.drop (HT.sIx xs.length 0 lo)).take (HT.sIx xs.length xs.length hi - HT.sIx xs.length 0 lo)
def sliceD (d : PyData) (lo hi : Option Int) : Option PyData := match d with
  | .list xs => some (.list (cutD xs lo hi))
  | .tuple xs => some (.tuple (cutD xs lo hi))
  | .str z => if z.length < lim then some (.str (cutS z lo hi)) else none
  | _ => none
def sliceF (f : DF) (fl fh : Dn → Option (Option Int)) : DF := fun ρ => (f ρ).bind fun d => (fl ρ).bind fun l => (fh ρ).bind fun h => sliceD d l h
theorem DxAll.cut {K : PySem.W.Frag} {H : Hp} {vs : List V} {ds : List PyData} (h : DxAll K H vs ds) (lo hi : Option Int) : DxAll K H (cutV vs lo hi) (cutD ds lo hi) := by
  unfold cutV cutD
  rw [h.len]
  exact (h.drop _).take _
theorem cutD_all {xs : List PyData} {lo hi : Option Int} (h : HT.sIx xs.length 0 lo = 0 ∧ HT.sIx xs.length xs.length hi = xs.length) : cutD xs lo hi = xs := by
  unfold cutD
  rw [h.1, h.2, List.drop_zero, Nat.sub_zero, List.take_length]
theorem pf_slice {lo hi : Option Expr} {fl fh : Dn → Option (Option Int)} {p2 : Pos} (he : PF X e f) (hl : PFO X lo fl) (hu : PFO X hi fh) : PF X (.Subscript e (.Slice lo hi none p2) pos) (sliceF f fl fh) :=
  ⟨(pe_slice (sl_list.or (sl_tupA.or sl_str)) he.pe hl.po hu.po).imp fun σ H Q ⟨O, dv, ρ, c, al, r, e, q⟩ => by
    obtain ⟨d, e1, e2⟩ := Option.bind_eq_some_iff.mp e
    obtain ⟨l, e3, e4⟩ := Option.bind_eq_some_iff.mp e2
    obtain ⟨u, e5, e6⟩ := Option.bind_eq_some_iff.mp e4
    refine ⟨O, dv, ρ, d, al, r, e1, fun v H1 s1 hv => ⟨O, dv, ρ, l, al.same s1, r.same s1, e3, fun H2 s2 => ⟨O, dv, ρ, u, (al.same s1).same s2, (r.same s1).same s2, e5, fun H3 s3 => ?_⟩⟩⟩
    have s13 := s2.trans s3
    have s03 := s1.trans s13
    have al3 := al.same s03
    have hv3 := hv.same (s13.fz O)
    cases hv3 with
    | lst h1 h2 =>
      cases e6
      exact .inl ⟨_, _, rfl, (fz_sub O H3).seq h1, fun l nl => q _ _ (s03.trans (new_same nl)) (Dx.newL al3 nl (h2.cut _ _))⟩
    | tup h1 h2 =>
      cases e6
      refine .inr (.inl ⟨_, _, rfl, sqT_same (fz_sub O H3) h1, fun w => ?_, fun _ l nl => q _ _ (s03.trans (new_same nl)) (Dx.newT al3 nl (h2.cut _ _))⟩)
      rw [h2.len] at w
      rw [cutD_all w] at q
      exact q _ H3 s03 (.tup h1 h2)
    | str z =>
      simp only [sliceD] at e6
      split at e6
      case isFalse => cases e6
      rename_i hz
      cases e6
      exact .inr (.inr ⟨z, rfl, Nat.le_of_lt (lim_le hz), q _ H3 s03 (.str _)⟩)
    | _ => cases e6⟩
/-! more statements with draws -/
end
end DS
namespace DS
open PySem PySem.Spec PyProof.Rows L2
/-! ### is True, is not True, of bools -/
section
variable {X : Cx}
end
end DS
namespace DS
open PySem
/-! ### the order of tuples of ints -/
/-! ### all sets of lo, .., lo + m - 1, in order -/
/-! ### the sets from binary digits -/
def dg : Nat → Nat → Nat → List Int
  | _, 0, _ => []
  | lo, m + 1, x => (if x % 2 = 1 then [(lo : Int)] else []) ++ dg (lo + 1) m (x / 2)
end DS
namespace DS
open PySem PySem.Spec PyProof.Rows L2
/-- v is a tuple of the ints s -/
def TupI (K : PySem.W.Frag) (H : Hp) (v : V) (s : List Int) : Prop := ∃ a, v = .ref a ∧ SqT K H a (s.map V.int)
section
variable {prog : Program} {w : World} {A : Around} {E : Value → Shared → Prop} {s : Shared}
/-- a tuple of the ints ns -/
def TI (h : Heap) (v : Value) (ns : List Int) : Prop := ∃ a its, v = .ref a ∧ IsTup h a its ∧ IntsAre its.toList ns
end
end DS
namespace DS
open PySem PySem.Spec PyProof.Rows L2
/-! ### min(t, key=len), t a tuple of tuples -/
/-- the place of the first one with the least number -/
def least (ls : Nat → Nat) (n : Nat) : Nat := argBest (fun i j => decide (((ls i : Nat) : Int) < ((ls j : Nat) : Int))) (n - 1)
section
variable {X : Cx}
end
end DS
namespace DS
open PySem PySem.Spec PyProof.Rows L2
/-! ### sorted(t), t a tuple of ints -/
section
variable {prog : Program} {w : World} {A : Around} {E : Value → Shared → Prop} {s : Shared}
end
end DS
namespace DS
open PySem PySem.Spec PyProof.Rows L2
/-! ### sorted(l): tuples of ints, the empty one first, two or more -/
def lexLe (x y : List Int) : Bool := !HT.lexLt y x
/-- the one sorted rearrangement -/
def sortL (ss : List (List Int)) : List (List Int) := ss.mergeSort lexLe
theorem sortL_perm (ss : List (List Int)) : (sortL ss).Perm ss := List.mergeSort_perm ss lexLe
section
variable {X : Cx}
theorem TupI.sm {K : PySem.W.Frag} {H H' : Hp} {v : V} {s : List Int} (h : TupI K H v s) (e : Same H H') : TupI K H' v s := by
  obtain ⟨a, rfl, h⟩ := h
  exact ⟨a, rfl, sqT_same e h⟩
/-! ### min(t, key=len), t a tuple of tuples -/
end
end DS
namespace DS
open PySem PySem.Spec PyProof.Rows L2
/-! ### new entries: data, a list or a dict of one's own -/
def plus (O : Hid) (A : Addr → Prop) : Hid := fun a => O a ∨ A a
def tFN (K : PySem.W.Frag) (g : Dn → Option Ent) : TE := fun σ H Q => ∃ O dv ρ E, Al O H ∧ RepE K O H dv σ ρ ∧ g ρ = some E ∧ ∀ v A H', Same H H' → (∀ q, A q → H q = none) → EntOk K (plus O A) H' dv (some v) E → (∀ q, A q → H' q ≠ none) → (∀ q, Hd H' (some v) E q → A q) → Q v H'
structure PN (X : Cx) (e : Expr) (g : Dn → Option Ent) : Prop where
  pe : PE X e (tFN X.K g)
section
variable {X : Cx} {S : Fr} {a b e : Expr} {f fa fb fc : DF} {ga gb : Dn → Option Ent} {pos : Pos}
/-! ### keys -/
abbrev KeyD := Key ⊕ List Key
def KyOk (H : Hp) (y : V) : KeyD → Prop
  | .inl k => y = kV k
  | .inr ks => ∃ b, y = .ref b ∧ H b = some (.tup (ks.map kV))
theorem KyOk.same {H H' : Hp} {y : V} (s : Same H H') : ∀ {k : KeyD}, KyOk H y k → KyOk H' y k
  | .inl _, h => h
  | .inr _, ⟨b, h1, h2⟩ => ⟨b, h1, s _ _ h2⟩
def tFK (K : PySem.W.Frag) (f : Dn → Option KeyD) : TE := fun σ H Q => ∃ O dv ρ k, Al O H ∧ RepE K O H dv σ ρ ∧ f ρ = some k ∧ ∀ y H', Same H H' → KyOk H' y k → Q y H'
structure PKY (X : Cx) (e : Expr) (f : Dn → Option KeyD) : Prop where
  pe : PE X e (tFK X.K f)
/-! ### dicts -/
abbrev DV := List (List Key × PyData) ⊕ List (Key × PyData)
def DiOk (K : PySem.W.Frag) (O : Hid) (H : Hp) (a : Addr) : DV → Prop
  | .inl kds => ∃ kvs, H a = some (.dT kvs) ∧ KvOk K (Fz O H) kvs kds
  | .inr kds => ∃ kvs, H a = some (.dK kvs) ∧ KvOk K (Fz O H) kvs kds
theorem DiOk.same {K : PySem.W.Frag} {O : Hid} {H H' : Hp} {a : Addr} (s : Same H H') : ∀ {m : DV}, DiOk K O H a m → DiOk K O H' a m
  | .inl _, ⟨kvs, h1, h2⟩ => ⟨kvs, s _ _ h1, h2.same (s.fz O)⟩
  | .inr _, ⟨kvs, h1, h2⟩ => ⟨kvs, s _ _ h1, h2.same (s.fz O)⟩
def tFDi (K : PySem.W.Frag) (f : Dn → Option DV) : TE := fun σ H Q => ∃ O dv ρ m, Al O H ∧ RepE K O H dv σ ρ ∧ f ρ = some m ∧ ∀ a H', Same H H' → DiOk K O H' a m → Q (.ref a) H'
structure PDI (X : Cx) (e : Expr) (f : Dn → Option DV) : Prop where
  pe : PE X e (tFDi X.K f)
def valD {κ : Type} [DecidableEq κ] (kds : List (κ × PyData)) (k : κ) : Option PyData := (kds.find? fun p => decide (p.1 = k)).map (·.2)
def putD {κ : Type} [DecidableEq κ] (kds : List (κ × PyData)) (k : κ) (d : PyData) : List (κ × PyData) :=
  if (kds.any fun p => decide (p.1 = k)) = true then kds.map (fun p => if p.1 = k then (p.1, d) else p) else kds ++ [(k, d)]
variable {gd : Dn → Option DV} {gk : Dn → Option KeyD}
end
end DS
namespace DS
open PySem PySem.Spec PyProof.Rows L2
/-! ### sorted(l, key=len), l a list of tuples -/
section
variable {X : Cx}
end
end DS
namespace DS
open PySem PySem.Spec PyProof.Rows L2
section
variable {X : Cx} {S : Fr} {a b e : Expr} {f fa fb fc : DF} {gd : Dn → Option DV} {gk : Dn → Option KeyD} {pos : Pos}
/-! ### k in d -/
theorem _root_.L2.PC.imp {op : CmpOp} {t t' : TE} (h : PC X op a b t) (k : ∀ σ H Q, t' σ H Q → t σ H Q) : PC X op a b t' := ⟨fun pins s σ H Q I q => h.run pins s σ H Q I (k σ H Q q)⟩
/-! ### d[k] = v, d a dict of one's own -/
/-! ### l[i] = v, l a list of one's own -/
def dPutO (i : Nat) (fb fc : DF) : TD := fun DD ρ n => ∃ (x : PyData) (j : Nat) (ds : List PyData), fc ρ = some x ∧ getO i ρ = some ds ∧ (∃ k, fb ρ = some (.int k) ∧ ixN ds.length k = some j) ∧ DD.nx (ρ.set i (.own (ds.set j x))) n
theorem pd_lset (ok : S.Ok) (i : Nat) {x : Str} {p1 p3 : Pos} (hb : PF X b fb) (hc : PF X e fc) (hN : X.N[i]? = some x := by rfl) (hv : Vis X.env.scope x := by first | exact Or.inl rfl | exact Or.inr (Or.inl rfl) | exact Or.inr (Or.inr rfl)) (hd : (x == ("__debug__" : Str)) = false := by decide) (hcd : (x == ("__classdict__" : Str)) = false := by decide)
    (hA : ∀ v, assign (.Subscript (.Name x p1) b p3) X.env v = (do
      let ov ← holding [v] (eval (.Name x p1) X.env)
      let iv ← holding [v, ov] (eval b X.env)
      standAt p3
      holding [v, ov, iv] (setItem ov iv v)
      release [v, ov, iv] []) := by intro _; rfl)
    (hs : swapsWithSole [.Subscript (.Name x p1) b p3] e pos.line X.env = pure false := by rfl) (hw : swappedStores [.Subscript (.Name x p1) b p3] e X.env = pure none := by rfl)
    (h1 : (assignEach [.Subscript (.Name x p1) b p3] X.env).map (·.2) = [assign (.Subscript (.Name x p1) b p3) X.env] := by rfl) :
    PD X S (.Assign [.Subscript (.Name x p1) b p3] e pos) (dPutO i fb fc) := ⟨(ps_asg hc.pe (pg_sub (pe_var hN hv hd hcd) hb.pe set_list hA) hs hw h1).imp fun D σ H ⟨B, O, ρ, n, DD, r, ⟨d, j, ds, e1, e2, ⟨k, e3, e4⟩, t⟩, E⟩ => by
  refine ⟨O, S.dv, ρ, d, r.al, r.rep, e1, fun v H1 s1 dv => ?_⟩
  have r1 := r.same ok s1
  obtain ⟨p, vs, z1, z2, z3, z4⟩ := own_at r1.rep e2
  refine ⟨.ref p, z1, O, S.dv, ρ, _, r1.al, r1.rep, e3, fun y H2 s2 hy => ?_⟩
  cases hy
  have r2 := r1.same ok s2
  refine ⟨p, vs, k, j, rfl, rfl, s2 _ _ z3, by rw [z4.len]; exact e4, ?_⟩
  exact E.nx O σ _ _ n (r2.put ok (getO_some e2) z1 (setDx (dv.same (s2.fz O)) j (z4.same (s2.fz O)))) t⟩
/-! ### min, max of two ints -/
/-! ### sum, max, min of a list of ints -/
/-! ### sorted(l, key=len) -/
end
end DS
namespace DS
open PySem PySem.Spec PyProof.Rows L2
section
variable {X : Cx} {S : Fr} {st : Stmt}
def sPutO (i : Nat) (fb fc : DF) : SF := fun ρ => (fc ρ).bind fun x => (getO i ρ).bind fun ds => (fb ρ).bind fun k => (toI k).bind fun k => (ixN ds.length k).bind fun j => some (.nx (ρ.set i (.own (ds.set j x))))
theorem pz_of_putO {i : Nat} {fb fc : DF} (h : PD X S st (dPutO i fb fc)) : PZ X S st (sPutO i fb fc) := ⟨h.imp fun DD ρ n ⟨r, e, t⟩ => by
  obtain ⟨x, e1, e⟩ := Option.bind_eq_some_iff.mp e
  obtain ⟨ds, e2, e⟩ := Option.bind_eq_some_iff.mp e
  obtain ⟨d, e3, e⟩ := Option.bind_eq_some_iff.mp e
  obtain ⟨k, e4, e⟩ := Option.bind_eq_some_iff.mp e
  obtain ⟨j, e5, e⟩ := Option.bind_eq_some_iff.mp e
  cases e
  rw [toI_some e4] at e3
  exact ⟨x, j, ds, e1, e2, ⟨k, e3, e5⟩, t⟩⟩
end
/-! ### draws, with a bound on the count of one's own -/
end DS
namespace DS
open PySem PySem.Spec PyProof.Rows L2
section
variable {X : Cx}
/-- sorted(set(t)), t a tuple of numbers -/
def tSrtSet (K : PySem.W.Frag) (ta : TE) : TE := fun σ H Q => ta σ H fun x H1 => ∃ (l : Addr) (ns : List Int), x = V.ref l ∧ SqT K H1 l (ns.map V.int) ∧ ns.length < 60 ∧
  ∀ (os : List Int) (p : Addr), os.Pairwise (· < ·) → (∀ k, k ∈ os ↔ k ∈ ns) → H1 p = none → Q (.ref p) (upd H1 p (.lst (os.map V.int)))
theorem vals_of_ints : ∀ {us : List Value} {ns : List Int}, IntsAre us ns → Vals (ns.map V.int) us := fun h => vals_ints h
theorem pe_srtSet {a : Expr} {ta : TE} {p p2 q pos : Pos} (hc : X.calm = true) (hg : Gl X "sorted") (hm : X.mg "sorted" = none) (hg2 : Gl X "set") (hm2 : X.mg "set" = none) (ha : PE X a ta)
    (na : starEach [a] X.env = (false, eval a X.env) :: starEach [] X.env := by rfl) : PE X (.Call (.Name "sorted" p) [.Call (.Name "set" p2) [a] [] q] [] pos) (tSrtSet X.K ta) := by
  refine ⟨fun pins s σ H Q I h => Call_ (ld_blt I hg hm PyProof.Rows.boot_sorted (PyProof.Rows.callWith_builtin1 (PyProof.Rows.args_cons (Call_ (ld_blt I hg2 hm2 PyProof.Rows.boot_set ?_)) rfl) rfl rfl))⟩
  refine PyProof.Rows.callWith_type1 (PyProof.Rows.args_cons (thn (ha.run pins s σ H _ I h) fun v s1 z => PyProof.Rows.args_nil ?_) na) na rfl
  obtain ⟨x, H1, I1, r1, l, ns, rfl, hq, h60, q1⟩ := z
  obtain rfl : v = Value.ref l := r1
  obtain ⟨its, r, pl, hz⟩ := I1.tuple hq
  refine call_set_tupI ns (I1.ok.hd hc) pl (by simpa using r.ints) (by unfold scanBound; omega) fun h' tk c hS hc2 hk => PyProof.Rows.args_nil ?_
  have I2 : Inv X pins σ H1 { s1 with heap := h', toks := tk } := I1.kept hk
  refine sorted_set hS (I1.ok.hd hc) (by omega) fun s' o out n os k g ho hp hget hI pw mem hlen => ?_
  have hn : H1 o = none := I2.hok.fresh hp
  have hl : (os.map V.int).length ≤ sizeLine := by rw [List.length_map, sizeLine_eq]; omega
  have J : Inv X pins σ (upd H1 o (.lst (os.map V.int))) { { s1 with heap := h', toks := tk } with heap := s'.heap, gens := s'.gens, drawn := s'.drawn, toks := s'.toks } :=
    I2.call (ch := []) (Un.laid k hp hn) (I2.hok.laid k hp ⟨hl, out.toList, n, vals_of_ints hI, hget⟩) (by rw [g]; exact I2.bare) (fun _ z => nomatch z)
  have e : s' = { { s1 with heap := h', toks := tk } with heap := s'.heap, gens := s'.gens, drawn := s'.drawn, toks := s'.toks } := by
    cases s'
    cases ho
    rfl
  rw [e]
  exact ⟨.ref o, _, J, rfl, q1 os o pw (fun j => (mem j).trans decide_eq_true_iff) hn⟩
end
end DS
namespace DS
open PySem PySem.Spec PyProof.Rows L2
/-! ### sorted(set(t)), t a tuple of ints -/
def insU (x : Int) : List Int → List Int
  | [] => [x]
  | y :: l => if x < y then x :: y :: l else if x = y then y :: l else y :: insU x l
theorem insU_mem (x k : Int) : ∀ l : List Int, k ∈ insU x l ↔ k = x ∨ k ∈ l
  | [] => by simp [insU]
  | y :: l => by
    unfold insU
    by_cases h : x < y
    · rw [if_pos h, List.mem_cons]
    · rw [if_neg h]
      by_cases e : x = y
      · rw [if_pos e, e, List.mem_cons]
        exact ⟨fun z => .inr z, fun z => z.elim .inl fun z => z⟩
      · rw [if_neg e, List.mem_cons, insU_mem x k l, List.mem_cons]
        exact ⟨fun z => z.elim (fun z => .inr (.inl z)) fun z => z.elim .inl fun z => .inr (.inr z), fun z => z.elim (fun z => .inr (.inl z)) fun z => z.elim .inl fun z => .inr (.inr z)⟩
theorem insU_up (x : Int) : ∀ {l : List Int}, l.Pairwise (· < ·) → (insU x l).Pairwise (· < ·)
  | [], _ => by simp [insU]
  | y :: l, h => by
    obtain ⟨h1, h2⟩ := List.pairwise_cons.mp h
    unfold insU
    by_cases q : x < y
    · rw [if_pos q]
      exact List.pairwise_cons.mpr ⟨fun z hz => by
        rcases List.mem_cons.mp hz with e | hz
        · rw [e]; exact q
        · exact Int.lt_trans q (h1 z hz), h⟩
    · rw [if_neg q]
      by_cases e : x = y
      · rw [if_pos e]
        exact h
      · rw [if_neg e]
        refine List.pairwise_cons.mpr ⟨fun z hz => ?_, insU_up x h2⟩
        rcases (insU_mem x z l).mp hz with e1 | hz
        · rw [e1]; omega
        · exact h1 z hz
def usort (l : List Int) : List Int := l.foldr insU []
theorem usort_mem (k : Int) : ∀ l : List Int, k ∈ usort l ↔ k ∈ l
  | [] => Iff.rfl
  | x :: l => by
    show k ∈ insU x (usort l) ↔ _
    rw [insU_mem, usort_mem k l, List.mem_cons]
theorem usort_up : ∀ l : List Int, (usort l).Pairwise (· < ·)
  | [] => List.Pairwise.nil
  | x :: l => insU_up x (usort_up l)
theorem int_ext : ∀ {l m : List Int}, l.Pairwise (· < ·) → m.Pairwise (· < ·) → (∀ x, x ∈ l ↔ x ∈ m) → l = m
  | [], [], _, _, _ => rfl
  | [], y :: m, _, _, h => nomatch (h y).mpr List.mem_cons_self
  | x :: l, [], _, _, h => nomatch (h x).mp List.mem_cons_self
  | x :: l, y :: m, h1, h2, h => by
    obtain ⟨a1, a2⟩ := List.pairwise_cons.mp h1
    obtain ⟨b1, b2⟩ := List.pairwise_cons.mp h2
    have e : x = y := by
      rcases List.mem_cons.mp ((h x).mp List.mem_cons_self) with e | hx
      · exact e
      · rcases List.mem_cons.mp ((h y).mpr List.mem_cons_self) with e | hy
        · exact e.symm
        · have := a1 y hy
          have := b1 x hx
          omega
    subst e
    rw [int_ext a2 b2 fun z => ⟨fun hz => ?_, fun hz => ?_⟩]
    · rcases List.mem_cons.mp ((h z).mp (List.mem_cons_of_mem _ hz)) with e | q
      · have := a1 z hz
        omega
      · exact q
    · rcases List.mem_cons.mp ((h z).mpr (List.mem_cons_of_mem _ hz)) with e | q
      · have := b1 z hz
        omega
      · exact q
theorem usort_one {l m : List Int} (h : m.Pairwise (· < ·)) (k : ∀ x, x ∈ m ↔ x ∈ l) : usort l = m := int_ext (usort_up l) h fun x => (usort_mem x l).trans (k x).symm
def srtSetD : PyData → Option PyData
  | .tuple ds => (intsD ds).bind fun is => if is.length < 60 then some (.list ((usort is).map .int)) else none
  | _ => none
def srtSetF (f : DF) : DF := fun ρ => (f ρ).bind srtSetD
theorem pf_srtSet {X : Cx} {a : Expr} {f : DF} {p p2 q pos : Pos} (hc : X.calm = true) (hg : Gl X "sorted") (hm : X.mg "sorted" = none) (hg2 : Gl X "set") (hm2 : X.mg "set" = none) (ha : PF X a f)
    (na : starEach [a] X.env = (false, eval a X.env) :: starEach [] X.env := by rfl) : PF X (.Call (.Name "sorted" p) [.Call (.Name "set" p2) [a] [] q] [] pos) (srtSetF f) :=
  ⟨(pe_srtSet hc hg hm hg2 hm2 ha.pe na).imp fun σ H Q ⟨O, dv, ρ, d, al, r, e, q⟩ => by
    obtain ⟨t, e1, e2⟩ := Option.bind_eq_some_iff.mp e
    refine ⟨O, dv, ρ, t, al, r, e1, fun v H1 s1 h1 => ?_⟩
    cases h1 with
    | tup k1 k2 =>
      obtain ⟨is, e3, e4⟩ := Option.bind_eq_some_iff.mp e2
      split at e4
      case isFalse => cases e4
      rename_i hl
      cases e4
      rw [intsD_some e3] at k2
      rw [dxAll_ints k2] at k1
      refine ⟨_, is, rfl, sqT_same (fz_sub O H1) k1, hl, fun os p pw mem np => ?_⟩
      rw [← usort_one pw mem]
      exact q _ _ (s1.trans (new_same np)) (Dx.newL (al.same s1) np (DxAll.ints _))
    | _ => cases e2⟩
/-! ### x in l, l a list of one's own -/
def inO (neg : Bool) (f : DF) (i : Nat) : DF := fun ρ => (f ρ).bind fun d => (toI d).bind fun k => (getO i ρ).bind fun ds => (intsD ds).bind fun is => some (.bool (if neg then !(is.contains k) else is.contains k))
section
variable {X : Cx} {a : Expr} {f : DF}
end
/-! ### {text: number} as data -/
end DS
namespace DS
open PySem PySem.Spec PyProof.Rows L2
section
variable {X : Cx} {S : Fr} {T : TD} {Ta : TXP} {pos : Pos}
end
end DS
set_option maxHeartbeats 4000000
namespace DS
open PySem PySem.Spec PyProof.Rows L2
/-! ### + and - of a bool and an int, str of an int, a bool, a text -/
section
variable {X : Cx}
def b2i (c : Bool) : Int := if c = true then 1 else 0
def gAddB (d e : PyData) : Option PyData := match d, e with
  | .bool c, .int j => some (.int (b2i c + j))
  | d, e => gAdd d e
theorem call_str_bool : CallR X (.type "str") (fun xs H Q => ∃ c, xs = [.bl c] ∧ Q (.str (if c then "True" else "False")) H) := by
  intro pins s σ H xs us Q I r h
  obtain ⟨c, rfl, q⟩ := h
  obtain ⟨u, rfl, r1⟩ := vals1 r
  cases r1
  exact PySem.P.str_of_bool ⟨.str _, H, I.tok _, ⟨_, rfl⟩, q⟩
def strD : List PyData → Option PyData
  | [.int i] => if i.natAbs < 10 ^ 40 then some (.str (toString i)) else none
  | [.bool c] => some (.str (if c then "True" else "False"))
  | _ => none
theorem log_ok {i : Int} (h : i.natAbs < 10 ^ 40) : i.natAbs.log2 < 1920 := by
  by_cases e : i.natAbs = 0
  · rw [e]
    decide
  · exact Nat.lt_trans ((Nat.log2_lt e).mpr (Nat.lt_trans h (show 10 ^ 40 < 2 ^ 200 by decide))) (by decide)
theorem cf_str : CallR X (.type "str") (rcF X.K strD) := (call_str_int.or call_str_bool).imp fun xs H Q ⟨O, ds, c, al, h, g, q⟩ => by
  match ds, h, g with
  | [.int i], .cons (.int _) .nil, g =>
    simp only [strD] at g
    split at g
    case isFalse => cases g
    rename_i hl
    cases g
    exact .inl ⟨i, rfl, log_ok hl, q _ H (Same.refl H) (.str _)⟩
  | [.bool b], .cons (.bl _) .nil, g =>
    cases g
    exact .inr ⟨b, rfl, q _ H (Same.refl H) (.str _)⟩
end
end DS
namespace DS
open PySem PySem.Spec PyProof.Rows L2
section
variable {X : Cx} {a b : Expr} {fa fb : DF} {pos : Pos}
/-- two lists joined: a new one -/
def addL (fa fb : DF) : Dn → Option (List PyData) := fun ρ => (fa ρ).bind fun d => (fb ρ).bind fun e => match d, e with
  | .list xs, .list ys => if xs.length + ys.length < lim then some (xs ++ ys) else none
  | _, _ => none
end
end DS
set_option maxHeartbeats 4000000
namespace DS
open PySem PySem.Spec PyProof.Rows L2
/-! ### tuple * int -/
section
variable {X : Cx}
end
end DS
set_option maxHeartbeats 4000000
namespace DS
open PySem PySem.Spec PyProof.Rows L2
/-! ### comprehensions whose test draws -/
def xLcIf (fi : Dn → Option (List PyData)) (g : PyData → Dn → Option Dn) (Tt : TXB) (Te : TXP) (vs : List Nat) : TXP := fun ρ n Q => ∃ xs, fi ρ = some xs ∧ xs.length < lim ∧ ∃ I : Nat → List PyData → Dn → Nat → Prop, I 0 [] (wipeE ρ vs) n ∧
  (∀ i x acc ρ' n', xs[i]? = some x → I i acc ρ' n' → ∃ ρ2, g x ρ' = some ρ2 ∧ Tt ρ2 n' fun b ρ3 n3 => if b = true then Te ρ3 n3 fun d ρ4 n4 => I (i + 1) (acc ++ [d]) (wipeE ρ4 vs) n4 else I (i + 1) acc (wipeE ρ3 vs) n3) ∧ ∀ acc ρ' n', I xs.length acc ρ' n' → acc.length ≤ xs.length → Q (.list acc) ρ' n'
theorem px_lcIf {X : Cx} {S : Fr} {elt tg iter c : Expr} {scope : Scope} {own : List (Str × Nat)} {pos : Pos} {fi : Dn → Option (List PyData)} {sl : List Nat} {g : PyData → Dn → Option Dn} {Tt : TXB} {Te : TXP} (ok0 : S.Ok) (hc : X.calm = true) (hN : X.N.Nodup) (hi : PIF X tg iter fi) (ok : BlkOk X.N X.env.scope scope own)
    (hg : ∀ (s : Shared) (H : Hp) (C : Addr) (cl : List (Str × Addr)) (fp : List Addr), PGF (X.blk s H scope (compEnvC scope cl C X.env) fp) tg sl g) (sg : Sets g sl) (s0 : Shared) (h0 : Hp)
    (ht : ∀ (S' : Fr), S'.Ok → Like S S' → ∀ (s : Shared) (H : Hp) (C : Addr) (cl : List (Str × Addr)) (fp : List Addr), PXT (X.blk s H scope (compEnvC scope cl C X.env) fp) S' c Tt)
    (he : ∀ (S' : Fr), S'.Ok → Like S S' → ∀ (s : Shared) (H : Hp) (C : Addr) (cl : List (Str × Addr)) (fp : List Addr), PX (X.blk s H scope (compEnvC scope cl C X.env) fp) S' elt Te) (hsl : ∀ i ∈ sl, i ∈ own.map (·.2) := by decide) (hs : ∀ x, foldedSetIterable iter X.env x = pure x := by intro _; rfl) :
    PX X S (.ListComp elt [⟨tg, iter, [c], 0⟩] scope pos) (xLcIf fi g Tt Te (own.map (·.2))) := by
  have mono := (he S ok0 (Like.refl S) s0 h0 0 [] []).mono
  have monoT := (ht S ok0 (Like.refl S) s0 h0 0 [] []).mono
  refine ⟨(pe_lc (g := tG X.K sl g) (tt := fun σ H Q => ∃ S', S'.Ok ∧ Like S S' ∧ tXT X.K S' Tt σ H Q) (te := fun σ H Q => ∃ S', S'.Ok ∧ Like S S' ∧ tX X.K S' Te σ H Q) hc hN hi.pi ok (fun s H C cl fp => (hg s H C cl fp).pg)
    (fun s H C cl fp => pts_one ⟨fun pins s1 σ1 H1 Q1 I ⟨S', o1, l1, t1⟩ => (ht S' o1 l1 s H C cl fp).pt.run pins s1 σ1 H1 Q1 I t1⟩) (fun s H C cl fp => ⟨fun pins s1 σ1 H1 Q1 I ⟨S', o1, l1, t1⟩ => (he S' o1 l1 s H C cl fp).pe.run pins s1 σ1 H1 Q1 I t1⟩) hs).imp fun σ H Q ⟨B, O, ρ, n, r, xs, e1, hl, I, i0, step, fin⟩ => ?_,
    fun ρ n Q Q' k ⟨xs, e1, hl, I, i0, step, fin⟩ => ⟨xs, e1, hl, I, i0, step, fun acc ρ' n' h hl => k _ _ _ (fin acc ρ' n' h hl)⟩⟩
  generalize own.map (·.2) = vs at *
  refine ⟨O, S.dv, ρ, xs, r.al, r.rep, e1, fun J H1 s1 it D nD => ?_⟩
  have r1 := r.same ok0 s1
  obtain ⟨f1, f2, f3⟩ := r1.freshAt nD
  refine ⟨fun i m H2 => m = xs.length - i ∧ i ≤ xs.length ∧ ∃ acc zs ρ' n', zs.length ≤ i ∧ RepS X.K (S.wi D (.lst acc)) (Fz O H1) (hide O D) H2 (wipe σ vs) ρ' n' ∧ H2 D = some (.lst acc) ∧ DxAll X.K (Fz (hide O D) H2) acc zs ∧ I i zs ρ' n',
    ⟨xs.length, by simp, Nat.zero_le _, [], [], _, n, Nat.le_refl _, (r1.here.enter ok0 nD).wipe vs, upd_same, .nil, i0⟩, ?_⟩
  rintro i m H2 ⟨rfl, hi, acc, zs, ρ', n', lz, r2, hD, dz, inv⟩
  obtain ⟨g1, g2, g3⟩ := it (hide O D) H2 r2.fz r2.al
  by_cases hlt : i < xs.length
  · have ex : xs[i]? = some xs[i] := List.getElem?_eq_getElem hlt
    obtain ⟨ρ2, e2, tb⟩ := step i _ zs ρ' n' ex inv
    let Nx : Hp → Prop := fun H' => ∃ acc zs ρ' n', zs.length ≤ i + 1 ∧ RepS X.K (S.wi D (.lst acc)) (Fz O H1) (hide O D) H' (wipe σ vs) ρ' n' ∧ H' D = some (.lst acc) ∧ DxAll X.K (Fz (hide O D) H') acc zs ∧ I (i + 1) zs ρ' n'
    refine .inr ⟨g1 i hlt, Nx, fun H' p' => ⟨xs.length - (i + 1), by omega, rfl, hlt, p'⟩, fun x H3 y => ?_⟩
    obtain ⟨s3, dx⟩ := g3 i x H3 _ ex y
    have r3 := r2.same (Fr.wi_ok ok0) s3
    refine ⟨hide O D, S.dv, ρ', _, ρ2, r3.al, r3.rep, dx, e2, fun σ2 re w => ⟨(w vs hsl).trans (wipe_wipe _ _), ?_⟩⟩
    have Q0 : ∀ {P : Prop}, P → P := fun h => h
    refine @id (∃ S', S'.Ok ∧ Like S S' ∧ tXT X.K S' Tt σ2 H3 (fun b H4 => if b = true then (∃ S', S'.Ok ∧ Like S S' ∧ tX X.K S' Te σ2 H4 (fun y H5 => ∃ acc1, H5 D = some (.lst acc1) ∧ acc1.length < sizeLine ∧ Nx (upd H5 D (.lst (acc1 ++ [y]))))) else Nx H4)) ?_
    refine ⟨S.wi D (.lst acc), Fr.wi_ok ok0, ⟨rfl, rfl, rfl⟩, Fz (hide O D) H3, hide O D, ρ2, n', (r3.target sg e2 re w).here, monoT _ _ _ _ (fun b ρ3 n3 q H4 r4 => ?_) tb⟩
    have hD4 : H4 D = some (.lst acc) := r4.kp D _ (show upd S.H0 D (.lst acc) D = some (.lst acc) from upd_same) f2
    have dz4 := (dz.same (s3.fz (hide O D))).same r4.fz
    have ww := (w vs hsl).trans (wipe_wipe _ _)
    cases b with
    | true =>
      rw [if_pos rfl] at q
      dsimp only
      rw [if_pos rfl]
      refine ⟨S.wi D (.lst acc), Fr.wi_ok ok0, ⟨rfl, rfl, rfl⟩, Fz (hide O D) H4, hide O D, ρ3, n3, r4.here, mono _ _ _ _ (fun d ρ4 n4 q v H5 r5 dv => ?_) q⟩
      have hD5 : H5 D = some (.lst acc) := r5.kp D _ (show upd S.H0 D (.lst acc) D = some (.lst acc) from upd_same) f2
      have dz5 := dz4.same r5.fz
      refine ⟨acc, hD5, lim_le (by rw [dz.len]; omega), acc ++ [v], zs ++ [d], wipeE ρ4 vs, n4, by rw [List.length_append, List.length_singleton]; omega, ?_, upd_same, ?_, q⟩
      · have r6 := ((r5.base r4.fz).base r3.fz).turn ok0 (o' := .lst (acc ++ [v])) (.inr rfl) f2
        have r7 := r6.wipe vs
        rw [ww] at r7
        exact r7
      · rw [fz_upd (show hide O D D from .inr rfl)]
        exact dz5.append (.cons dv .nil)
    | false =>
      rw [if_neg Bool.false_ne_true] at q
      dsimp only
      rw [if_neg Bool.false_ne_true]
      refine ⟨acc, zs, wipeE ρ3 vs, n3, by omega, ?_, hD4, dz4, q⟩
      have r7 := (r4.base r3.fz).wipe vs
      rw [ww] at r7
      exact r7
  · have ei : i = xs.length := by omega
    subst ei
    refine .inl ⟨g2, fin zs ρ' n' inv lz (.ref D) H2 ?_ ?_⟩
    · have r7 := r2.leave (S := S) (fun a z => r2.al a (.inl z)) r1.sub r1.mo f1
      exact (r7.base r1.fz).unwipe
    · exact .lst (.inl (.inl (by rw [fz_out f3]; exact hD))) (dz.same (fz_less (fun b z => .inl z) H2))
end DS
namespace DS
open PySem PySem.Spec PyProof.Rows L2
/-! ### or, and over values of any truth -/
section
variable {X : Cx} {a b : Expr} {rest : List Expr} {fa fb : DF} {pos : Pos}
end
end DS
set_option maxHeartbeats 4000000
namespace DS
open PySem PySem.Spec PyProof.Rows L2
/-! ### decks of any family: the law's start -/
/-! ### decks [cells, count, rests] -/
structure Deck2 (H : Hp) (d c r : Addr) (n : Nat) : Prop where
  ex : ∃ (cs rs : List Int) (k : Nat), H d = some (.lst [.ref c, .int k, .ref r]) ∧ H c = some (.lst (cs.map V.int)) ∧ H r = some (.lst (rs.map V.int)) ∧
    cs.length = rs.length ∧ 0 < cs.length ∧ cs.length ≤ 64 ∧ k ≤ n
  dc : d ≠ c
  dr : d ≠ r
  cr : c ≠ r
/-- a draw below at most a milliard -/
def wDrG (B : Nat) : WD := fun ds n Q => ∃ m : Int, ds = [.int m] ∧ 0 < m ∧ m < 1000000000 ∧ n < B ∧ ∀ k : Int, 0 ≤ k → k < m → Q (.int k) (n + 1)
theorem wDrG_mono (B : Nat) : MonoW (wDrG B) := fun ds n Q Q' k ⟨m, e, h1, h2, h3, q⟩ => ⟨m, e, h1, h2, h3, fun j a b => k _ _ (q j a b)⟩
end DS
namespace DS
open PySem PySem.Spec PyProof.Rows L2
section
variable {X : Cx} {S : Fr} {pos : Pos}
end
end DS
set_option maxHeartbeats 4000000
namespace DS
open PySem PySem.Spec PyProof.Rows L2
/-! ### iterators that draw -/
def tXI (K : PySem.W.Frag) (S : Fr) (T : TXA) : L2.TI := fun σ H R => ∃ B O ρ n, RepS K S B O H σ ρ n ∧ T ρ n fun xs ρ' n' => ∀ J H', RepS K S B O H' σ ρ' n' → ItD K O H' J xs → R J H'
structure PXI (X : Cx) (S : Fr) (tg e : Expr) (T : TXA) : Prop where
  pi : PI X tg e (tXI X.K S T)
  mono : MonoX T
section
variable {X : Cx} {S : Fr} {tg e : Expr} {Ta : TXP} {p pos : Pos}
/-! for over them -/
end
/-! ### comprehensions over them, with or without a test that draws -/
/-- tests -/
structure PXTs (X : Cx) (S : Fr) (ifs : List Expr) (T : TXB) : Prop where
  pts : PTs X ifs (tXT X.K S T)
  mono : MonoX T
section
variable {X : Cx} {S : Fr} {elt tg iter : Expr} {ifs : List Expr} {scope : Scope} {own : List (Str × Nat)} {pos : Pos} {Ti : TXA} {sl : List Nat} {g : PyData → Dn → Option Dn} {Tt : TXB} {Te : TXP}
end
end DS
namespace DS
open PySem PySem.Spec PyProof.Rows L2
/-! ### a pair that is made and is a dict's key at once -/
def tFK2 (K : PySem.W.Frag) (f : Dn → Option (List Key)) : TE := fun σ H Q => ∃ O dv ρ ks, Al O H ∧ RepE K O H dv σ ρ ∧ f ρ = some ks ∧ ∀ b H', Same H H' → H' b = some (.tup (ks.map kV)) → Dx K (Fz O H') (.ref b) (.tuple (ks.map kD)) → Q (.ref b) H'
structure PK2 (X : Cx) (e : Expr) (f : Dn → Option (List Key)) : Prop where
  pe : PE X e (tFK2 X.K f)
section
variable {X : Cx} {S : Fr} {a b c : Expr} {pos : Pos}
end
end DS
set_option maxHeartbeats 4000000
namespace DS
open PySem PySem.Spec PyProof.Rows L2
/-! ### in, of items of any kind that == takes -/
section
variable {X : Cx}
end
end DS
namespace DS
open PySem PySem.Spec PyProof.Rows L2
section
variable {X : Cx}
end
end DS
namespace DS
open PySem PySem.Spec PyProof.Rows L2
/-! ### a text or a tuple from its end -/
section
variable {X : Cx}
variable {P : Program} {w : World} {K : PySem.W.Frag} {mg : Str → Option Value} {base : Heap} {e : Expr} {f : DF} {pos : Pos}
end
end DS
namespace DS
open PySem PySem.Spec PyProof.Rows L2
/-! ### a.replace("x", "y") in a display, behind a written text -/
def PET1 (X : Cx) (e : Expr) (t : TE) : Prop :=
  ∀ (pins : List (Addr × Obj)) (s : Shared) (σ : L2.St) (H : Hp) (Q : VK), 1 ≤ s.toks → Inv X pins σ H s → t σ H Q → wpAny (model X.prog X.w) X.A (eval e X.env) (EP X pins σ Q) X.xe s
def PAT1 (X : Cx) (es : List Expr) (t : TA) : Prop :=
  ∀ (pos : Pos) (pins : List (Addr × Obj)) (s : Shared) (σ : L2.St) (H : Hp) (Q : List V → Hp → Prop), 1 ≤ s.toks → Inv X pins σ H s → t σ H Q → wpAny (model X.prog X.w) X.A (spliced (backTo pos (starEach es X.env))) (AP X pins σ Q) X.xe s
def PEO (X : Cx) (e : Expr) (t : TE) : Prop :=
  ∀ (pins : List (Addr × Obj)) (s : Shared) (σ : L2.St) (H : Hp) (Q : VK), Inv X pins σ H s → t σ H Q → wpAny (model X.prog X.w) X.A (eval e X.env) (fun v s1 => 1 ≤ s1.toks ∧ EP X pins σ Q v s1) X.xe s
section
variable {X : Cx} {e a : Expr} {es : List Expr} {te : TE} {ta : TA} {pos : Pos}
/-! the same over data -/
structure PF1 (X : Cx) (e : Expr) (f : DF) : Prop where
  pe : PET1 X e (tF X.K f)
structure PFA1 (X : Cx) (es : List Expr) (f : Dn → Option (List PyData)) : Prop where
  pa : PAT1 X es (tFA X.K f)
structure PFO1 (X : Cx) (e : Expr) (f : DF) : Prop where
  pe : PEO X e (tF X.K f)
variable {f fa : DF} {g : Dn → Option (List PyData)}
end
end DS
namespace DS
open PySem PySem.Spec PyProof.Rows L2
/-! ### a text in a text -/
def gInT (neg : Bool) (d e : PyData) : Option PyData := match d, e with
  | .str i, .str j => some (.bool (if neg then (Builtin.Str.occurrences j i 0 j.length 1).isEmpty else !(Builtin.Str.occurrences j i 0 j.length 1).isEmpty))
  | _, _ => none
section
variable {X : Cx}
theorem of_notInT : OpR X (compareOp .NotIn) (r2F X.K (gInT true)) := op_notin_str.imp fun x y H Q ⟨O, d, e, c, al, dx, dy, g, q⟩ => by
  unfold gInT at g
  split at g
  · cases g
    cases dx
    cases dy
    refine ⟨_, _, rfl, rfl, ?_⟩
    rw [Bool.not_not]
    exact q _ H (Same.refl H) (.bl _)
  · cases g
end
/-- one sign in a text: whether it is one of its signs -/
theorem inT_one (neg : Bool) (j : Str) (c : Nat) : gInT neg (.str ⟨#[c]⟩) (.str j) = some (.bool (if neg then !decide (c ∈ j.cps.toList) else decide (c ∈ j.cps.toList))) := by
  have := StrLaws.found_one j c
  unfold gInT
  dsimp only
  rw [← this, Bool.not_not]
end DS
set_option maxHeartbeats 4000000
namespace DS
open PySem PySem.Spec PyProof.Rows L2
def z_is_integer : SF := (sRet (andF (isiF "int" (getD 0)) (notF (isiF "bool" (getD 0)))))
def sem_is_integer : List PyData → Option PyData := semZ 1 z_is_integer
def z_is_alternative : SF := (sRet (andF (callU 1 sem_is_integer (consA (getD 1) nilA)) (chnF (gI fun i j => .bool (decide (i ≤ j))) (gI fun i j => .bool (decide (i < j))) (cD (.int 0)) (getD 1) (callA lenD (consA (getD 0) nilA)))))
def sem_is_alternative : List PyData → Option PyData := semZ 2 z_is_alternative
def z_is_set : SF := (sSeq (sIf (notT (tstF (isiF "tuple" (getD 1)))) (sRet (cD (.bool false))) sNil)
  (sSeq (sSet 2 (cD (.int 0)))
  (sSeq (sFor (seqI (getD 1)) (setN 3)
  (sSeq (sIf (orT (notT (tstF (callU 2 sem_is_alternative (consA (getD 0) (consA (getD 3) nilA))))) (tstF (bin2 (gI fun i j => .bool (decide (i < j))) (getD 3) (getD 2)))) (sRet (cD (.bool false))) sNil)
  (sSet 2 (bin2 gAdd (getD 3) (cD (.int 1))))))
  (sRet (cD (.bool true))))))
def sem_is_set : List PyData → Option PyData := semZ 4 z_is_set
def z_outsiders : SF := (sRet (callA toTup (consA (lstI (lcL (rng1I (callA lenD (consA (getD 0) nilA))) (setN 2) (tstF (bin2 (gIn true) (getD 2) (getD 1))) (getD 2) [2])) nilA)))
def sem_outsiders : List PyData → Option PyData := semZ 3 z_outsiders
def z_pair_error : SF := (sSeq (sFor (enumI (getD 0)) (setT [1, 2])
  (sFor (rng2I (bin2 gAdd (getD 1) (cD (.int 1))) (callA lenD (consA (getD 0) nilA))) (setN 3)
  (sIf (tstF (bin2 gEq (bin2 ixD (getD 2) (getD 3)) (bin2 ixD (bin2 ixD (getD 0) (getD 3)) (getD 1)))) (sRet (tupF (consA (getD 1) (consA (getD 3) (consA (cD (.str "pair")) nilA))))) sNil)))
  (sRet (cD .none)))
def sem_pair_error : List PyData → Option PyData := semZ 4 z_pair_error
def z_row_error : SF := (sSeq (sFor (enumI (getD 0)) (setT [1, 2])
  (sIf (orT (notT (tstF (isiF "str" (getD 2)))) (tstF (bin2 gNe (callA lenD (consA (getD 2) nilA)) (callA lenD (consA (getD 0) nilA))))) (sRet (tupF (consA (getD 1) (consA (cD .none) (consA (cD (.str "row")) nilA))))) sNil))
  (sRet (cD .none)))
def sem_row_error : List PyData → Option PyData := semZ 3 z_row_error
def z_sign_error : SF := (sSeq (sFor (enumI (getD 0)) (setT [1, 2])
  (sFor (enumI (getD 2)) (setT [3, 4])
  (sIf (tstF (bin2 (gInT true) (getD 4) (ifF (tstF (bin2 gEq (getD 1) (getD 3))) (cD (.str ".")) (cD (.str "+-"))))) (sRet (tupF (consA (getD 1) (consA (getD 3) (consA (cD (.str "sign")) nilA))))) sNil)))
  (sRet (cD .none)))
def sem_sign_error : List PyData → Option PyData := semZ 5 z_sign_error
def z_table_error : SF := (sSeq (sIf (orT (notT (tstF (isiF "tuple" (getD 0)))) (notT (tstF (chnF (gI fun i j => .bool (decide (i ≤ j))) (gI fun i j => .bool (decide (i ≤ j))) (cD (.int 1)) (callA lenD (consA (getD 0) nilA)) (cD (.int 9)))))) (sRet (tupF (consA (cD .none) (consA (cD .none) (consA (cD (.str "table")) nilA))))) sNil)
  (sSeq (sSet 1 (callU 1 sem_row_error (consA (getD 0) nilA)))
  (sSeq (sIf (tstF (bin2 gIsN (getD 1) (cD .none))) (sSet 1 (callU 1 sem_sign_error (consA (getD 0) nilA))) sNil)
  (sSeq (sIf (tstF (bin2 gIsN (getD 1) (cD .none))) (sSet 1 (callU 1 sem_pair_error (consA (getD 0) nilA))) sNil)
  (sRet (getD 1))))))
def sem_table_error : List PyData → Option PyData := semZ 2 z_table_error
def z_is_table : SF := (sRet (bin2 gIsN (callU 1 sem_table_error (consA (getD 0) nilA)) (cD .none)))
def sem_is_table : List PyData → Option PyData := semZ 1 z_is_table
def z_pick_table : SF := (sRet (callA toTup (consA (lstI (lcL (seqI (getD 1)) (setN 2) yesT (bin2 joinD (cD (.str "")) (lstI (lcL (seqI (getD 1)) (setN 3) yesT (bin2 ixD (bin2 ixD (getD 0) (getD 2)) (getD 3)) [3]))) [2])) nilA)))
def sem_pick_table : List PyData → Option PyData := semZ 4 z_pick_table
def z_turn_sign : SF := (sRet (bin2 gAdd (bin2 gAdd (sliceF (getD 0) noP (someP (getD 1))) (ifF (tstF (bin2 gEq (bin2 ixD (getD 0) (getD 1)) (cD (.str "+")))) (cD (.str "-")) (cD (.str "+")))) (sliceF (getD 0) (someP (bin2 gAdd (getD 1) (cD (.int 1)))) noP)))
def sem_turn_sign : List PyData → Option PyData := semZ 2 z_turn_sign
end DS
namespace DS
open PySem PySem.Spec PyProof.Rows L2
/-! ### numbers as data -/
def ni (i : Nat) : PyData := .int (i : Int)
theorem rngD0 (m : Nat) : rngD 0 m = (List.range m).map ni := by
  unfold rngD ni
  refine List.map_congr_left fun i _ => ?_
  rw [Int.zero_add]
theorem rngD_at (lo m : Nat) : rngD (lo : Int) m = (List.range m).map fun i => ni (lo + i) := by
  unfold rngD ni
  refine List.map_congr_left fun i _ => ?_
  rw [Int.natCast_add]
theorem okR_nat {m : Nat} (h : m ≤ 1000000) : okR (m : Int) = true := by
  unfold okR
  refine decide_eq_true ?_
  omega
theorem rng1_nat {f : DF} {ρ : Dn} {m : Nat} (e : f ρ = some (ni m)) (h : m ≤ 1000000) : rng1I f ρ = some ((List.range m).map ni) := by
  unfold rng1I
  rw [e]
  show (if okR (m : Int) = true then some (rngD 0 (m : Int).toNat) else none) = _
  rw [if_pos (okR_nat h), Int.toNat_natCast, rngD0]
theorem rng2_nat {f g : DF} {ρ : Dn} {l m : Nat} (e : f ρ = some (ni l)) (e2 : g ρ = some (ni m)) (h : l ≤ 1000000) (h2 : m ≤ 1000000) : rng2I f g ρ = some ((List.range (m - l)).map fun i => ni (l + i)) := by
  unfold rng2I
  rw [e]
  show ((g ρ).bind fun d => (toI d).bind fun j => if (okR (l : Int) && okR j) = true then some (rngD (l : Int) (j - (l : Int)).toNat) else none) = _
  rw [e2]
  show (if (okR (l : Int) && okR (m : Int)) = true then some (rngD (l : Int) ((m : Int) - (l : Int)).toNat) else none) = _
  rw [if_pos (by rw [okR_nat h, okR_nat h2]; rfl)]
  have : ((m : Int) - (l : Int)).toNat = m - l := by omega
  rw [this, rngD_at]
/-! ### tables -/
def sgn (b : Nat → Nat → Bool) (i j : Nat) : Nat := if i = j then 46 else if b i j then 43 else 45
def rowS (n : Nat) (b : Nat → Nat → Bool) (i : Nat) : Str := ⟨((List.range n).map (sgn b i)).toArray⟩
def tabD (n : Nat) (b : Nat → Nat → Bool) : PyData := .tuple ((List.range n).map fun i => .str (rowS n b i))
/-- of each two one wins -/
structure Tour (n : Nat) (b : Nat → Nat → Bool) : Prop where
  one : 1 ≤ n
  nine : n ≤ 9
  anti : ∀ i j, i < n → j < n → i ≠ j → b i j = !b j i
  diag : ∀ i, b i i = false
theorem str_ext' {x y : Str} (h : x.cps.toList = y.cps.toList) : x = y := by
  cases x with
  | mk a =>
    cases y with
    | mk b =>
      have e : a.toList = b.toList := h
      rw [Array.toList_inj.mp e]
/-- texts of one sign each, put together -/
theorem join_signs : ∀ cs : List Nat, Txt.join (Str.ofString "") (cs.map fun c => (⟨#[c]⟩ : Str)) = ⟨cs.toArray⟩ := by
  intro cs
  have e := join_plain_closes (Str.ofString "") (cs.map fun c => (⟨#[c]⟩ : Str))
  rw [eq_of_beq e]
  refine str_ext' ?_
  show _ = cs
  induction cs with
  | nil => rfl
  | cons c r ih =>
    cases r with
    | nil => rfl
    | cons c2 r =>
      show ((⟨#[c]⟩ : Str) ++ Str.ofString "" ++ Str.join (Str.ofString "") ((c2 :: r).map fun c => (⟨#[c]⟩ : Str))).cps.toList = _
      have e2 := ih (join_plain_closes (Str.ofString "") ((c2 :: r).map fun c => (⟨#[c]⟩ : Str)))
      rw [Str.cps_append, Str.cps_append, Array.toList_append, Array.toList_append, e2]
      rfl
theorem rowS_len (n : Nat) (b : Nat → Nat → Bool) (i : Nat) : (rowS n b i).length = n := by
  show ((List.range n).map (sgn b i)).toArray.size = n
  simp
section
variable {n : Nat} {b : Nat → Nat → Bool} {i j : Nat}
theorem ix_tab (hi : i < n) : ixD (tabD n b) (ni i) = some (.str (rowS n b i)) := by
  show atI ((List.range n).map fun i => PyData.str (rowS n b i)) (i : Int) = _
  refine atI_nat ?_
  rw [List.getElem?_map, List.getElem?_range hi]
  rfl
theorem ix_row (hn : n ≤ 1000) (hj : j < n) : ixD (.str (rowS n b i)) (ni j) = some (.str ⟨#[sgn b i j]⟩) := by
  show (if (rowS n b i).length < lim then (atI (rowS n b i).cps.toList (j : Int)).map fun c => PyData.str ⟨#[c]⟩ else none) = _
  rw [rowS_len, if_pos (by show n < 1000000; omega)]
  have : atI (rowS n b i).cps.toList (j : Int) = some (sgn b i j) := by
    refine atI_nat ?_
    show ((List.range n).map (sgn b i))[j]? = _
    rw [List.getElem?_map, List.getElem?_range hj]
    rfl
  rw [this]
  rfl
/-- one beats the other, as a sign -/
def bt (b : Nat → Nat → Bool) (i j : Nat) : Bool := !decide (i = j) && b i j
theorem gEq_of {d e : PyData} {r : Bool} (h1 : (SeqAt.shaped d && SeqAt.shaped e) = true) (h2 : PyData.eqv d e = r) : gEq d e = some (.bool r) := by
  unfold gEq cmpOk
  rw [h1, Bool.true_or, if_pos rfl, h2]
theorem gNe_of {d e : PyData} {r : Bool} (h1 : (SeqAt.shaped d && SeqAt.shaped e) = true) (h2 : PyData.eqv d e = r) : gNe d e = some (.bool (!r)) := by
  unfold gNe cmpOk
  rw [h1, Bool.true_or, if_pos rfl, h2]
theorem len_tab : lenD [tabD n b] = some (ni n) := by
  show some (PyData.int ((List.range n).map fun i => PyData.str (rowS n b i)).length) = _
  rw [List.length_map, List.length_range]
  rfl
end
/-! ### small steps -/
theorem gEq_int (i j : Int) : gEq (.int i) (.int j) = some (.bool (i == j)) := by
  refine gEq_of ?_ ?_
  · simp [SeqAt.shaped, PyData.canLay0, PyData.depth]
  · simp [PyData.eqv]
theorem gNe_int (i j : Int) : gNe (.int i) (.int j) = some (.bool (!(i == j))) := by
  refine gNe_of ?_ ?_
  · simp [SeqAt.shaped, PyData.canLay0, PyData.depth]
  · simp [PyData.eqv]
theorem rep_one {g : Dn → Option (List PyData)} {fb : DF} {ρ : Dn} {d : PyData} {m : Nat} (e1 : g ρ = some [d]) (e2 : fb ρ = some (ni m)) (h : m ≤ 1000) : repL g fb ρ = some (List.replicate m d) := by
  unfold repL
  rw [e1]
  show ((fb ρ).bind fun e => (toI e).bind fun k => if okR k && decide ([d].length * k.toNat < lim) && decide ([d].length < lim) then some (List.replicate k.toNat [d]).flatten else none) = _
  rw [e2]
  show (if (okR (m : Int) && decide ([d].length * (m : Int).toNat < lim) && decide ([d].length < lim)) = true then some (List.replicate (m : Int).toNat [d]).flatten else none) = _
  have : ∀ k : Nat, (List.replicate k [d]).flatten = List.replicate k d := fun k => by
    induction k with
    | zero => rfl
    | succ k ih => rw [List.replicate_succ, List.flatten_cons, ih, List.replicate_succ]; rfl
  rw [Int.toNat_natCast, this, if_pos]
  rw [okR_nat (by omega), decide_eq_true (show [d].length * m < lim by show 1 * m < 1000000; omega), decide_eq_true (show [d].length < lim by show 1 < 1000000; decide)]
  rfl
theorem lcR_rows {fi : Dn → Option (List PyData)} {i : Nat} {fe : Dn → Option (List PyData)} {vs : List Nat} {ρ : Dn} {m : Nat} {r : List PyData} (e1 : fi ρ = some ((List.range m).map ni)) (hm : m ≤ 1000) (h : ∀ x, fe ((wipeE ρ vs).set i (.dat x)) = some r) : lcR fi (setN i) fe vs ρ = some (List.replicate m r) := by
  unfold lcR
  rw [e1]
  show (if ((List.range m).map ni).length < lim then _ else _) = _
  rw [if_pos (by rw [List.length_map, List.length_range]; show m < 1000000; omega), rowsM_const (r := r) fun x _ => (show (setN i x (wipeE ρ vs)).bind fe = some r from h x), List.length_map, List.length_range]
/-! comprehensions, where each item is known -/
section
variable {fi : Dn → Option (List PyData)} {g : PyData → Dn → Option Dn} {tt : Dn → Option Bool} {te : DF} {vs : List Nat} {ρ : Dn} {xs : List PyData} {h : PyData → Option PyData}
theorem lcL_eq (e1 : fi ρ = some xs) (hl : xs.length < lim) (hs : ∀ x ∈ xs, stepC g tt te (wipeE ρ vs) x = some (h x)) : lcL fi g tt te vs ρ = some (xs.filterMap h) := by
  unfold lcL
  rw [e1]
  show (if xs.length < lim then _ else _) = _
  rw [if_pos hl, compM_eq hs]
theorem lst_lc (e1 : fi ρ = some xs) (hl : xs.length < lim) (hs : ∀ x ∈ xs, stepC g tt te (wipeE ρ vs) x = some (h x)) : lstI (lcL fi g tt te vs) ρ = some (.list (xs.filterMap h)) := by
  unfold lstI
  rw [lcL_eq e1 hl hs]
  rfl
theorem tup_lc (e1 : fi ρ = some xs) (hl : xs.length < lim) (hs : ∀ x ∈ xs, stepC g tt te (wipeE ρ vs) x = some (h x)) : callA toTup (consA (lstI (lcL fi g tt te vs)) nilA) ρ = some (.tuple (xs.filterMap h)) := by
  unfold callA consA
  rw [lst_lc e1 hl hs]
  rfl
/-- a step without a test -/
theorem step_map {i : Nat} {x y : PyData} (e : te (ρ.set i (.dat x)) = some y) : stepC (setN i) yesT te ρ x = some (some y) := by
  show ((te (ρ.set i (.dat x))).map some) = _
  rw [e]
  rfl
end
theorem filterMap_some {α β : Type} (f : α → β) : ∀ l : List α, l.filterMap (fun x => some (f x)) = l.map f
  | [] => rfl
  | x :: l => by rw [List.filterMap_cons]; simp [filterMap_some f l]
theorem filterMap_of {α β γ : Type} (g : α → β) (h : β → Option γ) : ∀ l : List α, (l.map g).filterMap h = l.filterMap fun x => h (g x)
  | [] => rfl
  | x :: l => by
    rw [List.map_cons, List.filterMap_cons, List.filterMap_cons, filterMap_of g h l]
/-! ### rows of signs -/
def rowsD (m : Nat) (M : Nat → Nat → Nat) : List (List PyData) := (List.range m).map fun i => (List.range m).map fun j => .str ⟨#[M i j]⟩
def put2 (M : Nat → Nat → Nat) (a b c : Nat) : Nat → Nat → Nat := fun i j => if i = a ∧ j = b then c else M i j
theorem set_range {α : Type} (g : Nat → α) (m a : Nat) (x : α) : ((List.range m).map g).set a x = (List.range m).map fun i => if i = a then x else g i := by
  refine List.ext_getElem? fun i => ?_
  by_cases h : a = i
  · subst h
    by_cases lt : a < m
    · rw [List.getElem?_set_self (by simp [lt]), List.getElem?_map, List.getElem?_range lt]
      simp
    · rw [List.getElem?_eq_none (by simp; omega), List.getElem?_eq_none (by simp; omega)]
  · rw [List.getElem?_set_ne h, List.getElem?_map, List.getElem?_map]
    cases e : (List.range m)[i]? with
    | none => rfl
    | some y =>
      have : y = i := by
        have := (List.getElem?_eq_some_iff.mp e).2
        simpa using this.symm
      subst this
      simp [Ne.symm h]
theorem rowsD_get {m : Nat} {M : Nat → Nat → Nat} {a : Nat} (h : a < m) : (rowsD m M)[a]? = some ((List.range m).map fun j => .str ⟨#[M a j]⟩) := by
  unfold rowsD
  rw [List.getElem?_map, List.getElem?_range h]
  rfl
theorem rowsD_set {m : Nat} {M : Nat → Nat → Nat} {a b c : Nat} : (rowsD m M).set a (((List.range m).map fun j => PyData.str ⟨#[M a j]⟩).set b (.str ⟨#[c]⟩)) = rowsD m (put2 M a b c) := by
  unfold rowsD
  rw [set_range, set_range]
  refine List.map_congr_left fun i _ => ?_
  by_cases h : i = a
  · subst h
    rw [if_pos rfl]
    refine List.map_congr_left fun j _ => ?_
    unfold put2
    by_cases k : j = b
    · rw [if_pos k, if_pos ⟨rfl, k⟩]
    · rw [if_neg k, if_neg fun z => k z.2]
  · rw [if_neg h]
    refine List.map_congr_left fun j _ => ?_
    unfold put2
    rw [if_neg fun z => h z.1]
theorem rowsD_one (m : Nat) : List.replicate m (List.replicate m (PyData.str (Str.ofString "."))) = rowsD m fun _ _ => 46 := by
  unfold rowsD
  rw [List.map_const', List.map_const', List.length_range]
  rfl
/-- the pair x, y is drawn -/
def Dr (M : Nat → Nat → Nat) (x y : Nat) : Prop := (M x y = 43 ∧ M y x = 45) ∨ (M x y = 45 ∧ M y x = 43)
/-- in the order os the pairs ahead of (i, i + 1 + c) are drawn -/
structure Prs (os : List Nat) (m i c : Nat) (M : Nat → Nat → Nat) : Prop where
  diag : ∀ a, a < m → M a a = 46
  drawn : ∀ x y (hx : x < os.length) (hy : y < os.length), x < y → (x < i ∨ (x = i ∧ y < i + 1 + c)) → Dr M os[x] os[y]
theorem Prs.start {os : List Nat} {m : Nat} : Prs os m 0 0 (fun _ _ => 46) := ⟨fun _ _ => rfl, fun x y hx hy lt h => by omega⟩
theorem Prs.next {os : List Nat} {m i c : Nat} {M : Nat → Nat → Nat} (h : Prs os m i c M) (hl : os.length ≤ i + 1 + c) : Prs os m (i + 1) 0 M := ⟨h.diag, fun x y hx hy lt k => h.drawn x y hx hy lt (by omega)⟩
theorem Prs.store {os : List Nat} {m i j c : Nat} {M : Nat → Nat → Nat} (nd : os.Nodup) (hi : i < os.length) (hj : j < os.length) (ej : i + 1 + c = j) (h : Prs os m i c M) (w : Bool) :
    Prs os m i (c + 1) (put2 (put2 M os[i] os[j] (if w then 43 else 45)) os[j] os[i] (if w then 45 else 43)) := by
  have inj : ∀ {x y : Nat} {hx : x < os.length} {hy : y < os.length}, os[x] = os[y] → x = y := fun {x y hx hy} e => (List.getElem_inj nd).mp e
  have ne : os[i] ≠ os[j] := fun e => by
    have := inj e
    omega
  refine ⟨fun a ha => ?_, fun x y hx hy lt k => ?_⟩
  · unfold put2
    rw [if_neg fun z => ne (z.2.symm.trans z.1), if_neg fun z => ne (z.1.symm.trans z.2)]
    exact h.diag a ha
  · by_cases e : x = i ∧ y = j
    · obtain ⟨rfl, rfl⟩ := e
      have p1 : put2 (put2 M os[x] os[y] (if w then 43 else 45)) os[y] os[x] (if w then 45 else 43) os[x] os[y] = (if w then 43 else 45) := by
        unfold put2
        rw [if_neg fun z => ne z.1, if_pos ⟨rfl, rfl⟩]
      have p2 : put2 (put2 M os[x] os[y] (if w then 43 else 45)) os[y] os[x] (if w then 45 else 43) os[y] os[x] = (if w then 45 else 43) := by
        unfold put2
        rw [if_pos ⟨rfl, rfl⟩]
      unfold Dr
      rw [p1, p2]
      cases w
      · exact .inr ⟨rfl, rfl⟩
      · exact .inl ⟨rfl, rfl⟩
    · have d := h.drawn x y hx hy lt (by omega)
      have n1 : ¬ (os[x] = os[i] ∧ os[y] = os[j]) := fun z => e ⟨inj z.1, inj z.2⟩
      have n2 : ¬ (os[x] = os[j] ∧ os[y] = os[i]) := fun z => by
        have a1 := inj z.1
        have a2 := inj z.2
        omega
      have p1 : put2 (put2 M os[i] os[j] (if w then 43 else 45)) os[j] os[i] (if w then 45 else 43) os[x] os[y] = M os[x] os[y] := by
        unfold put2
        rw [if_neg n2, if_neg n1]
      have p2 : put2 (put2 M os[i] os[j] (if w then 43 else 45)) os[j] os[i] (if w then 45 else 43) os[y] os[x] = M os[y] os[x] := by
        unfold put2
        rw [if_neg fun z => n1 ⟨z.2, z.1⟩, if_neg fun z => n2 ⟨z.2, z.1⟩]
      unfold Dr
      rw [p1, p2]
      exact d
theorem Prs.all {os : List Nat} {m : Nat} {M : Nat → Nat → Nat} (hp : os.Perm (List.range m)) (h : Prs os m m 0 M) : ∀ x y, x < m → y < m → x ≠ y → Dr M x y := fun x y hx hy ne => by
  have l : os.length = m := by rw [hp.length_eq, List.length_range]
  have at_ : ∀ z, z < m → ∃ i, ∃ h : i < os.length, os[i] = z := fun z hz => List.mem_iff_getElem.mp (hp.mem_iff.mpr (List.mem_range.mpr hz))
  obtain ⟨i, hi, rfl⟩ := at_ x hx
  obtain ⟨j, hj, rfl⟩ := at_ y hy
  rcases Nat.lt_trichotomy i j with k | k | k
  · exact h.drawn i j hi hj k (.inl (by omega))
  · subst k
    exact absurd rfl ne
  · rcases h.drawn j i hj hi k (.inl (by omega)) with ⟨a, b⟩ | ⟨a, b⟩
    · exact .inr ⟨b, a⟩
    · exact .inl ⟨b, a⟩
/-- all pairs drawn: a table -/
theorem tour_of {m : Nat} {M : Nat → Nat → Nat} (h1 : 1 ≤ m) (h9 : m ≤ 9) (hd : ∀ x y, x < m → y < m → x ≠ y → Dr M x y) : Tour m (fun i j => decide (i < m ∧ j < m ∧ i ≠ j ∧ M i j = 43)) where
  one := h1
  nine := h9
  anti := fun i j hi hj ne => by
    rcases hd i j hi hj ne with ⟨e1, e2⟩ | ⟨e1, e2⟩
    · rw [decide_eq_true ⟨hi, hj, ne, e1⟩, decide_eq_false fun z => by have := z.2.2.2; omega]
      rfl
    · rw [decide_eq_false fun z => by have := z.2.2.2; omega, decide_eq_true ⟨hj, hi, Ne.symm ne, e2⟩]
      rfl
  diag := fun i => decide_eq_false fun z => z.2.2.1 rfl
theorem tab_of {m : Nat} {M : Nat → Nat → Nat} (hd : ∀ x y, x < m → y < m → x ≠ y → Dr M x y) (hg : ∀ x, x < m → M x x = 46) : tabD m (fun i j => decide (i < m ∧ j < m ∧ i ≠ j ∧ M i j = 43)) = .tuple ((List.range m).map fun i => .str ⟨((List.range m).map fun j => M i j).toArray⟩) := by
  unfold tabD
  congr 1
  refine List.map_congr_left fun i hi => ?_
  have hi := List.mem_range.mp hi
  unfold rowS
  congr 3
  refine List.map_congr_left fun j hj => ?_
  have hj := List.mem_range.mp hj
  unfold sgn
  by_cases e : i = j
  · subst e
    rw [if_pos rfl, hg i hi]
  · rw [if_neg e]
    rcases hd i j hi hj e with ⟨e1, e2⟩ | ⟨e1, e2⟩
    · rw [if_pos (decide_eq_true ⟨hi, hj, e, e1⟩), e1]
    · rw [if_neg (fun z => by have := (of_decide_eq_true z).2.2.2; omega), e1]
/-- tuple([''.join(row) for row in rows]) -/
theorem join_row (cs : List Nat) (hl : cs.length ≤ 1000) : joinD (.str (Str.ofString "")) (.list (cs.map fun c => .str ⟨#[c]⟩)) = some (.str ⟨cs.toArray⟩) := by
  have e : (cs.map fun c => PyData.str ⟨#[c]⟩) = (cs.map fun c => (⟨#[c]⟩ : Str)).map .str := by rw [List.map_map]; rfl
  show (strsD (cs.map fun c => PyData.str ⟨#[c]⟩)).bind _ = _
  rw [e, strsD_map]
  show (if (((cs.map fun c => (⟨#[c]⟩ : Str)).map (·.length)).sum + (cs.map fun c => (⟨#[c]⟩ : Str)).length * (Str.ofString "").length < lim) then some (PyData.str (Txt.join (Str.ofString "") (cs.map fun c => (⟨#[c]⟩ : Str)))) else none) = _
  have s1 : ∀ l : List Nat, ((l.map fun c => (⟨#[c]⟩ : Str)).map (·.length)).sum = l.length := fun l => by
    induction l with
    | nil => rfl
    | cons x l ih =>
      simp only [List.map_cons, List.sum_cons, List.length_cons, ih]
      show 1 + l.length = _
      omega
  rw [if_pos (by
    rw [s1, show (Str.ofString "").length = 0 from rfl]
    show _ < 1000000
    omega), join_signs]
/-- the rows put together -/
theorem rows_join {te : DF} {ρ : Dn} {m k : Nat} {M : Nat → Nat → Nat} {fi : Dn → Option (List PyData)} (hm : m ≤ 1000) (e1 : fi ρ = some ((rowsD m M).map .list)) (he : ∀ x, te ((wipeE ρ [k]).set k (.dat x)) = joinD (.str (Str.ofString "")) x) :
    callA toTup (consA (lstI (lcL fi (setN k) yesT te [k])) nilA) ρ = some (.tuple ((List.range m).map fun i => .str ⟨((List.range m).map fun j => M i j).toArray⟩)) := by
  rw [tup_lc (h := fun d => joinD (.str (Str.ofString "")) d) e1 (by simp [rowsD]; show m < 1000000; omega) fun x hx => ?_]
  · congr 2
    unfold rowsD
    rw [List.map_map, filterMap_of, ← filterMap_some]
    refine congrArg (fun f => List.filterMap f (List.range m)) (funext fun i => ?_)
    show joinD (.str (Str.ofString "")) (.list ((List.range m).map fun j => PyData.str ⟨#[M i j]⟩)) = _
    have : ((List.range m).map fun j => PyData.str ⟨#[M i j]⟩) = ((List.range m).map fun j => M i j).map fun c => PyData.str ⟨#[c]⟩ := by rw [List.map_map]; rfl
    rw [this, join_row _ (by simp; omega)]
  · obtain ⟨r, hr, rfl⟩ := List.mem_map.mp hx
    unfold rowsD at hr
    obtain ⟨i, _, rfl⟩ := List.mem_map.mp hr
    have : ((List.range m).map fun j => PyData.str ⟨#[M i j]⟩) = ((List.range m).map fun j => M i j).map fun c => PyData.str ⟨#[c]⟩ := by rw [List.map_map]; rfl
    have j := join_row ((List.range m).map fun j => M i j) (by simp; omega)
    rw [← this] at j
    rw [j]
    exact step_map (by rw [he]; exact j)
end DS
namespace DS
open PySem PySem.Spec PyProof.Rows L2
/-! ### how a def's meaning is found, part by part -/
section
variable {ρ : Dn} {fa fb f : DF} {x y z d : PyData}
theorem bin2_eq {g : PyData → PyData → Option PyData} (e1 : fa ρ = some x) (e2 : fb ρ = some y) (e3 : g x y = some z) : bin2 g fa fb ρ = some z := by
  unfold bin2
  rw [e1]
  show (fb ρ).bind _ = _
  rw [e2]
  exact e3
theorem tst_eq {b : Bool} (e : f ρ = some (.bool b)) : tstF f ρ = some b := by
  unfold tstF
  rw [e]
  rfl
theorem and_eq {a b : Bool} (e1 : fa ρ = some (.bool a)) (e2 : a = true → fb ρ = some (.bool b)) : andF fa fb ρ = some (.bool (a && b)) := by
  unfold andF
  rw [e1]
  cases a with
  | true => exact e2 rfl
  | false => rfl
theorem orT_eq {ga gb : Dn → Option Bool} {a b : Bool} (e1 : ga ρ = some a) (e2 : a = false → gb ρ = some b) : orT ga gb ρ = some (a || b) := by
  unfold orT
  rw [e1]
  cases a with
  | false => exact e2 rfl
  | true => rfl
theorem notT_eq {ga : Dn → Option Bool} {a : Bool} (e1 : ga ρ = some a) : notT ga ρ = some (!a) := by
  unfold notT
  rw [e1]
  rfl
theorem chn_eq {g g' : PyData → PyData → Option PyData} {fc : DF} {b : Bool} (e1 : fa ρ = some x) (e2 : fb ρ = some y) (e3 : g x y = some (.bool b)) (e4 : b = true → (fc ρ).bind (fun w => g' y w) = some z) (e5 : b = false → z = .bool false) : chnF g g' fa fb fc ρ = some z := by
  unfold chnF
  rw [e1]
  show (fb ρ).bind _ = _
  rw [e2]
  show (g x y).bind _ = _
  rw [e3]
  cases b with
  | true => exact e4 rfl
  | false => rw [e5 rfl]; rfl
theorem call1 {g : List PyData → Option PyData} (e1 : f ρ = some x) (e2 : g [x] = some z) : callA g (consA f nilA) ρ = some z := by
  unfold callA consA
  rw [e1]
  exact e2
theorem callU_eq {n : Nat} {sem : List PyData → Option PyData} {fs : Dn → Option (List PyData)} {ds : List PyData} (e1 : fs ρ = some ds) (hl : ds.length = n) (e2 : sem ds = some z) : callU n sem fs ρ = some z := by
  unfold callU
  rw [e1]
  show (if ds.length = n then sem ds else none) = _
  rw [if_pos hl, e2]
theorem isi_eq {T : String} {b : Bool} (e : f ρ = some d) (h : isiS (tyN d) T = b) : isiF T f ρ = some (.bool b) := by
  unfold isiF
  rw [e, ← h]
  rfl
/-! comprehensions -/
section
variable {α : Type} {fi : Dn → Option (List PyData)} {gt : PyData → Dn → Option Dn} {tt : Dn → Option Bool} {te : DF} {vs : List Nat} {l : List α} {g : α → PyData} {k : α → Option PyData}
theorem compM_of {h : PyData → Option (Option PyData)} : ∀ {l : List α}, (∀ x ∈ l, h (g x) = some (k x)) → compM h (l.map g) = some (l.filterMap k)
  | [], _ => rfl
  | x :: l, e => by
    simp only [List.map_cons, compM]
    rw [e x List.mem_cons_self, compM_of fun y hy => e y (List.mem_cons_of_mem _ hy), List.filterMap_cons]
    cases k x <;> rfl
theorem lc_of (e1 : fi ρ = some (l.map g)) (hl : l.length < lim) (hs : ∀ x ∈ l, stepC gt tt te (wipeE ρ vs) (g x) = some (k x)) : lcL fi gt tt te vs ρ = some (l.filterMap k) := by
  unfold lcL
  rw [e1]
  show (if (l.map g).length < lim then _ else _) = _
  rw [if_pos (by rw [List.length_map]; exact hl), compM_of hs]
theorem lst_of (e1 : fi ρ = some (l.map g)) (hl : l.length < lim) (hs : ∀ x ∈ l, stepC gt tt te (wipeE ρ vs) (g x) = some (k x)) : lstI (lcL fi gt tt te vs) ρ = some (.list (l.filterMap k)) := by
  unfold lstI
  rw [lc_of e1 hl hs]
  rfl
/-- all items kept -/
theorem lst_map {m : α → PyData} (e1 : fi ρ = some (l.map g)) (hl : l.length < lim) (hs : ∀ x ∈ l, stepC gt tt te (wipeE ρ vs) (g x) = some (some (m x))) : lstI (lcL fi gt tt te vs) ρ = some (.list (l.map m)) := by
  rw [lst_of (k := fun x => some (m x)) e1 hl hs, filterMap_some]
theorem tup_map {m : α → PyData} (e1 : fi ρ = some (l.map g)) (hl : l.length < lim) (hs : ∀ x ∈ l, stepC gt tt te (wipeE ρ vs) (g x) = some (some (m x))) : callA toTup (consA (lstI (lcL fi gt tt te vs)) nilA) ρ = some (.tuple (l.map m)) := call1 (lst_map e1 hl hs) rfl
/-- some kept, as they are -/
theorem filterMap_if {p : α → Bool} {m : α → PyData} : ∀ l : List α, l.filterMap (fun x => if p x = true then some (m x) else none) = (l.filter p).map m
  | [] => rfl
  | x :: l => by
    rw [List.filterMap_cons, List.filter_cons, filterMap_if l]
    cases p x <;> rfl
theorem lst_sel {p : α → Bool} {m : α → PyData} (e1 : fi ρ = some (l.map g)) (hl : l.length < lim) (hs : ∀ x ∈ l, stepC gt tt te (wipeE ρ vs) (g x) = some (if p x = true then some (m x) else none)) : lstI (lcL fi gt tt te vs) ρ = some (.list ((l.filter p).map m)) := by
  rw [lst_of (k := fun x => if p x = true then some (m x) else none) e1 hl hs, filterMap_if]
theorem tup_sel {p : α → Bool} {m : α → PyData} (e1 : fi ρ = some (l.map g)) (hl : l.length < lim) (hs : ∀ x ∈ l, stepC gt tt te (wipeE ρ vs) (g x) = some (if p x = true then some (m x) else none)) : callA toTup (consA (lstI (lcL fi gt tt te vs)) nilA) ρ = some (.tuple ((l.filter p).map m)) := call1 (lst_sel e1 hl hs) rfl
theorem seq_tup (e : f ρ = some (.tuple (l.map g))) : seqI f ρ = some (l.map g) := by
  unfold seqI
  rw [e]
  rfl
end
/-! statements -/
theorem sem_ret {N : Nat} {ds : List PyData} (e : f (startD N ds) = some d) : semZ N (sRet f) ds = some d := by
  unfold semZ sRet
  rw [e]
  rfl
theorem sem_of {N : Nat} {g : SF} {ds : List PyData} (e : g (startD N ds) = some (.rt d)) : semZ N g ds = some d := by
  unfold semZ
  rw [e]
  rfl
theorem if_eq {t : Dn → Option Bool} {g h : SF} {b : Bool} {r : Res} (e : t ρ = some b) (e2 : (if b = true then g ρ else h ρ) = some r) : sIf t g h ρ = some r := by
  unfold sIf
  rw [e]
  exact e2
theorem seq_nx {g h : SF} {ρ' : Dn} {r : Res} (e : g ρ = some (.nx ρ')) (e2 : h ρ' = some r) : sSeq g h ρ = some r := by
  unfold sSeq
  rw [e]
  exact e2
theorem seq_rt {g h : SF} (e : g ρ = some (.rt d)) : sSeq g h ρ = some (.rt d) := by
  unfold sSeq
  rw [e]
  rfl
theorem set_eq {i : Nat} (e : f ρ = some d) : sSet i f ρ = some (.nx (ρ.set i (.dat d))) := by
  unfold sSet
  rw [e]
  rfl
end
/-! ### equal lists of numbers -/
theorem eqv_lists : ∀ as bs : List Nat, PyData.eqvAll (as.map ni) (bs.map ni) = (as == bs)
  | [], [] => by simp [PyData.eqvAll]
  | [], b :: bs => by simp [PyData.eqvAll]
  | a :: as, [] => by simp [PyData.eqvAll]
  | a :: as, b :: bs => by
    rw [List.map_cons, List.map_cons, PyData.eqvAll, eqv_lists as bs]
    show (PyData.eqv (.int (a : Int)) (.int (b : Int)) && _) = _
    rw [PyData.eqv]
    by_cases h : a = b
    · subst h
      simp
    · have : ((a : Int) == (b : Int)) = false := by
        rw [beq_eq_false_iff_ne]
        omega
      rw [this]
      simp [h]
theorem shaped_ints (as : List Nat) : PyData.canLayAll0 (as.map ni) = true ∧ PyData.depthAll (as.map ni) = 0 := by
  induction as with
  | nil => exact ⟨by simp [PyData.canLayAll0], by simp [PyData.depthAll]⟩
  | cons a as ih => exact ⟨by simp [PyData.canLayAll0, ni, PyData.canLay0, ih.1], by simp [PyData.depthAll, ni, PyData.depth, ih.2]⟩
theorem shaped_lst (as : List Nat) : SeqAt.shaped (.list (as.map ni)) = true := by
  simp [SeqAt.shaped, PyData.canLay0, PyData.depth, (shaped_ints as).1, (shaped_ints as).2]
theorem shaped_tup (as : List Nat) : SeqAt.shaped (.tuple (as.map ni)) = true := by
  simp [SeqAt.shaped, PyData.canLay0, PyData.depth, (shaped_ints as).1, (shaped_ints as).2]
theorem eq_lsts (as bs : List Nat) : gEq (.list (as.map ni)) (.list (bs.map ni)) = some (.bool (as == bs)) :=
  gEq_of (by rw [shaped_lst, shaped_lst]; rfl) (by rw [PyData.eqv, eqv_lists])
theorem eq_tups (as bs : List Nat) : gEq (.tuple (as.map ni)) (.tuple (bs.map ni)) = some (.bool (as == bs)) :=
  gEq_of (by rw [shaped_tup, shaped_tup]; rfl) (by rw [PyData.eqv, eqv_lists])
theorem ne_lsts (as bs : List Nat) : gNe (.list (as.map ni)) (.list (bs.map ni)) = some (.bool (!(as == bs))) :=
  gNe_of (by rw [shaped_lst, shaped_lst]; rfl) (by rw [PyData.eqv, eqv_lists])
theorem ne_tups (as bs : List Nat) : gNe (.tuple (as.map ni)) (.tuple (bs.map ni)) = some (.bool (!(as == bs))) :=
  gNe_of (by rw [shaped_tup, shaped_tup]; rfl) (by rw [PyData.eqv, eqv_lists])
theorem gEq_bool (a b : Bool) : gEq (.bool a) (.bool b) = some (.bool (a == b)) := by
  refine gEq_of ?_ ?_
  · simp [SeqAt.shaped, PyData.canLay0, PyData.depth]
  · simp [PyData.eqv]
theorem gNe_bool (a b : Bool) : gNe (.bool a) (.bool b) = some (.bool (!(a == b))) := by
  refine gNe_of ?_ ?_
  · simp [SeqAt.shaped, PyData.canLay0, PyData.depth]
  · simp [PyData.eqv]
/-- texts that are compared -/
theorem gEq_str (x y : Str) : gEq (.str x) (.str y) = some (.bool (x == y)) := by
  unfold gEq cmpOk
  rw [show (isStr (.str x) && isStr (.str y)) = true from rfl, Bool.or_true, if_pos rfl, PyData.eqv]
theorem gNe_str (x y : Str) : gNe (.str x) (.str y) = some (.bool (!(x == y))) := by
  unfold gNe cmpOk
  rw [show (isStr (.str x) && isStr (.str y)) = true from rfl, Bool.or_true, if_pos rfl, PyData.eqv]
end DS
namespace DS
open PySem PySem.Spec PyProof.Rows L2
section
variable {g : PyData → Dn → Option Dn} {tt : Dn → Option Bool} {te : DF} {ρ ρ1 : Dn} {d y : PyData} {k : Bool}
theorem step_mapG (e1 : g d ρ = some ρ1) (e2 : te ρ1 = some y) : stepC g yesT te ρ d = some (some y) := by
  unfold stepC
  rw [e1]
  show ((te ρ1).map some) = _
  rw [e2]
  rfl
theorem step_ifG (e1 : g d ρ = some ρ1) (e : tt ρ1 = some k) (e2 : k = true → te ρ1 = some y) : stepC g tt te ρ d = some (if k = true then some y else none) := by
  unfold stepC
  rw [e1]
  show ((tt ρ1).bind fun b => if b = true then (te ρ1).map some else some none) = _
  rw [e]
  show (if k = true then (te ρ1).map some else some none) = _
  cases k with
  | true =>
    rw [if_pos rfl, if_pos rfl, e2 rfl]
    rfl
  | false => rfl
end
end DS
set_option maxHeartbeats 4000000
namespace DS
open PySem PySem.Spec PyProof.Rows L2
section
variable {n : Nat} {b : Nat → Nat → Bool} {i j : Nat}
theorem is_alt_eq (t : Tour n b) (hi : i < n) : sem_is_alternative [tabD n b, ni i] = some (.bool true) := by
  refine sem_ret ((and_eq (a := true) (b := true) (callU_eq (ds := [ni i]) rfl rfl rfl) fun _ => ?_))
  refine chn_eq (x := .int 0) (y := ni i) (b := true) rfl rfl ?_ (fun _ => ?_) (fun h => nomatch h)
  · show some (PyData.bool (decide ((0 : Int) ≤ (i : Int)))) = _
    rw [decide_eq_true (by omega)]
  · rw [call1 (x := tabD n b) rfl len_tab]
    show some (PyData.bool (decide ((i : Int) < (n : Int)))) = _
    rw [decide_eq_true (by omega)]
theorem small (t : Tour n b) : (List.range n).length < lim := by
  rw [List.length_range]
  have := t.nine
  show n < 1000000
  omega
end
end DS
namespace DS
/-! ### covering sets: the mathematics, over the numbers below n -/
section
variable {n : Nat} {b : Nat → Nat → Bool}
/-- c is a witness for x in M -/
def Wt (b : Nat → Nat → Bool) (M : Nat → Prop) (c x : Nat) : Prop := b c x = true ∧ ∀ l, M l → b x l = true → b c l = true
structure Cv (n : Nat) (b : Nat → Nat → Bool) (M : Nat → Prop) : Prop where
  some : ∃ x, M x
  low : ∀ x, M x → x < n
  wit : ∀ x, x < n → ¬ M x → ∃ c, M c ∧ Wt b M c x
theorem len_sub : ∀ {l m : List Nat}, l.Nodup → (∀ x ∈ l, x ∈ m) → l.length ≤ m.length
  | [], _, _, _ => Nat.zero_le _
  | x :: l, m, hd, hs => by
    have h1 := List.nodup_cons.mp hd
    have h2 := hs x List.mem_cons_self
    have h3 : l.length ≤ (m.erase x).length := len_sub h1.2 fun y hy => by
      have : y ≠ x := fun e => h1.1 (e ▸ hy)
      exact (List.mem_erase_of_ne this).mpr (hs y (List.mem_cons_of_mem _ hy))
    rw [List.length_erase_of_mem h2] at h3
    have := List.length_pos_of_mem h2
    rw [List.length_cons]
    omega
/-- no run of numbers below n without a repetition -/
theorem repeats (f : Nat → Nat) (h : ∀ i, f i < n) : ∃ i j, i < j ∧ f i = f j := by
  apply Classical.byContradiction
  intro no
  have nd : ((List.range (n + 1)).map f).Nodup := by
    refine List.pairwise_map.mpr (List.Pairwise.imp ?_ List.pairwise_lt_range)
    exact fun {i j} lt e => no ⟨i, j, lt, e⟩
  have := len_sub (m := List.range n) nd fun x hx => by
    obtain ⟨i, _, rfl⟩ := List.mem_map.mp hx
    exact List.mem_range.mpr (h i)
  rw [List.length_map, List.length_range, List.length_range] at this
  omega
section
variable (anti : ∀ i j, i < n → j < n → i ≠ j → b i j = !b j i) (diag : ∀ i, b i i = false)
include anti diag
/-- two disjoint kinds of numbers, and a step from each kind to the other one: it cannot go on for ever -/
theorem no_walk {A B : Nat → Prop} (la : ∀ x, A x → x < n) (lb : ∀ x, B x → x < n) (c : Nat → Nat) (ev : ∀ k, B (c (2 * k)) ∧ ¬ A (c (2 * k))) (od : ∀ k, A (c (2 * k + 1)) ∧ ¬ B (c (2 * k + 1)))
    (w1 : ∀ k, Wt b A (c (2 * k + 1)) (c (2 * k))) (w2 : ∀ k, Wt b B (c (2 * k + 2)) (c (2 * k + 1))) : False := by
  have low : ∀ k, c k < n := fun k => by
    rcases Nat.mod_two_eq_zero_or_one k with e | e
    · have : k = 2 * (k / 2) := by omega
      rw [this]
      exact lb _ (ev _).1
    · have : k = 2 * (k / 2) + 1 := by omega
      rw [this]
      exact la _ (od _).1
  -- a step beats what came before it
  have up : ∀ k, b (c (k + 1)) (c k) = true := fun k => by
    rcases Nat.mod_two_eq_zero_or_one k with e | e
    · have : k = 2 * (k / 2) := by omega
      rw [this]
      exact (w1 _).1
    · have : k = 2 * (k / 2) + 1 := by omega
      rw [this]
      exact (w2 _).1
  -- of different kinds: what a number beats, its step beats
  have r1 : ∀ k j, (k + j) % 2 = 1 → b (c k) (c j) = true → b (c (k + 1)) (c j) = true := fun k j hp h => by
    rcases Nat.mod_two_eq_zero_or_one k with e | e
    · have e1 : k = 2 * (k / 2) := by omega
      have e2 : j = 2 * (j / 2) + 1 := by omega
      rw [e1] at h ⊢
      rw [e2] at h ⊢
      exact (w1 _).2 _ (od _).1 h
    · have e1 : k = 2 * (k / 2) + 1 := by omega
      have e2 : j = 2 * (j / 2) := by omega
      rw [e1] at h ⊢
      rw [e2] at h ⊢
      exact (w2 _).2 _ (ev _).1 h
  have ne : ∀ k j, (k + j) % 2 = 1 → c k ≠ c j := fun k j hp e => by
    rcases Nat.mod_two_eq_zero_or_one k with z | z
    · have e1 : k = 2 * (k / 2) := by omega
      have e2 : j = 2 * (j / 2) + 1 := by omega
      rw [e1, e2] at e
      exact (ev (k / 2)).2 (e ▸ (od (j / 2)).1)
    · have e1 : k = 2 * (k / 2) + 1 := by omega
      have e2 : j = 2 * (j / 2) := by omega
      rw [e1, e2] at e
      exact (od (k / 2)).2 (e ▸ (ev (j / 2)).1)
  have flip : ∀ i j, i ≠ j → i < n → j < n → b i j = false → b j i = true := fun i j h hi hj e => by
    have := anti i j hi hj h
    rw [e] at this
    cases q : b j i with
    | true => rfl
    | false =>
      rw [q] at this
      cases this
  have asym : ∀ i j, i < n → j < n → b i j = true → b j i = false := fun i j hi hj e => by
    by_cases h : i = j
    · rw [h] at e
      rw [diag] at e
      cases e
    · have := anti i j hi hj h
      rw [e] at this
      cases q : b j i with
      | false => rfl
      | true =>
        rw [q] at this
        cases this
  -- of one kind: two steps further apart
  have r2 : ∀ j k, (j + k) % 2 = 1 → b (c j) (c (k + 1)) = true → b (c (j + 1)) (c k) = true := fun j k hp h => by
    refine r1 j k hp (flip _ _ (ne k j (by omega)) (low k) (low j) ?_)
    cases q : b (c k) (c j) with
    | false => rfl
    | true =>
      have := r1 k j (by omega) q
      rw [asym _ _ (low _) (low _) h] at this
      cases this
  have all : ∀ t k, t ≤ k → b (c (k + 2 + t)) (c (k - t)) = true := by
    intro t
    induction t with
    | zero => exact fun k _ => r1 (k + 1) k (by omega) (up k)
    | succ t ih =>
      intro k hk
      have h := ih k (by omega)
      have e1 : k - t = (k - (t + 1)) + 1 := by omega
      rw [e1] at h
      have := r2 (k + 2 + t) (k - (t + 1)) (by omega) h
      exact this
  obtain ⟨i, j, lt, e⟩ := repeats (n := n) (fun i => c (2 * i)) fun i => low _
  have h := all (j - i - 1) (i + j - 1) (by omega)
  have e1 : i + j - 1 + 2 + (j - i - 1) = 2 * j := by omega
  have e2 : i + j - 1 - (j - i - 1) = 2 * i := by omega
  rw [e1, e2] at h
  have e : c (2 * i) = c (2 * j) := e
  rw [e, diag] at h
  cases h
open Classical in
/-- from a number of B alone one comes to a number of both that beats as much of both -/
theorem reach {A B : Nat → Prop} (ca : Cv n b A) (cb : Cv n b B) (x : Nat) (hb : B x) (ha : ¬ A x) : ∃ c, (A c ∧ B c) ∧ ∀ l, A l → B l → b x l = true → b c l = true := by
  apply byContradiction
  intro no
  have no : ∀ y, (∀ l, A l → B l → b x l = true → b y l = true) → ¬ (A y ∧ B y) := fun y h k => no ⟨y, k, h⟩
  have exf : ∀ y, ∃ c, B y → ¬ A y → A c ∧ Wt b A c y := fun y => by
    by_cases h : B y ∧ ¬ A y
    · obtain ⟨c, h1, h2⟩ := ca.wit y (cb.low y h.1) h.2
      exact ⟨c, fun _ _ => ⟨h1, h2⟩⟩
    · exact ⟨0, fun h1 h2 => absurd ⟨h1, h2⟩ h⟩
  have exg : ∀ y, ∃ c, A y → ¬ B y → B c ∧ Wt b B c y := fun y => by
    by_cases h : A y ∧ ¬ B y
    · obtain ⟨c, h1, h2⟩ := cb.wit y (ca.low y h.1) h.2
      exact ⟨c, fun _ _ => ⟨h1, h2⟩⟩
    · exact ⟨0, fun h1 h2 => absurd ⟨h1, h2⟩ h⟩
  let f := fun y => choose (exf y)
  let g := fun y => choose (exg y)
  have hf : ∀ y, B y → ¬ A y → A (f y) ∧ Wt b A (f y) y := fun y => choose_spec (exf y)
  have hg : ∀ y, A y → ¬ B y → B (g y) ∧ Wt b B (g y) y := fun y => choose_spec (exg y)
  let d : Nat → Nat := fun k => Nat.rec x (fun _ y => g (f y)) k
  have dS : ∀ k, d (k + 1) = g (f (d k)) := fun k => rfl
  have D : ∀ k, B (d k) ∧ ¬ A (d k) ∧ ∀ l, A l → B l → b x l = true → b (d k) l = true := by
    intro k
    induction k with
    | zero => exact ⟨hb, ha, fun l _ _ h => h⟩
    | succ k ih =>
      obtain ⟨h1, h2, h3⟩ := ih
      obtain ⟨f1, f2⟩ := hf _ h1 h2
      have q1 : ∀ l, A l → B l → b x l = true → b (f (d k)) l = true := fun l la lb h => f2.2 l la (h3 l la lb h)
      have f3 : ¬ B (f (d k)) := fun z => no _ q1 ⟨f1, z⟩
      obtain ⟨g1, g2⟩ := hg _ f1 f3
      have q2 : ∀ l, A l → B l → b x l = true → b (d (k + 1)) l = true := fun l la lb h => g2.2 l lb (q1 l la lb h)
      exact ⟨g1, fun z => no _ q2 ⟨z, g1⟩, q2⟩
  have F : ∀ k, A (f (d k)) ∧ ¬ B (f (d k)) := fun k => by
    obtain ⟨h1, h2, h3⟩ := D k
    obtain ⟨f1, f2⟩ := hf _ h1 h2
    exact ⟨f1, fun z => no _ (fun l la lb h => f2.2 l la (h3 l la lb h)) ⟨f1, z⟩⟩
  let c : Nat → Nat := fun k => if k % 2 = 0 then d (k / 2) else f (d (k / 2))
  have c0 : ∀ k, c (2 * k) = d k := fun k => by
    have e1 : 2 * k % 2 = 0 := by omega
    have e2 : 2 * k / 2 = k := by omega
    show (if 2 * k % 2 = 0 then d (2 * k / 2) else f (d (2 * k / 2))) = d k
    rw [if_pos e1, e2]
  have c1 : ∀ k, c (2 * k + 1) = f (d k) := fun k => by
    have e1 : ¬ (2 * k + 1) % 2 = 0 := by omega
    have e2 : (2 * k + 1) / 2 = k := by omega
    show (if (2 * k + 1) % 2 = 0 then d ((2 * k + 1) / 2) else f (d ((2 * k + 1) / 2))) = f (d k)
    rw [if_neg e1, e2]
  refine no_walk anti diag (A := A) (B := B) ca.low cb.low c (fun k => ?_) (fun k => ?_) (fun k => ?_) (fun k => ?_)
  · rw [c0]
    exact ⟨(D k).1, (D k).2.1⟩
  · rw [c1]
    exact F k
  · rw [c0, c1]
    exact (hf _ (D k).1 (D k).2.1).2
  · rw [c1, show 2 * k + 2 = 2 * (k + 1) from by omega, c0, dS]
    exact (hg _ (F k).1 (F k).2).2
end
end
end DS
namespace DS
/-! ### the least covering set, and the table of the uncovered ones -/
section
variable {n : Nat} {b : Nat → Nat → Bool}
/-- the least one -/
structure Lc (n : Nat) (b : Nat → Nat → Bool) (M : Nat → Prop) : Prop where
  cv : Cv n b M
  least : ∀ A, Cv n b A → ∀ x, M x → A x
section
variable (diag : ∀ i, b i i = false)
include diag
section
variable (anti : ∀ i j, i < n → j < n → i ≠ j → b i j = !b j i)
include anti
end
end
end
/-! ### all sets, as lists of numbers -/
def Sn : Nat → Nat → List (List Nat)
  | _, 0 => [[]]
  | lo, m + 1 => ([] :: (Sn (lo + 1) m).map fun s => lo :: s) ++ (Sn (lo + 1) m).drop 1
theorem Sn_head : ∀ lo m : Nat, Sn lo m = [] :: (Sn lo m).drop 1
  | _, 0 => rfl
  | _, _ + 1 => rfl
theorem Sn_mem : ∀ (m lo : Nat) (s : List Nat), s ∈ Sn lo m ↔ (s.Pairwise (· < ·) ∧ ∀ x ∈ s, lo ≤ x ∧ x < lo + m)
  | 0, lo, s => by
    constructor
    · intro h
      rw [List.mem_singleton.mp h]
      exact ⟨.nil, fun x hx => nomatch hx⟩
    · intro ⟨_, h⟩
      cases s with
      | nil => exact List.mem_cons_self
      | cons x s =>
        have := h x List.mem_cons_self
        omega
  | m + 1, lo, s => by
    have ih := Sn_mem m (lo + 1)
    have split : s ∈ Sn lo (m + 1) ↔ (s = [] ∨ (∃ t, t ∈ Sn (lo + 1) m ∧ lo :: t = s)) ∨ s ∈ (Sn (lo + 1) m).drop 1 := by
      show s ∈ (([] : List Nat) :: (Sn (lo + 1) m).map fun s => lo :: s) ++ (Sn (lo + 1) m).drop 1 ↔ _
      rw [List.mem_append, List.mem_cons, List.mem_map]
    rw [split]
    constructor
    · intro h
      rcases h with (e | ⟨t, ht, e⟩) | h
      · subst e
        exact ⟨.nil, fun x hx => nomatch hx⟩
      · subst e
        obtain ⟨h1, h2⟩ := (ih t).mp ht
        refine ⟨List.pairwise_cons.mpr ⟨fun y hy => by have := h2 y hy; omega, h1⟩, fun x hx => ?_⟩
        rcases List.mem_cons.mp hx with e | hx
        · omega
        · have := h2 x hx
          omega
      · obtain ⟨h1, h2⟩ := (ih s).mp (List.mem_of_mem_drop h)
        exact ⟨h1, fun x hx => by have := h2 x hx; omega⟩
    · intro ⟨h1, h2⟩
      cases s with
      | nil => exact .inl (.inl rfl)
      | cons x s =>
        obtain ⟨a1, a2⟩ := List.pairwise_cons.mp h1
        by_cases e : x = lo
        · subst e
          refine .inl (.inr ⟨s, (ih s).mpr ⟨a2, fun y hy => ?_⟩, rfl⟩)
          have := a1 y hy
          have := h2 y (List.mem_cons_of_mem _ hy)
          omega
        · refine .inr ?_
          have hx := h2 x List.mem_cons_self
          have : x :: s ∈ Sn (lo + 1) m := (ih _).mpr ⟨h1, fun y hy => by
            have k := h2 y hy
            rcases List.mem_cons.mp hy with q | q
            · omega
            · have := a1 y q
              omega⟩
          rw [Sn_head] at this
          rcases List.mem_cons.mp this with q | q
          · cases q
          · exact q
/-! the same, one number after the other from below -/
end DS
set_option maxHeartbeats 4000000
namespace DS
open PySem PySem.Spec PyProof.Rows L2
/-! ### loops -/
theorem for_yes {g : PyData → Dn → Option Dn} {f : SF} {fi : Dn → Option (List PyData)} {xs : List PyData} {ρ ρ' : Dn} (e : fi ρ = some xs) (e2 : runFor g f xs ρ = some (.nx ρ')) : sFor fi g f ρ = some (.nx ρ') := by
  unfold sFor
  rw [e]
  exact e2
theorem for_no {g : PyData → Dn → Option Dn} {f : SF} {fi : Dn → Option (List PyData)} {xs : List PyData} {ρ : Dn} {d : PyData} (e : fi ρ = some xs) (e2 : runFor g f xs ρ = some (.rt d)) : sFor fi g f ρ = some (.rt d) := by
  unfold sFor
  rw [e]
  exact e2
/-! ### uncovered alternatives -/
section
variable {n : Nat} {b : Nat → Nat → Bool} {i j : Nat}
/-! ### sets -/
def tupN (M : List Nat) : PyData := .tuple (M.map ni)
theorem has_eq (c : Nat) (l : List Nat) : (l.map fun k : Nat => (k : Int)).contains (c : Int) = l.contains c := by
  rw [Bool.eq_iff_iff, List.contains_iff_mem, List.contains_iff_mem, List.mem_map]
  constructor
  · intro ⟨k, h, e⟩
    have : k = c := by omega
    rw [← this]
    exact h
  · exact fun h => ⟨c, h, rfl⟩
theorem ints_ni (l : List Nat) : l.map ni = (l.map fun k : Nat => (k : Int)).map .int := by rw [List.map_map]; rfl
theorem notin_eq (c : Nat) (l : List Nat) : gIn true (ni c) (tupN l) = some (.bool (!l.contains c)) := by
  show (intsD (l.map ni)).bind _ = _
  rw [ints_ni, intsD_map]
  show some (PyData.bool (!(l.map fun k : Nat => (k : Int)).contains (c : Int))) = _
  rw [has_eq]
/-- c is a witness for x -/
def wit (b : Nat → Nat → Bool) (M : List Nat) (c x : Nat) : Bool := b c x && (M.filter (b x)).all (b c)
def outs (n : Nat) (M : List Nat) : List Nat := (List.range n).filter fun x => !M.contains x
def cvB (n : Nat) (b : Nat → Nat → Bool) (M : List Nat) : Bool := decide (0 < M.length) && (outs n M).all fun x => (M.find? fun c => wit b M c x).isSome
variable {M : List Nat}
theorem outs_eq (t : Tour n b) : sem_outsiders [tabD n b, tupN M] = some (tupN (outs n M)) := by
  refine sem_ret (tup_sel (l := List.range n) (g := ni) (p := fun x => !M.contains x) (m := ni) (rng1_nat (call1 (x := tabD n b) rfl len_tab) (by have := t.nine; omega)) (small t) fun j hj => ?_)
  exact step_ifG rfl (tst_eq (bin2_eq rfl rfl (notin_eq j M))) fun _ => rfl
/-- an ascending tuple of alternatives -/
theorem set_run (t : Tour n b) : ∀ (l : List Nat) (k : Nat) (d : PyData) (e3 : Ent), l.Pairwise (· < ·) → (∀ x ∈ l, k ≤ x ∧ x < n) → ∃ ρ', runFor (setN 3) (sSeq (sIf (orT (notT (tstF (callU 2 sem_is_alternative (consA (getD 0) (consA (getD 3) nilA))))) (tstF (bin2 (gI fun i j => .bool (decide (i < j))) (getD 3) (getD 2)))) (sRet (cD (.bool false))) sNil) (sSet 2 (bin2 gAdd (getD 3) (cD (.int 1))))) (l.map ni) [.dat (tabD n b), .dat d, .dat (ni k), e3] = some (.nx ρ')
  | [], k, d, e3, _, _ => ⟨_, rfl⟩
  | x :: l, k, d, e3, hp, hl => by
    obtain ⟨p1, p2⟩ := List.pairwise_cons.mp hp
    have hx := hl x List.mem_cons_self
    obtain ⟨ρ', e⟩ := set_run t l (x + 1) d (.dat (ni x)) p2 fun y hy => ⟨p1 y hy, (hl y (List.mem_cons_of_mem _ hy)).2⟩
    refine ⟨ρ', ?_⟩
    have e0 : orT (notT (tstF (callU 2 sem_is_alternative (consA (getD 0) (consA (getD 3) nilA))))) (tstF (bin2 (gI fun i j => .bool (decide (i < j))) (getD 3) (getD 2))) [.dat (tabD n b), .dat d, .dat (ni k), .dat (ni x)] = some false := by
      refine orT_eq (a := false) (b := false) (notT_eq (a := true) (tst_eq (callU_eq (ds := [tabD n b, ni x]) rfl rfl (is_alt_eq t hx.2)))) fun _ => tst_eq (bin2_eq rfl rfl ?_)
      show some (PyData.bool (decide ((x : Int) < (k : Int)))) = _
      rw [decide_eq_false (by omega)]
    have e1 : (sSeq (sIf (orT (notT (tstF (callU 2 sem_is_alternative (consA (getD 0) (consA (getD 3) nilA))))) (tstF (bin2 (gI fun i j => .bool (decide (i < j))) (getD 3) (getD 2)))) (sRet (cD (.bool false))) sNil) (sSet 2 (bin2 gAdd (getD 3) (cD (.int 1))))) [.dat (tabD n b), .dat d, .dat (ni k), .dat (ni x)] = some (.nx [.dat (tabD n b), .dat d, .dat (ni (x + 1)), .dat (ni x)]) :=
      seq_nx (if_eq (b := false) e0 rfl) (set_eq (d := ni (x + 1)) rfl)
    show ((sSeq _ _) [.dat (tabD n b), .dat d, .dat (ni k), .dat (ni x)]).bind _ = _
    rw [e1]
    exact e
theorem is_set_eq (t : Tour n b) (h : M ∈ Sn 0 n) : sem_is_set [tabD n b, tupN M] = some (.bool true) := by
  obtain ⟨h1, h2⟩ := (Sn_mem n 0 M).mp h
  obtain ⟨ρ', e⟩ := set_run t M 0 (tupN M) .na h1 fun x hx => ⟨Nat.zero_le _, by have := h2 x hx; omega⟩
  refine sem_of (seq_nx (if_eq (b := false) (notT_eq (a := true) (tst_eq (isi_eq (d := tupN M) rfl rfl))) rfl) (seq_nx (set_eq (d := ni 0) rfl) (seq_nx (for_yes (seq_tup rfl) e) rfl)))
theorem set_low (h : M ∈ Sn 0 n) : ∀ k ∈ M, k < n := fun k hk => by
  have := ((Sn_mem n 0 M).mp h).2 k hk
  omega
theorem set_nd (h : M ∈ Sn 0 n) : M.Nodup := ((Sn_mem n 0 M).mp h).1.imp fun {a b} h e => by omega
theorem set_len (h : M ∈ Sn 0 n) : M.length ≤ n := by
  have := len_sub (m := List.range n) (set_nd h) fun x hx => List.mem_range.mpr (set_low h x hx)
  rw [List.length_range] at this
  exact this
end
end DS
set_option maxHeartbeats 4000000
namespace DS
open PySem PySem.Spec PyProof.Rows L2
/-! ### all sets -/
section
variable {n : Nat} {b : Nat → Nat → Bool}
/-! the law's own -/
def zI (s : List Nat) : List Int := s.map fun k : Nat => (k : Int)
/-! ### covering sets -/
def cvs (n : Nat) (b : Nat → Nat → Bool) : List (List Nat) := (Sn 0 n).filter (cvB n b)
variable {M : List Nat}
end
end DS
set_option maxHeartbeats 4000000
namespace DS
open PySem PySem.Spec PyProof.Rows L2
section
variable {n : Nat} {b : Nat → Nat → Bool} {M : List Nat}
theorem sel_mem (p : Nat → Bool) : (List.range n).filter p ∈ Sn 0 n := (Sn_mem n 0 _).mpr ⟨List.Pairwise.sublist List.filter_sublist List.pairwise_lt_range, fun x hx => by have := List.mem_range.mp (List.mem_filter.mp hx).1; omega⟩
/-! min by len -/
/-! the table of some alternatives -/
def nth (l : List Nat) (i : Nat) : Nat := l.getD i 0
theorem nth_eq {l : List Nat} {i : Nat} (h : i < l.length) : nth l i = l[i] := by
  unfold nth
  rw [List.getD_eq_getElem?_getD, List.getElem?_eq_getElem h]
  rfl
theorem nth_mem {l : List Nat} {i : Nat} (h : i < l.length) : nth l i ∈ l := by
  rw [nth_eq h]
  exact List.getElem_mem h
theorem nth_all (l : List Nat) : (List.range l.length).map (nth l) = l := by
  refine List.ext_getElem (by simp) fun i h1 h2 => ?_
  rw [List.getElem_map, List.getElem_range, nth_eq h2]
theorem nth_lt {l : List Nat} (h : l.Pairwise (· < ·)) {i j : Nat} (hj : j < l.length) (hij : i < j) : nth l i < nth l j := by
  rw [nth_eq (by omega), nth_eq hj]
  exact List.pairwise_iff_getElem.mp h i j (by omega) hj hij
theorem nth_inj {l : List Nat} (h : l.Pairwise (· < ·)) {i j : Nat} (hi : i < l.length) (hj : j < l.length) (e : nth l i = nth l j) : i = j := by
  rcases Nat.lt_trichotomy i j with q | q | q
  · have := nth_lt h hj q
    omega
  · exact q
  · have := nth_lt h hi q
    omega
def sub (b : Nat → Nat → Bool) (l : List Nat) : Nat → Nat → Bool := fun i j => b (nth l i) (nth l j)
theorem sub_tour (t : Tour n b) (h : M ∈ Sn 0 n) (h0 : 0 < M.length) : Tour M.length (sub b M) := by
  obtain ⟨h1, _⟩ := (Sn_mem n 0 M).mp h
  have low := set_low h
  exact ⟨h0, Nat.le_trans (set_len h) t.nine, fun i j hi hj ne => t.anti _ _ (low _ (nth_mem hi)) (low _ (nth_mem hj)) fun e => ne (nth_inj h1 hi hj e), fun i => t.diag _⟩
theorem pick_eq (t : Tour n b) (h : M ∈ Sn 0 n) : sem_pick_table [tabD n b, tupN M] = some (tabD M.length (sub b M)) := by
  obtain ⟨h1, _⟩ := (Sn_mem n 0 M).mp h
  have low := set_low h
  have m9 : M.length ≤ 9 := Nat.le_trans (set_len h) t.nine
  have items : M.map ni = (List.range M.length).map fun i => ni (nth M i) := by
    have := congrArg (List.map ni) (nth_all M)
    rw [List.map_map] at this
    exact this.symm
  have lm : (List.range M.length).length < lim := by rw [List.length_range]; show M.length < 1000000; omega
  refine sem_ret (tup_map (l := List.range M.length) (g := fun i => ni (nth M i)) (m := fun i => .str (rowS M.length (sub b M) i)) (by rw [← items]; exact seq_tup rfl) lm fun i hi => ?_)
  have hi := List.mem_range.mp hi
  refine step_mapG rfl (bin2_eq rfl (lst_map (l := List.range M.length) (g := fun i => ni (nth M i)) (m := fun j => .str ⟨#[sgn (sub b M) i j]⟩) (by rw [← items]; exact seq_tup rfl) lm fun j hj => ?_) ?_)
  · have hj := List.mem_range.mp hj
    refine step_mapG rfl ((bin2_eq (bin2_eq rfl rfl (ix_tab (low _ (nth_mem hi)))) rfl (ix_row (Nat.le_trans t.nine (by decide)) (low _ (nth_mem hj)))).trans ?_)
    have : sgn b (nth M i) (nth M j) = sgn (sub b M) i j := by
      unfold sgn sub
      by_cases e : i = j
      · rw [if_pos e, if_pos (by rw [e])]
      · rw [if_neg e, if_neg fun q => e (nth_inj h1 hi hj q)]
    rw [this]
  · have j := join_row ((List.range M.length).map fun j => sgn (sub b M) i j) (by simp; omega)
    rw [List.map_map] at j
    exact j
/-! the smallest one -/
end
end DS
set_option maxHeartbeats 4000000
namespace DS
open PySem PySem.Spec PyProof.Rows L2
/-! ### values that can be shown -/
structure Shw (k B : Nat) (d : PyData) : Prop where
  sh : d.showable = true
  dp : d.depth ≤ k
  lv : d.leavesShort 40 = true
  bk : d.bulk ≤ B
theorem shw_all {k B : Nat} : ∀ {ds : List PyData}, (∀ d ∈ ds, Shw k B d) → PyData.showableAll ds = true ∧ PyData.depthAll ds ≤ k ∧ PyData.leavesShortAll 40 ds = true ∧ PyData.bulkAll ds ≤ ds.length * (B + 1)
  | [], _ => ⟨by simp [PyData.showableAll], by simp [PyData.depthAll], by simp [PyData.leavesShortAll], by simp [PyData.bulkAll]⟩
  | d :: ds, h => by
    obtain ⟨a1, a2, a3, a4⟩ := h d List.mem_cons_self
    obtain ⟨b1, b2, b3, b4⟩ := shw_all fun e he => h e (List.mem_cons_of_mem _ he)
    refine ⟨by simp [PyData.showableAll, a1, b1], by simp only [PyData.depthAll]; omega, by simp [PyData.leavesShortAll, a3, b3], ?_⟩
    simp only [PyData.bulkAll, List.length_cons, Nat.succ_mul]
    omega
theorem Shw.tup {k B : Nat} {ds : List PyData} (h : ∀ d ∈ ds, Shw k B d) : Shw (k + 1) (ds.length * (B + 1)) (.tuple ds) := by
  obtain ⟨b1, b2, b3, b4⟩ := shw_all h
  exact ⟨by simp [PyData.showable, b1], by simp only [PyData.depth]; omega, by simp [PyData.leavesShort, b3], by simp only [PyData.bulk]; exact b4⟩
theorem Shw.lst {k B : Nat} {ds : List PyData} (h : ∀ d ∈ ds, Shw k B d) : Shw (k + 1) (ds.length * (B + 1)) (.list ds) := by
  obtain ⟨b1, b2, b3, b4⟩ := shw_all h
  exact ⟨by simp [PyData.showable, b1], by simp only [PyData.depth]; omega, by simp [PyData.leavesShort, b3], by simp only [PyData.bulk]; exact b4⟩
theorem Shw.le {k B k' B' : Nat} {d : PyData} (h : Shw k B d) (hk : k ≤ k') (hB : B ≤ B') : Shw k' B' d := ⟨h.sh, Nat.le_trans h.dp hk, h.lv, Nat.le_trans h.bk hB⟩
theorem shw_int {i : Int} (h : i.natAbs < 10 ^ 30) : Shw 0 0 (.int i) := ⟨by
  simp only [PyData.showable, decide_eq_true_eq]
  by_cases h0 : i.natAbs = 0
  · rw [h0]; decide
  · exact Nat.lt_trans (Nat.log2_lt h0 |>.mpr (Nat.lt_trans h (show 10 ^ 30 < 2 ^ 100 by decide))) (by decide), by simp [PyData.depth], by
  simp only [PyData.leavesShort, decide_eq_true_eq]
  have e := int_text_length_le10 (k := 30) (by decide) h
  first
    | exact Nat.le_trans e (by decide)
    | (rw [PyData.shown_int, PySem.ofString_length]; exact Nat.le_trans e (by decide)), by simp [PyData.bulk]⟩
theorem Shw.repr {k B : Nat} {d : PyData} (h : Shw k B d) (hk : k ≤ 40) (hB : B ≤ 15000) : reprD [d] = some (.str d.shown) := by
  show (if _ then _ else _) = _
  have := PyData.shown_le_bulk 40 (by decide) d h.lv
  have hb := h.bk
  rw [if_pos ⟨h.sh, Nat.le_trans h.dp hk, show _ < 1000000 by omega⟩]
end DS
set_option maxHeartbeats 4000000
namespace DS
open PySem PySem.Spec PyProof.Rows L2
/-! ### values of any kind, by their size -/
mutual
def okI (c : Nat) : PyData → Bool
  | .none | .bool _ => true
  | .int i => decide (i.natAbs ≤ 10 ^ 29 + c)
  | .str x => x.cps.toList.all fun q => decide (q < 0x110000)
  | .list xs | .tuple xs => okIAll c xs
  | .dict kvs => okIKv c kvs
def okIAll (c : Nat) : List PyData → Bool
  | [] => true
  | x :: xs => okI c x && okIAll c xs
def okIKv (c : Nat) : List (PyData × PyData) → Bool
  | [] => true
  | (k, v) :: r => okI c k && okI c v && okIKv c r
end
theorem int_ok {c : Nat} {i : Int} (hc : c ≤ 1000) (h : i.natAbs ≤ 10 ^ 29 + c) : i.natAbs < 10 ^ 30 := by
  have : (10 : Nat) ^ 29 + 1000 < 10 ^ 30 := by decide
  omega
mutual
theorem okI_show {c : Nat} (hc : c ≤ 1000) : ∀ d : PyData, okI c d = true → d.showable = true ∧ d.leavesShort 40 = true
  | .none, _ => ⟨by simp [PyData.showable], by simp [PyData.leavesShort]⟩
  | .bool _, _ => ⟨by simp [PyData.showable], by simp [PyData.leavesShort]⟩
  | .int i, h => ⟨(shw_int (int_ok hc (of_decide_eq_true (by simpa [okI] using h)))).sh, (shw_int (int_ok hc (of_decide_eq_true (by simpa [okI] using h)))).lv⟩
  | .str x, h => ⟨by simp [PyData.showable], by
    have h : ∀ q ∈ x.cps.toList, q < 0x110000 := fun q hq => of_decide_eq_true (List.all_eq_true.mp (show (x.cps.toList.all fun q => decide (q < 0x110000)) = true by simpa only [okI] using h) q hq)
    have h2 : ∀ q ∈ x.cps.toList, q < 16 ^ 8 := fun q hq => Nat.lt_trans (h q hq) (by decide)
    have h3 : (x.cps.toList.all fun q => decide (q < 16 ^ 8)) = true := List.all_eq_true.mpr fun q hq => decide_eq_true (h2 q hq)
    simpa [PyData.leavesShort] using h3⟩
  | .list xs, h => by
    obtain ⟨a, b⟩ := okI_showAll hc xs (by simpa [okI] using h)
    exact ⟨by simp [PyData.showable, a], by simp [PyData.leavesShort, b]⟩
  | .tuple xs, h => by
    obtain ⟨a, b⟩ := okI_showAll hc xs (by simpa [okI] using h)
    exact ⟨by simp [PyData.showable, a], by simp [PyData.leavesShort, b]⟩
  | .dict kvs, h => by
    obtain ⟨a, b⟩ := okI_showKv hc kvs (by simpa [okI] using h)
    exact ⟨by simp [PyData.showable, a], by simp [PyData.leavesShort, b]⟩
theorem okI_showAll {c : Nat} (hc : c ≤ 1000) : ∀ ds : List PyData, okIAll c ds = true → PyData.showableAll ds = true ∧ PyData.leavesShortAll 40 ds = true
  | [], _ => ⟨by simp [PyData.showableAll], by simp [PyData.leavesShortAll]⟩
  | d :: ds, h => by
    have h : okI c d = true ∧ okIAll c ds = true := by simpa [okIAll] using h
    obtain ⟨a1, a2⟩ := okI_show hc d h.1
    obtain ⟨b1, b2⟩ := okI_showAll hc ds h.2
    exact ⟨by simp [PyData.showableAll, a1, b1], by simp [PyData.leavesShortAll, a2, b2]⟩
theorem okI_showKv {c : Nat} (hc : c ≤ 1000) : ∀ ds : List (PyData × PyData), okIKv c ds = true → PyData.showableKv ds = true ∧ PyData.leavesShortKv 40 ds = true
  | [], _ => ⟨by simp [PyData.showableKv], by simp [PyData.leavesShortKv]⟩
  | (k, d) :: ds, h => by
    have h : (okI c k = true ∧ okI c d = true) ∧ okIKv c ds = true := by simpa [okIKv] using h
    obtain ⟨z1, z2⟩ := okI_show hc k h.1.1
    obtain ⟨a1, a2⟩ := okI_show hc d h.1.2
    obtain ⟨b1, b2⟩ := okI_showKv hc ds h.2
    exact ⟨by simp [PyData.showableKv, z1, a1, b1], by simp [PyData.leavesShortKv, z2, a2, b2]⟩
end
structure AV (c k B : Nat) (d : PyData) : Prop where
  ok : okI c d = true
  dp : d.depth ≤ k
  bk : d.bulk ≤ B
theorem AV.shw {c k B : Nat} {d : PyData} (h : AV c k B d) (hc : c ≤ 1000) : Shw k B d := ⟨(okI_show hc d h.ok).1, h.dp, (okI_show hc d h.ok).2, h.bk⟩
/-! lists -/
def bsum : List PyData → Nat
  | [] => 0
  | x :: xs => x.bulk + 1 + bsum xs
theorem bulk_sum : ∀ xs : List PyData, PyData.bulkAll xs = bsum xs
  | [] => by simp [PyData.bulkAll, bsum]
  | x :: xs => by simp only [PyData.bulkAll, bsum, bulk_sum xs]
theorem bsum_app : ∀ xs ys : List PyData, bsum (xs ++ ys) = bsum xs + bsum ys
  | [], ys => by simp [bsum]
  | x :: xs, ys => by rw [List.cons_append, bsum, bsum, bsum_app xs ys]; omega
theorem bsum_len : ∀ xs : List PyData, xs.length ≤ bsum xs
  | [] => Nat.le_refl _
  | x :: xs => by
    have := bsum_len xs
    rw [List.length_cons, bsum]
    omega
theorem okI_all {c : Nat} : ∀ {xs : List PyData}, okIAll c xs = true ↔ ∀ x ∈ xs, okI c x = true
  | [] => ⟨(fun _ x hx => nomatch hx), fun _ => by simp [okIAll]⟩
  | x :: xs => by
    simp only [okIAll, Bool.and_eq_true, okI_all, List.mem_cons, forall_eq_or_imp]
theorem dep_all {k : Nat} : ∀ {xs : List PyData}, PyData.depthAll xs ≤ k ↔ ∀ x ∈ xs, x.depth ≤ k
  | [] => ⟨(fun _ x hx => nomatch hx), fun _ => by simp [PyData.depthAll]⟩
  | x :: xs => by
    simp only [PyData.depthAll, List.mem_cons, forall_eq_or_imp, ← dep_all (xs := xs)]
    omega
mutual
theorem okI_up {c c' : Nat} (h : c ≤ c') : ∀ d : PyData, okI c d = true → okI c' d = true
  | .none, _ => by simp [okI]
  | .bool _, _ => by simp [okI]
  | .int i, q => by
    have : i.natAbs ≤ 10 ^ 29 + c := of_decide_eq_true (by simpa [okI] using q)
    simp only [okI, decide_eq_true_eq]
    omega
  | .str x, q => by simpa [okI] using q
  | .list xs, q => by simpa [okI] using okI_upAll h xs (by simpa [okI] using q)
  | .tuple xs, q => by simpa [okI] using okI_upAll h xs (by simpa [okI] using q)
  | .dict kvs, q => by simpa [okI] using okI_upKv h kvs (by simpa [okI] using q)
theorem okI_upAll {c c' : Nat} (h : c ≤ c') : ∀ d : List PyData, okIAll c d = true → okIAll c' d = true
  | [], _ => by simp [okIAll]
  | x :: xs, q => by
    have q : okI c x = true ∧ okIAll c xs = true := by simpa [okIAll] using q
    simp [okIAll, okI_up h x q.1, okI_upAll h xs q.2]
theorem okI_upKv {c c' : Nat} (h : c ≤ c') : ∀ d : List (PyData × PyData), okIKv c d = true → okIKv c' d = true
  | [], _ => by simp [okIKv]
  | (k, x) :: xs, q => by
    have q : (okI c k = true ∧ okI c x = true) ∧ okIKv c xs = true := by simpa [okIKv] using q
    simp [okIKv, okI_up h k q.1.1, okI_up h x q.1.2, okI_upKv h xs q.2]
end
theorem AV.up {c k B c' k' B' : Nat} {d : PyData} (h : AV c k B d) (hc : c ≤ c') (hk : k ≤ k') (hB : B ≤ B') : AV c' k' B' d := ⟨okI_up hc d h.ok, Nat.le_trans h.dp hk, Nat.le_trans h.bk hB⟩
theorem AV.tup {c k B : Nat} {ys : List PyData} : AV c (k + 1) B (.tuple ys) ↔ (∀ y ∈ ys, okI c y = true ∧ y.depth ≤ k) ∧ bsum ys ≤ B := by
  constructor
  · rintro ⟨h1, h2, h3⟩
    have h1 : okIAll c ys = true := by simpa [okI] using h1
    simp only [PyData.depth] at h2
    simp only [PyData.bulk, bulk_sum] at h3
    have h2 := dep_all.mp (show PyData.depthAll ys ≤ k by omega)
    exact ⟨fun y hy => ⟨okI_all.mp h1 y hy, h2 y hy⟩, h3⟩
  · rintro ⟨h1, h2⟩
    refine ⟨by simpa [okI] using okI_all.mpr fun y hy => (h1 y hy).1, ?_, by simp only [PyData.bulk, bulk_sum]; exact h2⟩
    have := dep_all.mpr fun y hy => (h1 y hy).2
    simp only [PyData.depth]
    omega
theorem AV.lst {c k B : Nat} {ys : List PyData} : AV c (k + 1) B (.list ys) ↔ (∀ y ∈ ys, okI c y = true ∧ y.depth ≤ k) ∧ bsum ys ≤ B := by
  constructor
  · rintro ⟨h1, h2, h3⟩
    have h1 : okIAll c ys = true := by simpa [okI] using h1
    simp only [PyData.depth] at h2
    simp only [PyData.bulk, bulk_sum] at h3
    have h2 := dep_all.mp (show PyData.depthAll ys ≤ k by omega)
    exact ⟨fun y hy => ⟨okI_all.mp h1 y hy, h2 y hy⟩, h3⟩
  · rintro ⟨h1, h2⟩
    refine ⟨by simpa [okI] using okI_all.mpr fun y hy => (h1 y hy).1, ?_, by simp only [PyData.bulk, bulk_sum]; exact h2⟩
    have := dep_all.mpr fun y hy => (h1 y hy).2
    simp only [PyData.depth]
    omega
theorem av_int {c k B : Nat} {i : Int} (h : i.natAbs ≤ 10 ^ 29 + c) : AV c k B (.int i) := ⟨by simp only [okI, decide_eq_true_eq]; exact h, by simp [PyData.depth], by simp [PyData.bulk]⟩
theorem av_nat {c k B n : Nat} (h : n ≤ 1000000) : AV c k B (ni n) := av_int (by
  show n ≤ 10 ^ 29 + c
  have : (1000000 : Nat) ≤ 10 ^ 29 := by decide
  omega)
/-! slices -/
theorem cut_to (xs : List PyData) (j : Nat) : cutD xs none (some (j : Int)) = xs.take j := by
  unfold cutD
  rw [HT.sIx_none, HT.sIx_nat, List.drop_zero, Nat.sub_zero]
  by_cases h : j ≤ xs.length
  · rw [Nat.min_eq_left h]
  · rw [Nat.min_eq_right (by omega), List.take_length, List.take_of_length_le (by omega)]
theorem cut_from (xs : List PyData) (j : Nat) : cutD xs (some (j : Int)) none = xs.drop j := by
  unfold cutD
  rw [HT.sIx_none, HT.sIx_nat]
  by_cases h : j ≤ xs.length
  · rw [Nat.min_eq_left h, List.take_of_length_le (by rw [List.length_drop]; exact Nat.le_refl _)]
  · rw [Nat.min_eq_right (by omega), Nat.sub_self, List.take_zero, List.drop_of_length_le (by omega)]
theorem cut_last (xs : List PyData) : cutD xs (some (-1)) none = xs.drop (xs.length - 1) := by
  unfold cutD
  have e : HT.sIx xs.length 0 (some (-1)) = xs.length - 1 := by
    show (if (-1 : Int) < 0 then ((-1 : Int) + (xs.length : Int)).toNat else min (-1 : Int).toNat xs.length) = _
    rw [if_pos (by decide)]
    omega
  rw [HT.sIx_none, e, List.take_of_length_le (by rw [List.length_drop]; exact Nat.le_refl _)]
theorem bsum_drop (xs : List PyData) (j : Nat) : bsum (xs.drop j) ≤ bsum xs := by
  have := bsum_app (xs.take j) (xs.drop j)
  rw [List.take_append_drop] at this
  omega
theorem AV.drop {c k B : Nat} {ys : List PyData} (h : AV c (k + 1) B (.tuple ys)) (j : Nat) : AV c (k + 1) B (.tuple (ys.drop j)) := by
  obtain ⟨h1, h2⟩ := AV.tup.mp h
  exact AV.tup.mpr ⟨fun y hy => h1 y (List.mem_of_mem_drop hy), Nat.le_trans (bsum_drop ys j) h2⟩
theorem AV.list {c k B : Nat} {ys : List PyData} (h : AV c (k + 1) B (.tuple ys)) : AV c (k + 1) B (.list ys) := AV.lst.mpr (AV.tup.mp h)
theorem AV.item {c k B : Nat} {ys : List PyData} (h : AV c (k + 1) B (.tuple ys)) {j : Nat} (hj : j < ys.length) : AV c k ys[j].bulk ys[j] := by
  obtain ⟨h1, h2⟩ := AV.tup.mp h
  exact ⟨(h1 _ (List.getElem_mem hj)).1, (h1 _ (List.getElem_mem hj)).2, Nat.le_refl _⟩
theorem AV.len {c k B : Nat} {ys : List PyData} (h : AV c k B (.tuple ys)) : ys.length ≤ B := by
  have := h.bk
  simp only [PyData.bulk, bulk_sum] at this
  exact Nat.le_trans (bsum_len ys) this
end DS
set_option maxHeartbeats 4000000
namespace DS
open PySem PySem.Spec PyProof.Rows L2
/-! ### dominant sets: the mathematics -/
section
variable {n : Nat} {b : Nat → Nat → Bool} {M : List Nat}
theorem mem_outs {x : Nat} : x ∈ outs n M ↔ x < n ∧ x ∉ M := by
  unfold outs
  rw [List.mem_filter, List.mem_range]
  simp
/-! ### what the defs give -/
end
end DS
set_option maxHeartbeats 4000000
namespace DS
open PySem PySem.Spec PyProof.Rows L2
section
variable {n : Nat} {b : Nat → Nat → Bool} {M : List Nat}
/-! ### layers -/
end
end DS
set_option maxHeartbeats 4000000
namespace DS
open PySem PySem.Spec PyProof.Rows L2
/-! ### steps: who was reached from whom -/
def upS (s : Nat → Option Nat) (v j : Nat) : Nat → Option Nat := fun i => if i = v then some j else s i
/-- what the search holds: D, all that were reached, in their order -/
structure Bf (n : Nat) (b : Nat → Nat → Bool) (one : Nat) (D : List Nat) (s : Nat → Option Nat) : Prop where
  nd : D.Nodup
  low : ∀ v ∈ D, v < n
  hd : one ∈ D
  s1 : s one = none
  out : ∀ v, v ∉ D → s v = none
  par : ∀ v ∈ D, v ≠ one → ∃ j, s v = some j ∧ b j v = true ∧ j ∈ D ∧ D.idxOf j < D.idxOf v
section
variable {n : Nat} {b : Nat → Nat → Bool} {one : Nat} {D : List Nat} {s : Nat → Option Nat}
theorem Bf.start (h : one < n) : Bf n b one [one] fun _ => none := ⟨by simp, by simpa using h, by simp, rfl, fun _ _ => rfl, fun v hv ne => absurd (List.mem_singleton.mp hv) ne⟩
theorem Bf.add (h : Bf n b one D s) {j v : Nat} (hj : j ∈ D) (hv : v < n) (hb : b j v = true) (nv : v ∉ D) : Bf n b one (D ++ [v]) (upS s v j) := by
  have io : ∀ x ∈ D, (D ++ [v]).idxOf x = D.idxOf x := fun x hx => by rw [List.idxOf_append, if_pos hx]
  have iv : (D ++ [v]).idxOf v = D.length := by rw [List.idxOf_append, if_neg nv]; simp
  have ne : ∀ x ∈ D, x ≠ v := fun x hx e => nv (e ▸ hx)
  refine ⟨List.nodup_append.mpr ⟨h.nd, by simp, fun x hx y hy => by rw [List.mem_singleton.mp hy]; exact ne x hx⟩, fun x hx => ?_, List.mem_append_left _ h.hd, ?_, fun x hx => ?_, fun x hx nx => ?_⟩
  · rcases List.mem_append.mp hx with hx | hx
    · exact h.low x hx
    · rw [List.mem_singleton.mp hx]; exact hv
  · unfold upS
    rw [if_neg (ne one h.hd)]
    exact h.s1
  · unfold upS
    rw [if_neg fun e => hx (by rw [e]; simp)]
    exact h.out x fun z => hx (List.mem_append_left _ z)
  · by_cases hD : x ∈ D
    · obtain ⟨i, k1, k2, k3, k4⟩ := h.par x hD nx
      refine ⟨i, by unfold upS; rw [if_neg (ne x hD)]; exact k1, k2, List.mem_append_left _ k3, ?_⟩
      rw [io i k3, io x hD]
      exact k4
    · have e : x = v := by
        rcases List.mem_append.mp hx with z | z
        · exact absurd z hD
        · exact List.mem_singleton.mp z
      subst e
      refine ⟨j, by unfold upS; rw [if_pos rfl], hb, List.mem_append_left _ hj, ?_⟩
      rw [io j hj, iv]
      exact List.idxOf_lt_length_of_mem hj
theorem Bf.isNone (h : Bf n b one D s) {v : Nat} (ne : v ≠ one) : (s v).isNone = true ↔ v ∉ D := by
  constructor
  · intro e z
    obtain ⟨i, k1, _⟩ := h.par v z ne
    rw [k1] at e
    cases e
  · intro z
    rw [h.out v z]
    rfl
/-! ### the search as it is written -/
theorem Bf.len (h : Bf n b one D s) : D.length ≤ n := by
  have := len_sub (m := List.range n) h.nd fun x hx => List.mem_range.mpr (h.low x hx)
  rwa [List.length_range] at this
/-- all that those reach who were looked at -/
def Cls (n : Nat) (b : Nat → Nat → Bool) (P D : List Nat) : Prop := ∀ p ∈ P, ∀ v, v < n → b p v = true → v ∈ D
end
end DS
set_option maxHeartbeats 4000000
namespace DS
open PySem PySem.Spec PyProof.Rows L2
/-- the walk back, of at most k places -/
def walkT (s : Nat → Option Nat) (g : Nat) : Nat → Nat → Bool
  | 0, _ => false
  | k + 1, x => if x = g then true else match s x with
    | some j => walkT s g k j
    | none => false
section
variable {n : Nat} {b : Nat → Nat → Bool} {one : Nat} {D M : List Nat} {s : Nat → Option Nat}
theorem eq_nats (x y : Nat) : gEq (ni x) (ni y) = some (.bool (decide (x = y))) := (gEq_int _ _).trans (by
  congr 2
  rw [Bool.eq_iff_iff, beq_iff_eq, decide_eq_true_iff]
  omega)
theorem ne_nats (x y : Nat) : gNe (ni x) (ni y) = some (.bool (!decide (x = y))) := (gNe_int _ _).trans (by
  congr 3
  rw [Bool.eq_iff_iff, beq_iff_eq, decide_eq_true_iff]
  omega)
theorem in_eq (c : Nat) (l : List Nat) : gIn false (ni c) (tupN l) = some (.bool (l.contains c)) := by
  show (intsD (l.map ni)).bind _ = _
  rw [ints_ni, intsD_map]
  show some (PyData.bool ((l.map fun k : Nat => (k : Int)).contains (c : Int))) = _
  rw [has_eq]
def stepB? (b : Nat → Nat → Bool) (s : Nat → Option Nat) (o : Nat) : Bool := match s o with
  | some j => b j o
  | none => false
def okS (n : Nat) (b : Nat → Nat → Bool) (one : Nat) (s : Nat → Option Nat) : Bool := (s one).isNone && ((outs n [one]).all (stepB? b s) && (List.range n).all fun x => walkT s one n x)
end
end DS
set_option maxHeartbeats 4000000
namespace DS
open PySem PySem.Spec PyProof.Rows L2
section
variable {n : Nat} {b : Nat → Nat → Bool} {one : Nat} {D M : List Nat} {s : Nat → Option Nat}
/-! ### who is in the top set -/
theorem Bf.walk (h : Bf n b one D s) : ∀ (k x : Nat), x ∈ D → D.idxOf x < k → walkT s one k x = true
  | 0, x, _, hk => by omega
  | k + 1, x, hx, hk => by
    rw [walkT]
    by_cases e : x = one
    · rw [if_pos e]
    · rw [if_neg e]
      obtain ⟨j, k1, _, k3, k4⟩ := h.par x hx e
      rw [k1]
      exact h.walk k j k3 (by omega)
theorem Bf.ok (h : Bf n b one D s) (all : ∀ x, x < n → x ∈ D) : okS n b one s = true := by
  unfold okS
  rw [h.s1]
  refine Bool.and_eq_true_iff.mpr ⟨rfl, Bool.and_eq_true_iff.mpr ⟨List.all_eq_true.mpr fun o ho => ?_, List.all_eq_true.mpr fun x hx => ?_⟩⟩
  · obtain ⟨o1, o2⟩ := mem_outs.mp ho
    obtain ⟨j, k1, k2, _⟩ := h.par o (all o o1) (by simpa using o2)
    unfold stepB?
    rw [k1]
    exact k2
  · have hx := all x (List.mem_range.mp hx)
    exact h.walk n x hx (Nat.lt_of_lt_of_le (List.idxOf_lt_length_of_mem hx) h.len)
end
end DS
set_option maxHeartbeats 4000000
namespace DS
open PySem PySem.Spec PyProof.Rows L2
/-! ### certificates of any kind -/
/-- the alternative that a value is -/
def altO (n : Nat) : PyData → Option Nat
  | .int i => if 0 ≤ i ∧ i < n then some i.toNat else none
  | _ => none
section
variable {n : Nat} {b : Nat → Nat → Bool} {one : Nat}
theorem chain_eq {f g : DF} {ρ : Dn} {i : Int} (e1 : f ρ = some (.int i)) (e2 : g ρ = some (ni n)) : chnF (gI fun i j => .bool (decide (i ≤ j))) (gI fun i j => .bool (decide (i < j))) (cD (.int 0)) f g ρ = some (.bool (altO n (.int i)).isSome) := by
  refine chn_eq (x := .int 0) (y := .int i) (b := decide (0 ≤ i)) rfl e1 rfl (fun h => ?_) (fun h => ?_)
  · rw [e2]
    have h := of_decide_eq_true h
    show some (PyData.bool (decide (i < (n : Int)))) = some (PyData.bool (altO n (.int i)).isSome)
    congr 2
    simp only [altO]
    by_cases q : i < (n : Int)
    · rw [decide_eq_true q, if_pos ⟨h, q⟩]; rfl
    · rw [decide_eq_false q, if_neg fun z => q z.2]; rfl
  · have h := of_decide_eq_false h
    simp only [altO]
    rw [if_neg fun z => h z.1]
    rfl
theorem is_alt_any (t : Tour n b) (d : PyData) : sem_is_alternative [tabD n b, d] = some (.bool (altO n d).isSome) := by
  cases d with
  | int i => exact sem_ret ((and_eq (a := true) (callU_eq (ds := [.int i]) rfl rfl rfl) fun _ => chain_eq rfl (call1 (x := tabD n b) rfl len_tab)).trans (by rw [Bool.true_and]))
  | none => rfl
  | bool c => rfl
  | str x => rfl
  | list xs => rfl
  | tuple xs => rfl
  | dict xs => rfl
end
end DS
set_option maxHeartbeats 4000000
namespace DS
open PySem PySem.Spec PyProof.Rows L2
/-! ### sets of any kind -/
section
variable {n : Nat} {b : Nat → Nat → Bool} {one : Nat} {M : List Nat}
/-! ### which word -/
end
end DS
set_option maxHeartbeats 4000000
namespace DS
open PySem PySem.Spec PyProof.Rows L2
/-! ### readings by simp -/
section
variable {ρ : Dn} {f fa fb fc : DF} {α : Type}
@[simp] theorem e_getD0 {d : PyData} {l : Dn} : getD 0 (.dat d :: l) = some d := rfl
@[simp] theorem e_getDs {i : Nat} {e : Ent} {l : Dn} : getD (i + 1) (e :: l) = getD i l := rfl
@[simp] theorem e_getO0 {d : List PyData} {l : Dn} : getO 0 (.own d :: l) = some d := rfl
@[simp] theorem e_getOs {i : Nat} {e : Ent} {l : Dn} : getO (i + 1) (e :: l) = getO i l := rfl
@[simp] theorem e_getD0own {d : List PyData} {l : Dn} : getD 0 (.own d :: l) = none := rfl
@[simp] theorem e_getD0na {l : Dn} : getD 0 (.na :: l) = none := rfl
@[simp] theorem e_getO0dat {d : PyData} {l : Dn} : getO 0 (.dat d :: l) = none := rfl
@[simp] theorem e_cD {d : PyData} : cD d ρ = some d := rfl
@[simp] theorem e_nilA : nilA ρ = some [] := rfl
@[simp] theorem e_consA {g : Dn → Option (List PyData)} : consA f g ρ = (f ρ).bind fun d => (g ρ).bind fun ds => some (d :: ds) := rfl
@[simp] theorem e_tupF {g : Dn → Option (List PyData)} : tupF g ρ = (g ρ).bind fun ds => if ds.length < 1000000 then some (.tuple ds) else none := rfl
@[simp] theorem e_limA {g : Dn → Option (List PyData)} : limA g ρ = (g ρ).bind fun ds => if ds.length < 1000000 then some ds else none := rfl
@[simp] theorem e_lstI {g : Dn → Option (List PyData)} : lstI g ρ = (g ρ).map .list := rfl
@[simp] theorem e_bin2 {g : PyData → PyData → Option PyData} : bin2 g fa fb ρ = (fa ρ).bind fun d => (fb ρ).bind fun e => g d e := rfl
@[simp] theorem e_tstF : tstF f ρ = (f ρ).bind toB := rfl
@[simp] theorem e_toB {b : Bool} : toB (.bool b) = some b := rfl
@[simp] theorem e_toI {i : Int} : toI (.int i) = some i := rfl
@[simp] theorem e_toI' {i : Nat} : toI (ni i) = some (i : Int) := rfl
@[simp] theorem e_seqI : seqI f ρ = (f ρ).bind itemsD := rfl
@[simp] theorem e_itemsT {xs : List PyData} : itemsD (.tuple xs) = some xs := rfl
@[simp] theorem e_itemsL {xs : List PyData} : itemsD (.list xs) = some xs := rfl
@[simp] theorem e_itemsN {xs : List Nat} : itemsD (tupN xs) = some (xs.map ni) := rfl
@[simp] theorem e_andF : andF fa fb ρ = (fa ρ).bind fun d => (toB d).bind fun k => if k = true then fb ρ else some (.bool false) := rfl
@[simp] theorem e_notF : notF fa ρ = (fa ρ).bind fun d => (toB d).bind fun k => some (.bool (!k)) := rfl
@[simp] theorem e_andT {ga gb : Dn → Option Bool} : andT ga gb ρ = (ga ρ).bind fun k => if k = true then gb ρ else some false := rfl
@[simp] theorem e_orT {ga gb : Dn → Option Bool} : orT ga gb ρ = (ga ρ).bind fun k => if k = true then some true else gb ρ := rfl
@[simp] theorem e_notT {ga : Dn → Option Bool} : notT ga ρ = (ga ρ).bind fun k => some (!k) := rfl
@[simp] theorem e_ifF {g : Dn → Option Bool} : ifF g fa fb ρ = (g ρ).bind fun k => if k = true then fa ρ else fb ρ := rfl
@[simp] theorem e_chnF {g g' : PyData → PyData → Option PyData} : chnF g g' fa fb fc ρ = (fa ρ).bind fun x => (fb ρ).bind fun y => (g x y).bind fun z => (toB z).bind fun k => if k = true then (fc ρ).bind fun w => g' y w else some (.bool false) := rfl
@[simp] theorem e_callA {g : List PyData → Option PyData} {fs : Dn → Option (List PyData)} : callA g fs ρ = (fs ρ).bind g := rfl
@[simp] theorem e_callU {n : Nat} {sem : List PyData → Option PyData} {fs : Dn → Option (List PyData)} : callU n sem fs ρ = (fs ρ).bind fun ds => if ds.length = n then sem ds else none := rfl
@[simp] theorem e_isiF {T : String} : isiF T f ρ = (f ρ).map fun d => .bool (isiS (tyN d) T) := rfl
@[simp] theorem e_yesT : yesT ρ = some true := rfl
@[simp] theorem e_setN {i : Nat} {d : PyData} : setN i d ρ = some (ρ.set i (.dat d)) := rfl
@[simp] theorem e_stepC {g : PyData → Dn → Option Dn} {tt : Dn → Option Bool} {te : DF} {x : PyData} : stepC g tt te ρ x = (g x ρ).bind fun ρ2 => (tt ρ2).bind fun b => if b = true then (te ρ2).map some else some none := rfl
@[simp] theorem e_wipe0 : wipeE ρ [] = ρ := rfl
@[simp] theorem e_wipeS {v : Nat} {vs : List Nat} : wipeE ρ (v :: vs) = (wipeE ρ vs).set v .na := rfl
/-- the items of a comprehension, over what they are made of -/
def compA (l : List α) (F : α → Option (Option PyData)) : Option (List PyData) := l.foldr (fun x r => (F x).bind fun o => r.bind fun ys => some (o.toList ++ ys)) (some [])
theorem compA_congr {l l' : List α} {F G : α → Option (Option PyData)} (e : l = l') (h : ∀ x, x ∈ l' → F x = G x) : compA l F = compA l' G := by
  subst e
  induction l with
  | nil => rfl
  | cons x l ih =>
    show (F x).bind _ = (G x).bind _
    rw [h x List.mem_cons_self]
    congr
    funext o
    show (compA l F).bind _ = (compA l G).bind _
    rw [ih fun y hy => h y (List.mem_cons_of_mem _ hy)]
@[simp] theorem compA_guard {l : List α} {P : α → Prop} [DecidablePred P] {F G : α → Option (Option PyData)} (h : ∀ x, x ∈ l → P x) : (compA l fun x => if P x then F x else G x) = compA l F := compA_congr rfl fun x hx => if_pos (h x hx)
@[simp] theorem compA_guard2 {l : List α} {P Q : α → Prop} [DecidablePred P] [DecidablePred Q] {F G K : α → Option (Option PyData)} (h : ∀ x, x ∈ l → P x) : (compA l fun x => if Q x then (if P x then F x else G x) else K x) = compA l fun x => if Q x then F x else K x := compA_congr rfl fun x hx => by rw [if_pos (h x hx)]
@[simp] theorem compA_guard3 {l : List α} {P Q : α → Prop} [DecidablePred P] [DecidablePred Q] {F G K : α → Option (Option PyData)} (h : ∀ x, x ∈ l → P x) : (compA l fun x => if Q x then K x else (if P x then F x else G x)) = compA l fun x => if Q x then K x else F x := compA_congr rfl fun x hx => by rw [if_pos (h x hx)]
theorem compM_A {h : PyData → Option (Option PyData)} : ∀ xs : List PyData, compM h xs = compA xs h
  | [] => rfl
  | x :: xs => by
    show (h x).bind _ = (h x).bind _
    congr
    funext o
    rw [compM_A xs]
    rfl
@[simp] theorem e_lcL {fi : Dn → Option (List PyData)} {g : PyData → Dn → Option Dn} {tt : Dn → Option Bool} {te : DF} {vs : List Nat} : lcL fi g tt te vs ρ = (fi ρ).bind fun xs => if xs.length < 1000000 then (compA xs fun x => (g x (wipeE ρ vs)).bind fun ρ2 => (tt ρ2).bind fun b => if b = true then (te ρ2).map some else some none) else none := by
  show (fi ρ).bind _ = _
  congr
  funext xs
  rw [compM_A]
  rfl
@[simp] theorem compA_map {β : Type} {g : α → β} {F : β → Option (Option PyData)} : ∀ {l : List α}, compA (l.map g) F = compA l fun x => F (g x)
  | [] => rfl
  | x :: l => by
    show (F (g x)).bind _ = (F (g x)).bind _
    congr
    funext o
    show (compA (l.map g) F).bind _ = _
    rw [compA_map]
    rfl
@[simp] theorem compA_all {m : α → PyData} : ∀ {l : List α}, (compA l fun x => some (some (m x))) = some (l.map m)
  | [] => rfl
  | x :: l => by
    show (compA l _).bind _ = _
    rw [compA_all]
    rfl
@[simp] theorem compA_if {p : α → Prop} [DecidablePred p] {m : α → PyData} : ∀ {l : List α}, (compA l fun x => if p x then some (some (m x)) else some none) = some ((l.filter fun x => decide (p x)).map m)
  | [] => rfl
  | x :: l => by
    show Option.bind (if p x then some (some (m x)) else some none) (fun o => (compA l fun x => if p x then some (some (m x)) else some none).bind fun ys => some (o.toList ++ ys)) = _
    rw [compA_if, List.filter_cons]
    by_cases h : p x
    · rw [if_pos h, if_pos (decide_eq_true h)]
      rfl
    · rw [if_neg h, if_neg (by rw [decide_eq_false h]; exact Bool.false_ne_true)]
      rfl
/-- what a def hands back -/
def finR : Res → Option PyData
  | .rt d => some d
  | .nx _ => some .none
  | _ => none
@[simp] theorem finR_rt {d : PyData} : finR (.rt d) = some d := rfl
@[simp] theorem finR_nx {ρ : Dn} : finR (.nx ρ) = some .none := rfl
@[simp] theorem e_semZ {N : Nat} {g : SF} {ds : List PyData} : semZ N g ds = (g (startD N ds)).bind finR := by
  unfold semZ
  congr
/-- what follows -/
def seqR (b : SF) : Res → Option Res
  | .nx ρ' => b ρ'
  | .rt d => some (.rt d)
  | .bk ρ' => some (.bk ρ')
  | .ct ρ' => some (.ct ρ')
@[simp] theorem seqR_nx {b : SF} {ρ : Dn} : seqR b (.nx ρ) = b ρ := rfl
@[simp] theorem seqR_rt {b : SF} {d : PyData} : seqR b (.rt d) = some (.rt d) := rfl
@[simp] theorem seqR_bk {b : SF} {ρ : Dn} : seqR b (.bk ρ) = some (.bk ρ) := rfl
@[simp] theorem seqR_ct {b : SF} {ρ : Dn} : seqR b (.ct ρ) = some (.ct ρ) := rfl
@[simp] theorem ite_bind {α β : Type} {c : Prop} [Decidable c] {x y : Option α} {g : α → Option β} : (if c then x else y).bind g = if c then x.bind g else y.bind g := by
  split <;> rfl
@[simp] theorem ite_mapO {α β : Type} {c : Prop} [Decidable c] {x y : Option α} {g : α → β} : (if c then x else y).map g = if c then x.map g else y.map g := by
  split <;> rfl
@[simp] theorem e_sNil : sNil ρ = some (.nx ρ) := rfl
@[simp] theorem e_sRet : sRet f ρ = (f ρ).bind fun d => some (.rt d) := rfl
@[simp] theorem e_sSet {i : Nat} : sSet i f ρ = (f ρ).bind fun d => some (.nx (ρ.set i (.dat d))) := rfl
@[simp] theorem e_sOwn {i : Nat} {g : Dn → Option (List PyData)} : sOwn i g ρ = (g ρ).bind fun d => some (.nx (ρ.set i (.own d))) := rfl
@[simp] theorem e_sIf {g : Dn → Option Bool} {a b : SF} : sIf g a b ρ = (g ρ).bind fun k => if k = true then a ρ else b ρ := rfl
@[simp] theorem e_sSeq {a b : SF} : sSeq a b ρ = (a ρ).bind (seqR b) := by
  unfold sSeq
  congr
@[simp] theorem e_start {N : Nat} {ds : List PyData} : startD N ds = ds.map .dat ++ List.replicate (N - ds.length) .na := rfl
@[simp] theorem e_gI {h : Int → Int → PyData} {d e : PyData} : gI h d e = (toI d).bind fun i => (toI e).bind fun j => some (h i j) := rfl
@[simp] theorem e_gIsN {d : PyData} : gIsN d .none = some (.bool (isNone d)) := rfl
@[simp] theorem e_gNotN {d : PyData} : gNotN d .none = some (.bool (!isNone d)) := rfl
@[simp] theorem e_eq_nats (x y : Nat) : gEq (ni x) (ni y) = some (.bool (decide (x = y))) := eq_nats x y
@[simp] theorem e_ne_nats (x y : Nat) : gNe (ni x) (ni y) = some (.bool (!decide (x = y))) := ne_nats x y
@[simp] theorem e_gEq_int (i j : Int) : gEq (.int i) (.int j) = some (.bool (i == j)) := gEq_int i j
@[simp] theorem e_gNe_int (i j : Int) : gNe (.int i) (.int j) = some (.bool (!(i == j))) := gNe_int i j
@[simp] theorem e_gEq_bool (i j : Bool) : gEq (.bool i) (.bool j) = some (.bool (i == j)) := gEq_bool i j
@[simp] theorem e_gNe_bool (i j : Bool) : gNe (.bool i) (.bool j) = some (.bool (!(i == j))) := gNe_bool i j
@[simp] theorem e_gEq_str (i j : Str) : gEq (.str i) (.str j) = some (.bool (i == j)) := gEq_str i j
@[simp] theorem e_gNe_str (i j : Str) : gNe (.str i) (.str j) = some (.bool (!(i == j))) := gNe_str i j
@[simp] theorem e_eq_lsts (i j : List Nat) : gEq (.list (i.map ni)) (.list (j.map ni)) = some (.bool (i == j)) := eq_lsts i j
@[simp] theorem e_eq_tups (i j : List Nat) : gEq (tupN i) (tupN j) = some (.bool (i == j)) := eq_tups i j
@[simp] theorem e_ne_lsts (i j : List Nat) : gNe (.list (i.map ni)) (.list (j.map ni)) = some (.bool (!(i == j))) := ne_lsts i j
@[simp] theorem e_ne_tups (i j : List Nat) : gNe (tupN i) (tupN j) = some (.bool (!(i == j))) := ne_tups i j
@[simp] theorem e_notin_eq (c : Nat) (l : List Nat) : gIn true (ni c) (tupN l) = some (.bool (!l.contains c)) := notin_eq c l
@[simp] theorem e_in_eq (c : Nat) (l : List Nat) : gIn false (ni c) (tupN l) = some (.bool (l.contains c)) := in_eq c l
@[simp] theorem e_lenT {xs : List PyData} : lenD [.tuple xs] = some (ni xs.length) := rfl
@[simp] theorem e_lenL {xs : List PyData} : lenD [.list xs] = some (ni xs.length) := rfl
@[simp] theorem e_lenN {xs : List Nat} : lenD [tupN xs] = some (ni xs.length) := by
  show some (ni (xs.map ni).length) = _
  rw [List.length_map]
@[simp] theorem e_len_tab {n : Nat} {b : Nat → Nat → Bool} : lenD [tabD n b] = some (ni n) := len_tab
@[simp] theorem e_fold (M : List Nat) : PyData.tuple (M.map ni) = tupN M := rfl
@[simp] theorem e_toTup {xs : List PyData} : toTup [.list xs] = some (.tuple xs) := rfl
theorem e_eqNil0 {xs : List PyData} : gEq (.tuple xs) (.tuple []) = some (.bool xs.isEmpty) := by
  have ev : PyData.eqv (.tuple xs) (.tuple []) = xs.isEmpty := by rw [eqv_nil]; cases xs <;> rfl
  unfold gEq
  rw [ev]
  split
  · rfl
  · rw [if_pos (by rfl)]
@[simp] theorem e_eqNilT {xs : List PyData} : gEq (.tuple xs) (.tuple []) = some (.bool xs.isEmpty) := e_eqNil0
@[simp] theorem e_eqNilN {xs : List Nat} : gEq (tupN xs) (.tuple []) = some (.bool xs.isEmpty) := e_eqNil0.trans (by cases xs <;> rfl)
@[simp] theorem e_neNilT {xs : List PyData} : gNe (.tuple xs) (.tuple []) = some (.bool (!xs.isEmpty)) := by
  have ev : PyData.eqv (.tuple xs) (.tuple []) = xs.isEmpty := by rw [eqv_nil]; cases xs <;> rfl
  unfold gNe
  rw [ev]
  split
  · rfl
  · rw [if_pos (by rfl)]
@[simp] theorem e_neNilN {xs : List Nat} : gNe (tupN xs) (.tuple []) = some (.bool (!xs.isEmpty)) := e_neNilT.trans (by cases xs <;> rfl)
@[simp] theorem e_eqNilL {xs : List PyData} : gEq (.list xs) (.list []) = some (.bool xs.isEmpty) := by
  have ev : PyData.eqv (.list xs) (.list []) = xs.isEmpty := by rw [eqv_nilL]; cases xs <;> rfl
  unfold gEq
  rw [ev]
  split
  · rfl
  · rw [if_pos (by rfl)]
@[simp] theorem e_neNilL {xs : List PyData} : gNe (.list xs) (.list []) = some (.bool (!xs.isEmpty)) := by
  have ev : PyData.eqv (.list xs) (.list []) = xs.isEmpty := by rw [eqv_nilL]; cases xs <;> rfl
  unfold gNe
  rw [ev]
  split
  · rfl
  · rw [if_pos (by rfl)]
@[simp] theorem e_enumI : enumI f ρ = (f ρ).bind fun d => (seqS d).map enumD := rfl
@[simp] theorem e_seqT {xs : List PyData} : seqS (.tuple xs) = some xs := rfl
@[simp] theorem e_seqL {xs : List PyData} : seqS (.list xs) = some xs := rfl
@[simp] theorem e_seqN {xs : List Nat} : seqS (tupN xs) = some (xs.map ni) := rfl
@[simp] theorem e_enumL {ds : List PyData} : (enumD ds).length = ds.length := enumD_len ds
theorem enum_range (ds : List PyData) : enumD ds = (List.range ds.length).map fun j => .tuple [ni j, ds.getD j .none] := by
  apply List.ext_getElem?
  intro j
  unfold enumD
  rw [List.getElem?_mapIdx, List.getElem?_map]
  by_cases h : j < ds.length
  · rw [List.getElem?_range h, List.getElem?_eq_getElem h]
    simp [ni, h]
  · rw [List.getElem?_eq_none (by omega), List.getElem?_eq_none (by rw [List.length_range]; omega)]
    rfl
@[simp] theorem compA_enum {ds : List PyData} {F : PyData → Option (Option PyData)} : compA (enumD ds) F = compA (List.range ds.length) fun j => F (.tuple [ni j, ds.getD j .none]) := by
  rw [enum_range, compA_map]
@[simp] theorem e_setT {i j : Nat} {x y : PyData} : setT [i, j] (.tuple [x, y]) ρ = some ((ρ.set i (.dat x)).set j (.dat y)) := rfl
@[simp] theorem e_rng1I : rng1I f ρ = (f ρ).bind fun d => (toI d).bind fun j => if okR j then some (rngD 0 j.toNat) else none := rfl
@[simp] theorem e_okR {m : Nat} : okR (m : Int) = decide (m ≤ 1000000) := by
  unfold okR
  rw [decide_eq_decide]
  omega
@[simp] theorem e_okR_0 : okR 0 = true := rfl
@[simp] theorem e_okR_1 : okR 1 = true := rfl
@[simp] theorem e_okR_2 : okR 2 = true := rfl
@[simp] theorem e_okR_3 : okR 3 = true := rfl
@[simp] theorem e_okR_4 : okR 4 = true := rfl
@[simp] theorem e_okR_5 : okR 5 = true := rfl
@[simp] theorem e_okR_6 : okR 6 = true := rfl
@[simp] theorem e_okR_7 : okR 7 = true := rfl
@[simp] theorem e_okR_8 : okR 8 = true := rfl
@[simp] theorem e_okR_9 : okR 9 = true := rfl
@[simp] theorem e_okR_10 : okR 10 = true := rfl
@[simp] theorem e_okR_11 : okR 11 = true := rfl
@[simp] theorem e_okR_12 : okR 12 = true := rfl
@[simp] theorem e_okR_13 : okR 13 = true := rfl
@[simp] theorem e_okR_14 : okR 14 = true := rfl
@[simp] theorem e_okR_15 : okR 15 = true := rfl
@[simp] theorem e_okR_16 : okR 16 = true := rfl
@[simp] theorem e_okR_17 : okR 17 = true := rfl
@[simp] theorem e_okR_18 : okR 18 = true := rfl
@[simp] theorem e_okR_19 : okR 19 = true := rfl
@[simp] theorem e_okR_20 : okR 20 = true := rfl
@[simp] theorem e_okR_21 : okR 21 = true := rfl
@[simp] theorem e_okR_22 : okR 22 = true := rfl
@[simp] theorem e_okR_23 : okR 23 = true := rfl
@[simp] theorem e_okR_24 : okR 24 = true := rfl
@[simp] theorem e_okR_25 : okR 25 = true := rfl
@[simp] theorem e_okR_26 : okR 26 = true := rfl
@[simp] theorem e_okR_27 : okR 27 = true := rfl
@[simp] theorem e_okR_28 : okR 28 = true := rfl
@[simp] theorem e_okR_29 : okR 29 = true := rfl
@[simp] theorem e_okR_30 : okR 30 = true := rfl
@[simp] theorem e_okR_40 : okR 40 = true := rfl
@[simp] theorem e_okR_60 : okR 60 = true := rfl
@[simp] theorem e_okR_63 : okR 63 = true := rfl
@[simp] theorem e_okR_64 : okR 64 = true := rfl
@[simp] theorem e_rngD {m : Nat} : rngD 0 m = (List.range m).map ni := rngD0 m
@[simp] theorem e_ix0T {x : PyData} {xs : List PyData} : ixD (.tuple (x :: xs)) (.int 0) = some x := by
  show atI (x :: xs) ((0 : Nat) : Int) = _
  exact atI_nat rfl
@[simp] theorem e_ix1T {x y : PyData} {xs : List PyData} : ixD (.tuple (x :: y :: xs)) (.int 1) = some y := by
  show atI (x :: y :: xs) ((1 : Nat) : Int) = _
  exact atI_nat rfl
@[simp] theorem e_ix0L {x : PyData} {xs : List PyData} : ixD (.list (x :: xs)) (.int 0) = some x := by
  show atI (x :: xs) ((0 : Nat) : Int) = _
  exact atI_nat rfl
@[simp] theorem e_ix1L {x y : PyData} {xs : List PyData} : ixD (.list (x :: y :: xs)) (.int 1) = some y := by
  show atI (x :: y :: xs) ((1 : Nat) : Int) = _
  exact atI_nat rfl
theorem e_ixT {xs : List PyData} {i : Nat} (h : i < xs.length) : ixD (.tuple xs) (ni i) = some (xs.getD i .none) := atI_nat (by
  rw [List.getElem?_eq_getElem h]
  simp [h])
theorem e_ixL {xs : List PyData} {i : Nat} (h : i < xs.length) : ixD (.list xs) (ni i) = some (xs.getD i .none) := atI_nat (by
  rw [List.getElem?_eq_getElem h]
  simp [h])
theorem sem_end {N : Nat} {g : SF} {ds : List PyData} {d : PyData} (e : g (startD N ds) = some (.rt d)) : semZ N g ds = some d := sem_of e
@[simp] theorem sgn_plus {b : Nat → Nat → Bool} {i j : Nat} : ((⟨#[sgn b i j]⟩ : Str) = Str.ofString "+") ↔ bt b i j = true := by
  have : ∀ c : Nat, ((⟨#[c]⟩ : Str) = Str.ofString "+") ↔ c = 43 := fun c => by
    rw [show Str.ofString "+" = (⟨#[43]⟩ : Str) by decide +kernel]
    simp
  rw [this]
  unfold sgn bt
  by_cases h : i = j
  · simp [h]
  · cases hb : b i j <;> simp [h]
@[simp] theorem sgn_minus {b : Nat → Nat → Bool} {i j : Nat} : ((⟨#[sgn b i j]⟩ : Str) = Str.ofString "-") ↔ (i ≠ j ∧ b i j = false) := by
  have : ∀ c : Nat, ((⟨#[c]⟩ : Str) = Str.ofString "-") ↔ c = 45 := fun c => by
    rw [show Str.ofString "-" = (⟨#[45]⟩ : Str) by decide +kernel]
    simp
  rw [this]
  unfold sgn
  by_cases h : i = j
  · simp [h]
  · cases hb : b i j <;> simp [h]
@[simp] theorem e_eqNI (x : Nat) (i : Int) : gEq (ni x) (.int i) = some (.bool (decide ((x : Int) = i))) := (gEq_int _ _).trans (by congr 2)
@[simp] theorem e_eqIN (x : Nat) (i : Int) : gEq (.int i) (ni x) = some (.bool (decide (i = (x : Int)))) := (gEq_int _ _).trans (by congr 2)
@[simp] theorem e_neNI (x : Nat) (i : Int) : gNe (ni x) (.int i) = some (.bool (!decide ((x : Int) = i))) := (gNe_int _ _).trans (by congr 3)
@[simp] theorem e_neIN (x : Nat) (i : Int) : gNe (.int i) (ni x) = some (.bool (!decide (i = (x : Int)))) := (gNe_int _ _).trans (by congr 3)
@[simp] theorem ite_sel1 {a c : Prop} [Decidable a] [Decidable c] {x : PyData} : (if a then (if c then some (some x) else some none) else some none) = if a ∧ c then some (some x) else some none := by
  by_cases h : a <;> simp [h]
@[simp] theorem ite_sel2 {a c : Prop} [Decidable a] [Decidable c] {x : PyData} : (if a then some none else (if c then some (some x) else some none)) = if ¬ a ∧ c then some (some x) else some none := by
  by_cases h : a <;> simp [h]
@[simp] theorem ite_sel3 {a : Prop} [Decidable a] {x : PyData} : (if a then some none else some (some x)) = if ¬ a then some (some x) else some none := by
  by_cases h : a <;> simp [h]
@[simp] theorem e_tyNone : tyN .none = "NoneType" := rfl
@[simp] theorem e_tyBool {c : Bool} : tyN (.bool c) = "bool" := rfl
@[simp] theorem e_tyInt {i : Int} : tyN (.int i) = "int" := rfl
@[simp] theorem e_tyNi {i : Nat} : tyN (ni i) = "int" := rfl
@[simp] theorem e_tyStr {x : Str} : tyN (.str x) = "str" := rfl
@[simp] theorem e_tyList {xs : List PyData} : tyN (.list xs) = "list" := rfl
@[simp] theorem e_tyTup {xs : List PyData} : tyN (.tuple xs) = "tuple" := rfl
@[simp] theorem e_tyTupN {xs : List Nat} : tyN (tupN xs) = "tuple" := rfl
@[simp] theorem e_tyDict {xs : List (PyData × PyData)} : tyN (.dict xs) = "dict" := rfl
@[simp] theorem e_isiS {a T : String} : isiS a T = (a == T || (a == "bool" && T == "int")) := rfl
@[simp] theorem e_tupI {g : Dn → Option (List PyData)} : tupI g ρ = (g ρ).map .tuple := rfl
@[simp] theorem e_negF : negF f ρ = (f ρ).bind fun d => (toI d).map fun i => .int (-i) := rfl
@[simp] theorem e_gIC {c : Int → Int → Bool} {h : Int → Int → PyData} {d e : PyData} : gIC c h d e = (toI d).bind fun i => (toI e).bind fun j => if c i j = true then some (h i j) else none := rfl
@[simp] theorem e_cPow {i j : Int} : cPow i j = decide (0 ≤ j ∧ j ≤ 1000 ∧ i.natAbs < 2 ^ 64) := rfl
@[simp] theorem e_cMul {i j : Int} : cMul i j = (decide (-(2 ^ 64) < i ∧ i < 2 ^ 64) || decide (-(2 ^ 64) < j ∧ j < 2 ^ 64)) := rfl
@[simp] theorem e_cPos {i j : Int} : cPos i j = decide (0 < j) := rfl
@[simp] theorem e_noP : noP ρ = some none := rfl
@[simp] theorem e_someP : someP f ρ = (f ρ).bind fun d => (toI d).map some := rfl
@[simp] theorem e_sliceF {fl fh : Dn → Option (Option Int)} : sliceF f fl fh ρ = (f ρ).bind fun d => (fl ρ).bind fun l => (fh ρ).bind fun h => sliceD d l h := rfl
@[simp] theorem e_sliceT {xs : List PyData} {l h : Option Int} : sliceD (.tuple xs) l h = some (.tuple (cutD xs l h)) := rfl
@[simp] theorem e_sliceL {xs : List PyData} {l h : Option Int} : sliceD (.list xs) l h = some (.list (cutD xs l h)) := rfl
@[simp] theorem e_cutTo {xs : List PyData} {j : Nat} : cutD xs none (some (j : Int)) = xs.take j := cut_to xs j
@[simp] theorem e_cutFrom {xs : List PyData} {j : Nat} : cutD xs (some (j : Int)) none = xs.drop j := cut_from xs j
@[simp] theorem e_cutFrom1 {xs : List PyData} {j : Nat} : cutD xs (some ((j : Int) + 1)) none = xs.drop (j + 1) := cut_from xs (j + 1)
@[simp] theorem e_cut1 {xs : List PyData} : cutD xs (some 1) none = xs.drop 1 := cut_from xs 1
@[simp] theorem e_cut2 {xs : List PyData} : cutD xs (some 2) none = xs.drop 2 := cut_from xs 2
@[simp] theorem e_cutTo1 {xs : List PyData} : cutD xs none (some 1) = xs.take 1 := cut_to xs 1
@[simp] theorem e_cutTo2 {xs : List PyData} : cutD xs none (some 2) = xs.take 2 := cut_to xs 2
@[simp] theorem e_cutLast {xs : List PyData} : cutD xs (some (-1)) none = xs.drop (xs.length - 1) := cut_last xs
@[simp] theorem e_cutInit {xs : List PyData} : cutD xs none (some (-1)) = xs.take (xs.length - 1) := by
  unfold cutD
  rw [HT.sIx_none]
  have : HT.sIx xs.length xs.length (some (-1)) = xs.length - 1 := by
    unfold HT.sIx
    simp
    omega
  rw [this, List.drop_zero, Nat.sub_zero]
@[simp] theorem e_toLstT {xs : List PyData} : toLst [.tuple xs] = some (.list xs) := rfl
@[simp] theorem e_toLstL {xs : List PyData} : toLst [.list xs] = some (.list xs) := rfl
@[simp] theorem e_toLstN {M : List Nat} : toLst [tupN M] = some (.list (M.map ni)) := rfl
@[simp] theorem e_toTupT {xs : List PyData} : toTup [.tuple xs] = some (.tuple xs) := rfl
@[simp] theorem e_toTupN {M : List Nat} : toTup [tupN M] = some (tupN M) := rfl
@[simp] theorem e_gAddNT {M : List Nat} {ys : List PyData} : gAdd (tupN M) (.tuple ys) = if M.length + ys.length < 1000000 then some (.tuple (M.map ni ++ ys)) else none := by
  show (if (M.map ni).length + ys.length < 1000000 then _ else _) = _
  rw [List.length_map]
@[simp] theorem e_gAddTN {M : List Nat} {ys : List PyData} : gAdd (.tuple ys) (tupN M) = if ys.length + M.length < 1000000 then some (.tuple (ys ++ M.map ni)) else none := by
  show (if ys.length + (M.map ni).length < 1000000 then _ else _) = _
  rw [List.length_map]
@[simp] theorem e_gAddNN {M N : List Nat} : gAdd (tupN M) (tupN N) = if M.length + N.length < 1000000 then some (tupN (M ++ N)) else none := by
  show (if (M.map ni).length + (N.map ni).length < 1000000 then _ else _) = _
  rw [List.length_map, List.length_map, ← List.map_append]
  rfl
@[simp] theorem e_intB {c : Bool} : intD [.bool c] = some (.int (if c = true then 1 else 0)) := rfl
@[simp] theorem e_intI {i : Int} : intD [.int i] = some (.int i) := rfl
@[simp] theorem e_intN {i : Nat} : intD [ni i] = some (ni i) := rfl
@[simp] theorem e_gAddI {i j : Int} : gAdd (.int i) (.int j) = some (.int (i + j)) := rfl
@[simp] theorem e_gAddN {i : Nat} {j : Int} : gAdd (ni i) (.int j) = some (.int (i + j)) := rfl
@[simp] theorem e_gAddT {xs ys : List PyData} : gAdd (.tuple xs) (.tuple ys) = if xs.length + ys.length < 1000000 then some (.tuple (xs ++ ys)) else none := rfl
@[simp] theorem e_gAddL {xs ys : List PyData} : gAdd (.list xs) (.list ys) = if xs.length + ys.length < 1000000 then some (.list (xs ++ ys)) else none := rfl
@[simp] theorem ni_inj {i j : Nat} : ni i = ni j ↔ i = j := by
  unfold ni
  simp
  omega
@[simp] theorem tupN_inj {M N : List Nat} : tupN M = tupN N ↔ M = N := by
  unfold tupN
  constructor
  · intro h
    have h : M.map ni = N.map ni := by injection h
    exact (List.map_inj_right (fun x y h => ni_inj.mp h)).mp h
  · intro h
    rw [h]
@[simp] theorem ite_some2 {a : Prop} [Decidable a] {x y : PyData} : (if a then some (some x) else some (some y)) = some (some (if a then x else y)) := by
  by_cases h : a <;> simp [h]
end
end DS
set_option maxHeartbeats 4000000
namespace DS
open PySem PySem.Spec PyProof.Rows L2
/-! ### readings with draws, by simp -/
section
variable {ρ : Dn} {n : Nat} {Q : PyData → Dn → Nat → Prop} {QB : Bool → Dn → Nat → Prop} {QA : List PyData → Dn → Nat → Prop} {f : DF} {T Ta Tb : TXP} {B Ba Bb : TXB} {R : TXA} {DD : EnD} {U V : TD}
@[simp] theorem ex_two {α β : Type} {a : α} {b : β} {P : α → β → Prop} : (∃ x y, (a = x ∧ b = y) ∧ P x y) ↔ P a b := ⟨fun ⟨_, _, ⟨e1, e2⟩, h⟩ => by subst e1 e2; exact h, fun h => ⟨_, _, ⟨rfl, rfl⟩, h⟩⟩
@[simp] theorem w_F : xF f ρ n Q ↔ ∃ d, f ρ = some d ∧ Q d ρ n := Iff.rfl
@[simp] theorem w_B : xB T ρ n QB ↔ T ρ n fun d ρ' n' => ∃ b, d = .bool b ∧ QB b ρ' n' := Iff.rfl
@[simp] theorem w_Nil : xNil ρ n QA ↔ QA [] ρ n := Iff.rfl
@[simp] theorem w_Cons : xCons T R ρ n QA ↔ T ρ n fun d ρ1 n1 => R ρ1 n1 fun ds ρ2 n2 => QA (d :: ds) ρ2 n2 := Iff.rfl
@[simp] theorem w_Tup : xTup R ρ n Q ↔ R ρ n fun ds ρ1 n1 => ds.length < 1000000 ∧ Q (.tuple ds) ρ1 n1 := Iff.rfl
@[simp] theorem w_Lst : xLst R ρ n Q ↔ R ρ n fun ds ρ1 n1 => ds.length < 1000000 ∧ Q (.list ds) ρ1 n1 := Iff.rfl
@[simp] theorem w_Call {g : List PyData → Option PyData} : xCall g R ρ n Q ↔ R ρ n fun ds ρ1 n1 => ∃ c, g ds = some c ∧ Q c ρ1 n1 := Iff.rfl
@[simp] theorem w_Draw {i m : Nat} {W : WD} : xDraw i m W R ρ n Q ↔ getK i ρ ∧ R ρ n fun ds ρ1 n1 => ds.length = m ∧ W ds n1 fun d n2 => Q d ρ1 n2 := Iff.rfl
@[simp] theorem w_x2 {g : PyData → PyData → Option PyData} : x2 g Ta Tb ρ n Q ↔ Ta ρ n fun x ρ1 n1 => Tb ρ1 n1 fun y ρ2 n2 => ∃ c, g x y = some c ∧ Q c ρ2 n2 := Iff.rfl
@[simp] theorem w_getK0 : getK 0 (.dk :: ρ) := rfl
@[simp] theorem w_getKs {i : Nat} {e : Ent} : getK (i + 1) (e :: ρ) ↔ getK i ρ := Iff.rfl
@[simp] theorem w_dNil : dNil DD ρ n ↔ DD.nx ρ n := Iff.rfl
@[simp] theorem w_dSeq : dSeq U V DD ρ n ↔ U { DD with nx := fun ρ' n' => V DD ρ' n' } ρ n := Iff.rfl
@[simp] theorem w_dRet : dRet f DD ρ n ↔ ∃ d, f ρ = some d ∧ DD.rt d n := Iff.rfl
@[simp] theorem w_dSet {i : Nat} : dSet i f DD ρ n ↔ ∃ d, f ρ = some d ∧ DD.nx (ρ.set i (.dat d)) n := Iff.rfl
@[simp] theorem w_dOwn {i : Nat} {f : Dn → Option (List PyData)} : dOwn i f DD ρ n ↔ ∃ ds, f ρ = some ds ∧ DD.nx (ρ.set i (.own ds)) n := Iff.rfl
@[simp] theorem w_dPar {i j : Nat} {g : Dn → Option (List PyData)} : dPar i j g DD ρ n ↔ ∃ x y, g ρ = some [x, y] ∧ DD.nx ((ρ.set i (.dat x)).set j (.dat y)) n := Iff.rfl
@[simp] theorem w_dIf {g : Dn → Option Bool} : dIf g U V DD ρ n ↔ ∃ b, g ρ = some b ∧ if b = true then U DD ρ n else V DD ρ n := Iff.rfl
@[simp] theorem w_dApp {i : Nat} : dApp i f DD ρ n ↔ ∃ ds d, getO i ρ = some ds ∧ f ρ = some d ∧ ds.length < 1000000 ∧ DD.nx (ρ.set i (.own (ds ++ [d]))) n := Iff.rfl
@[simp] theorem w_dRetX : dRetX T DD ρ n ↔ T ρ n fun d _ n' => DD.rt d n' := Iff.rfl
@[simp] theorem w_dSetX {i : Nat} : dSetX i T DD ρ n ↔ T ρ n fun d ρ' n' => DD.nx (ρ'.set i (.dat d)) n' := Iff.rfl
@[simp] theorem w_dParX {i j : Nat} : dParX i j R DD ρ n ↔ R ρ n fun ds ρ1 n1 => ∃ x y, ds = [x, y] ∧ DD.nx ((ρ1.set i (.dat x)).set j (.dat y)) n1 := Iff.rfl
@[simp] theorem w_startK {N : Nat} {ds : List PyData} : startK N ds = .dk :: (ds.map .dat ++ List.replicate (N - 1 - ds.length) .na) := rfl
/-- for over a list that is known -/
theorem for_of {α : Type} {fi : Dn → Option (List PyData)} {g : PyData → Dn → Option Dn} {l : List α} {h : α → PyData} (e : fi ρ = some (l.map h)) (I : Nat → Dn → Nat → Prop) (h0 : I 0 ρ n)
    (hs : ∀ i (hi : i < l.length) ρ' n', I i ρ' n' → ∃ ρ2, g (h l[i]) ρ' = some ρ2 ∧ U { nx := I (i + 1), ct := I (i + 1), bk := DD.nx, rt := DD.rt } ρ2 n') (hend : ∀ ρ' n', I l.length ρ' n' → DD.nx ρ' n') : dFor fi g U DD ρ n := by
  refine ⟨_, e, I, h0, fun i x ρ' n' ex hI => ?_, fun ρ' n' hI => hend ρ' n' (by rwa [List.length_map] at hI)⟩
  rw [List.getElem?_map] at ex
  obtain ⟨y, hy, rfl⟩ := Option.map_eq_some_iff.mp ex
  obtain ⟨hi, rfl⟩ := List.getElem?_eq_some_iff.mp hy
  exact hs i hi ρ' n' hI
/-- for over range(m) -/
theorem for_rng {fi : Dn → Option (List PyData)} {g : PyData → Dn → Option Dn} {m : Nat} (e : fi ρ = some ((List.range m).map ni)) (I : Nat → Dn → Nat → Prop) (h0 : I 0 ρ n)
    (hs : ∀ i ρ' n', i < m → I i ρ' n' → ∃ ρ2, g (ni i) ρ' = some ρ2 ∧ U { nx := I (i + 1), ct := I (i + 1), bk := DD.nx, rt := DD.rt } ρ2 n') (hend : ∀ ρ' n', I m ρ' n' → DD.nx ρ' n') : dFor fi g U DD ρ n := by
  refine for_of e I h0 (fun i hi ρ' n' hI => ?_) fun ρ' n' hI => hend ρ' n' (by rwa [List.length_range] at hI)
  rw [List.length_range] at hi
  rw [List.getElem_range]
  exact hs i ρ' n' hi hI
end
end DS
set_option maxHeartbeats 4000000
namespace DS
open PySem PySem.Spec PyProof.Rows L2
/-! ### sizes of values, composed -/
theorem av_text {c k B : Nat} (s : String) (h : s.length ≤ B) : AV c k B (.str (Str.ofString s)) := by
  refine ⟨?_, by simp [PyData.depth], ?_⟩
  · simp only [okI, List.all_eq_true, decide_eq_true_eq]
    intro q hq
    rw [PySem.Str.ofString_eq_toList] at hq
    simp at hq
    obtain ⟨ch, _, rfl⟩ := hq
    have := ch.valid
    have h2 : ch.toNat < 0x110000 := by
      have := ch.valid
      have e : ch.toNat = ch.val.toNat := rfl
      rcases this with h | ⟨_, h⟩
      · have : ch.val.toNat < 0xd800 := h
        omega
      · have : ch.val.toNat < 0x110000 := h
        omega
    exact h2
  · simp only [PyData.bulk]
    have := PySem.ofString_length s
    exact Nat.le_trans (Nat.le_of_eq this) h
theorem av_num {c k : Nat} {i : Int} (hc : c ≤ 1000) (h : i.natAbs ≤ 10 ^ 29 + c) : AV c k 31 (.str (Str.ofString (toString i))) := av_text _ (int_text_length_le10 (k := 30) (by decide) (int_ok hc h))
theorem AV.take {c k B : Nat} {ys : List PyData} (h : AV c (k + 1) B (.tuple ys)) (j : Nat) : AV c (k + 1) B (.tuple (ys.take j)) := by
  have h1 := AV.tup.mp h
  refine AV.tup.mpr ⟨fun y hy => h1.1 y (List.mem_of_mem_take hy), ?_⟩
  have := bsum_app (ys.take j) (ys.drop j)
  rw [List.take_append_drop] at this
  omega
theorem AV.nil {c k B : Nat} : AV c (k + 1) B (.tuple []) := AV.tup.mpr ⟨fun y hy => (nomatch hy), Nat.zero_le _⟩
theorem AV.consT {c k B B' : Nat} {x : PyData} {xs : List PyData} (h : AV c k B x) (h' : AV c (k + 1) B' (.tuple xs)) : AV c (k + 1) (B + 1 + B') (.tuple (x :: xs)) := by
  have h2 := AV.tup.mp h'
  refine AV.tup.mpr ⟨fun y hy => (List.mem_cons.mp hy).elim (fun e => by rw [e]; exact ⟨h.ok, h.dp⟩) (h2.1 y), ?_⟩
  have := h.bk
  simp only [bsum]
  omega
theorem AV.all {c k B : Nat} {xs : List PyData} (h : ∀ x ∈ xs, AV c k B x) : AV c (k + 1) (xs.length * (B + 1)) (.tuple xs) := by
  induction xs with
  | nil => exact AV.nil
  | cons x xs ih => exact ((h x List.mem_cons_self).consT (ih fun y hy => h y (List.mem_cons_of_mem _ hy))).up (Nat.le_refl _) (Nat.le_refl _) (by rw [List.length_cons, Nat.add_mul]; omega)
theorem av_nats {c k n m : Nat} {M : List Nat} (h : ∀ x ∈ M, x < n) (hn : n ≤ 1000) (hm : M.length ≤ m) : AV c (k + 1) m (tupN M) := by
  refine (AV.all (c := c) (k := k) (B := 0) fun x hx => ?_).up (Nat.le_refl _) (Nat.le_refl _) (by rw [List.length_map]; omega)
  obtain ⟨y, hy, rfl⟩ := List.mem_map.mp hx
  have := h y hy
  exact av_nat (by omega)
@[simp] theorem e_frz0 {ds : List PyData} {l : Dn} : frzO 0 (.own ds :: l) = some (.dat (.list ds) :: l) := rfl
@[simp] theorem e_frz0d {d : PyData} {l : Dn} : frzO 0 (.dat d :: l) = none := rfl
@[simp] theorem e_frzs {i : Nat} {e : Ent} {l : Dn} : frzO (i + 1) (e :: l) = (frzO i l).map (e :: ·) := by
  unfold frzO
  rw [List.getElem?_cons_succ]
  cases h : l[i]? with
  | none => rfl
  | some x => cases x <;> rfl
@[simp] theorem e_frzD {i : Nat} {ρ : Dn} : frzD i ρ = (frzO i ρ).getD ρ := rfl
/-- a comprehension over range(m) whose test draws -/
theorem lcIf_rng {fi : Dn → Option (List PyData)} {g : PyData → Dn → Option Dn} {Tt : TXB} {T : TXP} {vs : List Nat} {m : Nat} {ρ : Dn} {n : Nat} {Q : PyData → Dn → Nat → Prop} (e : fi ρ = some ((List.range m).map ni)) (hm : m ≤ 1000) (I : Nat → List PyData → Dn → Nat → Prop) (h0 : I 0 [] (wipeE ρ vs) n)
    (hs : ∀ i acc ρ' n', i < m → I i acc ρ' n' → ∃ ρ2, g (ni i) ρ' = some ρ2 ∧ Tt ρ2 n' fun b ρ3 n3 => if b = true then T ρ3 n3 fun d ρ4 n4 => I (i + 1) (acc ++ [d]) (wipeE ρ4 vs) n4 else I (i + 1) acc (wipeE ρ3 vs) n3) (hend : ∀ acc ρ' n', I m acc ρ' n' → acc.length ≤ m → Q (.list acc) ρ' n') : xLcIf fi g Tt T vs ρ n Q := by
  refine ⟨_, e, by rw [List.length_map, List.length_range]; show m < 1000000; omega, I, h0, fun i x acc ρ' n' ex hI => ?_, fun acc ρ' n' hI hl => ?_⟩
  · rw [List.getElem?_map] at ex
    obtain ⟨y, hy, rfl⟩ := Option.map_eq_some_iff.mp ex
    obtain ⟨hi, rfl⟩ := List.getElem?_eq_some_iff.mp hy
    rw [List.getElem_range]
    exact hs i acc ρ' n' (by simpa using hi) hI
  · rw [List.length_map, List.length_range] at hI hl
    exact hend acc ρ' n' hI hl
def joinL (d e : PyData) : Option (List PyData) := match d, e with
  | .list xs, .list ys => if xs.length + ys.length < 1000000 then some (xs ++ ys) else none
  | _, _ => none
@[simp] theorem e_addL {fa fb : DF} {ρ : Dn} : addL fa fb ρ = (fa ρ).bind fun d => (fb ρ).bind fun e => joinL d e := rfl
@[simp] theorem e_joinL {xs ys : List PyData} : joinL (.list xs) (.list ys) = if xs.length + ys.length < 1000000 then some (xs ++ ys) else none := rfl
@[simp] theorem e_addBT {xs ys : List PyData} : gAddB (.tuple xs) (.tuple ys) = if xs.length + ys.length < 1000000 then some (.tuple (xs ++ ys)) else none := rfl
@[simp] theorem e_addBI {i j : Int} : gAddB (.int i) (.int j) = some (.int (i + j)) := rfl
@[simp] theorem e_addBN {i : Nat} {j : Int} : gAddB (ni i) (.int j) = some (.int (i + j)) := rfl
@[simp] theorem e_addBB {c : Bool} {j : Int} : gAddB (.bool c) (.int j) = some (.int (b2i c + j)) := rfl
end DS
set_option maxHeartbeats 4000000
namespace DS
open PySem PySem.Spec PyProof.Rows L2
/-! ### dicts by what they hold -/
section
variable {κ : Type} [DecidableEq κ]
theorem valD_map (k j : κ) (d : PyData) : ∀ kds : List (κ × PyData), valD (kds.map fun p => if p.1 = k then (p.1, d) else p) j = if j = k then (valD kds k).map fun _ => d else valD kds j
  | [] => by simp [valD]
  | (k', d') :: kds => by
    have ih := valD_map k j d kds
    unfold valD at ih ⊢
    rw [List.map_cons]
    by_cases h1 : k' = k
    · subst h1
      by_cases h2 : j = k'
      · subst h2
        simp [List.find?_cons]
      · have h3 : ¬ k' = j := fun e => h2 e.symm
        rw [if_neg h2] at ih ⊢
        simp only [if_true, List.find?_cons, h3, decide_false] at ih ⊢
        exact ih
    · rw [if_neg h1]
      by_cases h2 : j = k
      · subst h2
        rw [if_pos rfl] at ih ⊢
        simp only [List.find?_cons, h1, decide_false]
        exact ih
      · rw [if_neg h2] at ih ⊢
        by_cases h3 : k' = j
        · simp [List.find?_cons, h3]
        · simp only [List.find?_cons, h3, decide_false]
          exact ih
theorem valD_any (k : κ) : ∀ kds : List (κ × PyData), (kds.any fun p => decide (p.1 = k)) = (valD kds k).isSome
  | [] => rfl
  | (k', d') :: kds => by
    have ih := valD_any k kds
    unfold valD at ih ⊢
    by_cases h : k' = k
    · simp [List.find?_cons, h]
    · simp only [List.any_cons, List.find?_cons, h, decide_false, Bool.false_or]
      exact ih
theorem valD_put (kds : List (κ × PyData)) (k j : κ) (d : PyData) : valD (putD kds k d) j = if j = k then some d else valD kds j := by
  unfold putD
  by_cases h : (kds.any fun p => decide (p.1 = k)) = true
  · rw [if_pos h, valD_map]
    rw [valD_any] at h
    obtain ⟨x, hx⟩ := Option.isSome_iff_exists.mp h
    rw [hx]
    rfl
  · rw [if_neg h]
    rw [valD_any] at h
    have hn : valD kds k = none := by
      cases e : valD kds k with
      | none => rfl
      | some x => rw [e] at h; exact absurd rfl h
    unfold valD at hn ⊢
    rw [List.find?_append]
    by_cases hj : j = k
    · subst hj
      rw [if_pos rfl]
      have : kds.find? (fun p => decide (p.1 = j)) = none := by
        cases e : kds.find? (fun p => decide (p.1 = j)) with
        | none => rfl
        | some x => rw [e] at hn; cases hn
      rw [this]
      simp
    · rw [if_neg hj]
      have h3 : ¬ k = j := fun e => hj e.symm
      cases e : kds.find? (fun p => decide (p.1 = j)) with
      | none => simp [h3]
      | some x => simp
end
/-- a pair of numbers as a key -/
def kk (x y : Nat) : List Key := [.inl (x : Int), .inl (y : Int)]
theorem kk_inj {x y x' y' : Nat} (h : kk x y = kk x' y') : x = x' ∧ y = y' := by
  injection h with h1 h2
  injection h2 with h2 _
  injection h1 with h1
  injection h2 with h2
  omega
/-! ### winners kept in a dict -/
/-- what stands at (x, y) and (y, x) -/
def Bo (kds : List (List Key × PyData)) (x y : Nat) : Prop := ∃ w : Bool, valD kds (kk x y) = some (.bool w) ∧ valD kds (kk y x) = some (.bool (!w))
theorem Bo.put {kds : List (List Key × PyData)} {x y : Nat} (w : Bool) (ne : x ≠ y) : Bo (putD (putD kds (kk x y) (.bool w)) (kk y x) (.bool (!w))) x y := by
  refine ⟨w, ?_, ?_⟩
  · rw [valD_put, if_neg fun e => ne (kk_inj e).1, valD_put, if_pos rfl]
  · rw [valD_put, if_pos rfl]
theorem Bo.keep {kds : List (List Key × PyData)} {x y x' y' : Nat} (h : Bo kds x' y') (n1 : ¬ (x' = x ∧ y' = y)) (n2 : ¬ (x' = y ∧ y' = x)) (d e : PyData) : Bo (putD (putD kds (kk x y) d) (kk y x) e) x' y' := by
  obtain ⟨w, h1, h2⟩ := h
  refine ⟨w, ?_, ?_⟩
  · rw [valD_put, if_neg fun q => n2 (kk_inj q), valD_put, if_neg fun q => n1 (kk_inj q)]
    exact h1
  · rw [valD_put, if_neg fun q => n1 ⟨(kk_inj q).2, (kk_inj q).1⟩, valD_put, if_neg fun q => n2 ⟨(kk_inj q).2, (kk_inj q).1⟩]
    exact h2
/-- the pairs (x, y), x < y < m, with x < i, or x = i and y < i + 1 + c -/
structure Bos (m i c : Nat) (kds : List (List Key × PyData)) : Prop where
  all : ∀ x y, x < y → y < m → (x < i ∨ (x = i ∧ y < i + 1 + c)) → Bo kds x y
theorem Bos.start {m : Nat} : Bos m 0 0 [] := ⟨fun x y lt h9 h => by omega⟩
theorem Bos.next {i c m : Nat} {kds : List (List Key × PyData)} (h : Bos m i c kds) (hl : m ≤ i + 1 + c) : Bos m (i + 1) 0 kds := ⟨fun x y lt hm hx => h.all x y lt hm (by omega)⟩
theorem Bos.put {i c m : Nat} {kds : List (List Key × PyData)} (h : Bos m i c kds) (w : Bool) : Bos m i (c + 1) (putD (putD kds (kk i (i + 1 + c)) (.bool w)) (kk (i + 1 + c) i) (.bool (!w))) := ⟨fun x y lt hm hx => by
  by_cases e : x = i ∧ y = i + 1 + c
  · obtain ⟨rfl, rfl⟩ := e
    exact Bo.put w (by omega)
  · exact (h.all x y lt hm (by omega)).keep e (by omega) _ _⟩
theorem Bo.symm {kds : List (List Key × PyData)} {x y : Nat} (h : Bo kds x y) : Bo kds y x := by
  obtain ⟨w, h1, h2⟩ := h
  exact ⟨!w, h2, by rw [Bool.not_not]; exact h1⟩
/-- who wins, by the dict -/
def bw (kds : List (List Key × PyData)) (x y : Nat) : Bool := match valD kds (kk x y) with
  | some (.bool v) => v
  | _ => false
theorem Bo.bw {kds : List (List Key × PyData)} {x y : Nat} (h : Bo kds x y) : bw kds x y = !bw kds y x ∧ valD kds (kk x y) = some (.bool (DS.bw kds x y)) := by
  obtain ⟨w, h1, h2⟩ := h
  unfold DS.bw
  rw [h1, h2]
  simp
/-- the sign -/
def sg (kds : List (List Key × PyData)) (x y : Nat) : Nat := if x = y then 46 else if bw kds x y then 43 else 45
def nthL (l : List Nat) (i : Nat) : Nat := l.getD i 0
theorem nthL_ne {l : List Nat} (nd : l.Nodup) {i j : Nat} (hi : i < l.length) (hj : j < l.length) (ne : i ≠ j) : nthL l i ≠ nthL l j := fun e => by
  have e : l[i] = l[j] := by simpa [nthL, hi, hj] using e
  have pw := List.pairwise_iff_getElem.mp nd
  rcases Nat.lt_or_gt_of_ne ne with h | h
  · exact pw i j hi hj h e
  · exact pw j i hj hi h e.symm
end DS
set_option maxHeartbeats 4000000
namespace DS
open PySem PySem.Spec PyProof.Rows L2
/-! ### readings of the newer constructs, by simp -/
section
variable {ρ : Dn} {n : Nat} {Q : PyData → Dn → Nat → Prop} {QA : List PyData → Dn → Nat → Prop} {QB : Bool → Dn → Nat → Prop} {f : DF} {T Te : TXP} {Tt : TXB} {Ti : TXA} {DD : EnD} {U V : TD} {g : PyData → Dn → Option Dn} {vs : List Nat}
@[simp] theorem e_kkD {i j : Nat} : (kk i j).map kD = [ni i, ni j] := rfl
@[simp] theorem w_putO {i : Nat} {fb fc : DF} : dPutO i fb fc DD ρ n ↔ ∃ (x : PyData) (j : Nat) (ds : List PyData), fc ρ = some x ∧ getO i ρ = some ds ∧ (∃ k, fb ρ = some (.int k) ∧ ixN ds.length k = some j) ∧ DD.nx (ρ.set i (.own (ds.set j x))) n := Iff.rfl
@[simp] theorem e_sApp {i : Nat} : sApp i f ρ = (getO i ρ).bind fun ds => (f ρ).bind fun d => if ds.length < 1000000 then some (.nx (ρ.set i (.own (ds ++ [d])))) else none := rfl
@[simp] theorem w_drG {B : Nat} {m : Int} {Q : PyData → Nat → Prop} : wDrG B [.int m] n Q ↔ 0 < m ∧ m < 1000000000 ∧ n < B ∧ ∀ k : Nat, (k : Int) < m → Q (ni k) (n + 1) := by
  constructor
  · rintro ⟨m', e, h1, h2, h3, q⟩
    cases e
    exact ⟨h1, h2, h3, fun k hk => q k (by omega) hk⟩
  · rintro ⟨h1, h2, h3, q⟩
    refine ⟨m, rfl, h1, h2, h3, fun k h0 hk => ?_⟩
    obtain ⟨j, rfl⟩ : ∃ j : Nat, k = (j : Int) := ⟨k.toNat, by omega⟩
    exact q j hk
@[simp] theorem w_drGn {B m : Nat} {Q : PyData → Nat → Prop} : wDrG B [ni m] n Q ↔ 0 < m ∧ m < 1000000000 ∧ n < B ∧ ∀ k : Nat, k < m → Q (ni k) (n + 1) := by
  show wDrG B [.int (m : Int)] n Q ↔ _
  rw [w_drG]
  constructor
  · rintro ⟨h1, h2, h3, q⟩
    exact ⟨by omega, by omega, h3, fun k hk => q k (by omega)⟩
  · rintro ⟨h1, h2, h3, q⟩
    exact ⟨by omega, by omega, h3, fun k hk => q k (by omega)⟩
@[simp] theorem e_toLstL2 : toLstL f ρ = (f ρ).bind itemsD := rfl
@[simp] theorem cast_eq {i j : Nat} : ((i : Int) = (j : Int)) ↔ i = j := by omega
@[simp] theorem ni_int {i : Nat} {j : Int} : ni i = .int j ↔ (i : Int) = j := by
  unfold ni
  simp
@[simp] theorem int_ni {i : Nat} {j : Int} : PyData.int j = ni i ↔ j = (i : Int) := by
  unfold ni
  simp
theorem shaped_str {x : Str} (h : PyData.strOk x = true) : SeqAt.shaped (.str x) = true := by simp [SeqAt.shaped, PyData.canLay0, PyData.depth, h]
@[simp] theorem shaped_plus : SeqAt.shaped (.str (Str.ofString "+")) = true := shaped_str (by decide +kernel)
@[simp] theorem shaped_minus : SeqAt.shaped (.str (Str.ofString "-")) = true := shaped_str (by decide +kernel)
@[simp] theorem shaped_sgn {b : Nat → Nat → Bool} {i j : Nat} : SeqAt.shaped (.str ⟨#[sgn b i j]⟩) = true := by
  have : sgn b i j = 46 ∨ sgn b i j = 43 ∨ sgn b i j = 45 := by
    unfold sgn
    split
    · exact .inl rfl
    · split
      · exact .inr (.inl rfl)
      · exact .inr (.inr rfl)
  rcases this with h | h | h <;> rw [h] <;> exact shaped_str (by decide +kernel)
@[simp] theorem shaped_int {i : Int} : SeqAt.shaped (.int i) = true := by simp [SeqAt.shaped, PyData.canLay0, PyData.depth]
@[simp] theorem shaped_nat {i : Nat} : SeqAt.shaped (ni i) = true := by simp [ni, SeqAt.shaped, PyData.canLay0, PyData.depth]
@[simp] theorem shaped_tupN {M : List Nat} : SeqAt.shaped (tupN M) = true := shaped_tup M
end
end DS
set_option maxHeartbeats 4000000
namespace DS
open PySem PySem.Spec PySem.Calls PyProof.Rows L2
/-! ### own errors that keep one value -/
def initA (p1 p2 : Pos) : Arguments where
  posonlyargs := []
  args := [⟨"self", none, p1⟩, ⟨"value", none, p2⟩]
  vararg := none
  kwonlyargs := []
  kw_defaults := []
  kwarg := none
  defaults := []
def initB (q1 q2 q3 q4 : Pos) : List Stmt := [Stmt.Assign [Expr.Attribute (Expr.Name "self" q1) "value" q2] (Expr.Name "value" q3) q4]
def initS : Scope where
  kind := .function
  names := [("self", .local), ("value", .local)]
  isGenerator := false
  isCoroutine := false
  more := []
/-- what is written of the class at C and of its __init__ at f -/
structure OwnX (K : PySem.W.Frag) (C f : Addr) : Prop where
  base : ∃ (B n i : String) (l : List Value), ExcBaseFacts B n i l ∧ StoreFacts B l "object.__setattr__" "object" ∧ PySem.W.excInitIn K C l n = true ∧ PySem.W.excOver K C l = true
  sa : PySem.W.findIn K (.ref C) "__setattr__" = some (some (.builtin "object.__setattr__"))
  ga : PySem.W.findIn K (.ref C) "__getattribute__" = some (some (.builtin "BaseException.__getattribute__"))
  gg : PySem.W.findIn K (.ref C) "__getattr__" = some none
  no : PySem.W.findIn K (.ref C) "value" = some none
  ini : PySem.W.findIn K (.ref C) "__init__" = some (some (.ref f))
  ft : PySem.W.typeIn K (.ref f) = some (.type "function")
  kp : PySem.W.keepIn K (.ref C) = true
  ex : PySem.W.subIn K (.ref C) (.type "BaseException") = some true
  ty : PySem.W.typeIn K (.ref C) = some (.type "type")
  hd : PySem.W.hasDictIn K C = true
  ca : PySem.W.findIn K (.ref C) "__class__" = some (some (.builtin "object.__class__"))
  cg : PySem.W.specialIn K (.builtin "object.__class__") "__get__" = some (some (.builtin "getset_descriptor.__get__"))
  ct : PySem.W.takesIn K (.builtin "object.__class__") = some true
  mo : PySem.W.mroIn K C (.type "object") = some true
  fn : ∃ (nm : Str) (oc : Value) (od : Option Addr) (doc pm : Value) (an : Option Addr) (cdv c3 : Value) (osl : Array (Option Value)) (p1 p2 q1 q2 q3 q4 : Pos),
    K.lookup f = some ⟨oc, od, .func (PySem.W.fnOf "__init__" nm (initA p1 p2) (initB q1 q2 q3 q4) initS .none .none doc pm an cdv c3), osl⟩ ∧ PySem.W.codeIn K cdv nm = true
/-- the error at e as it was made of v, its dict at d -/
structure Made1 (h h' : Heap) (e C d : Addr) (v : Value) : Prop where
  old : ∀ b o, h.get? b = some o → h'.get? b = some o
  big : h.objs.size ≤ e
  obj : ∃ t1 : Addr, h'.get? e = some { cls := .ref C, dict := some d, data := .fields #[.ref t1, .none, .none, .none, .bool false, .none] }
  dbig : h.objs.size ≤ d
  ne : d ≠ e
  ns : h'.Ns1 d (fun y => if y = "value" then some v else none)
section
variable {prog : Program} {w : World} {A : Around} {E : Value → Shared → Prop} {R : Result → Shared → Prop} {K : PySem.W.Frag} {C f : Addr} {hp : Heap} {g : Array GenState} {dr : Drawn} {t : Nat} {os : OsState}
/-- the first field of an error -/
theorem first_field {x t1 : Addr} {v : Value} {tk : Tok} (T : OwnX K C f) (X : K.In hp) (hx : hp.get? x = some (PySem.HandSPX.excO C t1))
    (q : ∀ h' tk' dx, (∀ b o, b ≠ x → hp.get? b = some o → h'.get? b = some o) → hp.objs.size ≤ dx → dx ≠ x → h'.get? x = some { cls := .ref C, dict := some dx, data := .fields #[.ref t1, .none, .none, .none, .bool false, .none] } →
      h'.Ns1 dx (fun y => if y = "value" then some v else none) → R (.ok (.ret .none)) ⟨h', g, dr, tk', os⟩) :
    codeAny (model prog w) A (.call (.builtin "object.__setattr__") ⟨[.ref x, .str "value" tk, v], []⟩) R ⟨hp, g, dr, t, os⟩ := by
  obtain ⟨B, n, i, l, FB, SF, hi, ho⟩ := T.base
  have nt : PySem.W.takerIn K C "value" = some none := by
    unfold PySem.W.takerIn
    rw [T.no] <;> rfl
  obtain ⟨cd, hc, hd⟩ := PySem.W.any_some T.hd
  have lt := Heap.lt_size hx
  refine PySem.W.osa_openX (s := ⟨hp, g, dr, t, os⟩) (od := none) (ox := PySem.HandSPX.excO C t1) SF X ⟨hx, rfl, rfl, trivial⟩ ho nt fun b => ?_
  refine wpAny_bind (wpAny_pure (wpAny_bind (PySem.W.instanceDict_exc (c2 := .none) hx (PySem.W.looks_clsIn X hc) hd ?_)))
  refine PySem.HandSPX.store_in_new ?_ fun h' tk' hn sb => ?_
  · exact ⟨_, #[], _, (Heap.get?_update_ne _ _ _ _ (Nat.ne_of_gt lt)).trans (Heap.get?_push_at rfl rfl), rfl, fun e he => absurd he (by simp), fun _ => rfl⟩
  · have nx : x ≠ hp.objs.size := Nat.ne_of_lt lt
    refine q h' tk' _ (fun b o hb hbo => ?_) (Nat.le_refl _) nx.symm ?_ hn
    · rw [sb.2 b (Nat.ne_of_lt (Heap.lt_size hbo)), Heap.get?_update_ne _ _ _ _ hb]
      exact Heap.get?_push_of_some _ hbo
    · rw [sb.2 x nx]
      exact Heap.get?_update_self _ (Heap.get?_push_of_some _ hx) rfl
/-- C(v) -/
theorem make_own {s : Shared} {v : Value} (T : OwnX K C f) (X : K.In s.heap) (lim : s.heap.NoLimit) (room : A.depth + 1 < recursionLimit)
    (q : ∀ h' tk e d, Made1 s.heap h' e C d v → R (.ok (.ret (.ref e))) { s with heap := h', toks := tk }) : codeAny (model prog w) A (.call (.ref C) ⟨[v], []⟩) R s := by
  obtain ⟨nm, oc, od, doc, pm, an, cdv, c3, osl, p1, p2, q1, q2, q3, q4, lk, cod⟩ := T.fn
  obtain ⟨B, n, i, l, FB, SF, hi, ho⟩ := T.base
  obtain ⟨m1, N, m2, bs, bm, hdct, sn, sub, ab, col, dd, k0, k1, k2, k3, k5, hC, hT⟩ := PySem.W.excInit_of X hi
  obtain ⟨hp, g, dr, tk, os⟩ := s
  have up : ∀ b o, hp.get? b = some o → ((hp.push (PySem.W.kdv_tup [v])).push (PySem.HandSPX.excO C hp.objs.size)).get? b = some o := fun b o e => Heap.get?_push_of_some _ (Heap.get?_push_of_some _ e)
  have hx : ((hp.push (PySem.W.kdv_tup [v])).push (PySem.HandSPX.excO C hp.objs.size)).get? (hp.objs.size + 1) = some (PySem.HandSPX.excO C hp.objs.size) := by heap_get
  have one : [v].length ≤ sizeLine := (show 1 ≤ sizeLine by decide)
  refine PySem.HandSPX.call_own FB hT hC (PySem.W.looks_findIn X T.ini) (fun self => PySem.W.bind_fn X self T.ft) one ?_
  generalize eh : (hp.push (PySem.W.kdv_tup [v])).push (PySem.HandSPX.excO C hp.objs.size) = h1 at up hx ⊢
  have X1 : K.In h1 := X.keeps up
  refine Att.call_fn (s := ⟨h1, g, dr, tk, os⟩) (binds := [("self", .ref (hp.objs.size + 1)), ("value", v)]) X1 (Heap.NoLimit.keeps lim up) lk cod (by show A.depth + 1 < _; exact room) (BindsTo.of_eq (by with_unfolding_all rfl)) (by with_unfolding_all rfl) (fun s₁ IC => ?_) rfl rfl rfl
  obtain ⟨h2, t2, rfl⟩ := IC.toInCall.same
  have up2 : ∀ b o, h1.get? b = some o → h2.get? b = some o := IC.toInCall.keep
  have ns := IC.toInCall.ns
  have ld : ∀ {x : Str} {u : Value} {pos : Pos} {Q : Value → Shared → Prop} {A' : Around} {E' : Value → Shared → Prop}, bindL (envOfC nm initS h1.objs.size f cdv).kindOf [("self", .ref (hp.objs.size + 1)), ("value", v)] (fun _ => none) x = some u → (envOfC nm initS h1.objs.size f cdv).kindOf x = some .local → (x == ("__debug__" : Str)) = false →
      Q u ⟨h2, g, dr, t2, os⟩ → wpAny (model prog w) A' (eval (.Name x pos) (envOfC nm initS h1.objs.size f cdv)) Q E' ⟨h2, g, dr, t2, os⟩ := fun a b c d => wpAny_Name (wpAny_loadName_local rfl b ns a d) c
  refine wpAny_execs_cons (plainObj_wpAny_Assign_Attribute ?_)
  refine ld (by with_unfolding_all rfl) rfl (by decide) (ld (by with_unfolding_all rfl) rfl (by decide) ?_)
  refine PySem.W.set_plain (X1.keeps up2) (ox := PySem.HandSPX.excO C hp.objs.size) (od := none) ⟨up2 _ _ hx, rfl, rfl, trivial⟩ T.sa ?_
  refine first_field T (X1.keeps up2) (up2 _ _ hx) fun h3 t3 dx kp dn dne ob nd => ?_
  have sz : h1.objs.size < h2.objs.size := ns.lt
  have sz1 : h1.objs.size = hp.objs.size + 1 + 1 := by
    rw [← eh, Heap.size_push, Heap.size_push]
  refine wpAny_execs_nil ⟨rfl, q h3 t3 (hp.objs.size + 1) dx ⟨fun b o e => kp b o (Nat.ne_of_lt (Nat.lt_succ_of_lt (Heap.lt_size e))) (up2 b o (up b o e)), Nat.le_succ _, ⟨_, ob⟩, (by
    have z : h2.objs.size ≤ dx := dn
    show hp.objs.size ≤ dx
    omega), dne, nd⟩⟩
end
section
variable {X : Cx} {C f : Addr}
theorem rel_value {v : V} {u : Value} (r : RelV v u) (y : Str) : RelO (List.lookup y [(("value" : Str), v)]) (if y = "value" then some u else none) := by
  by_cases e : y = "value"
  · rw [if_pos e, e]
    have z : List.lookup ("value" : Str) [(("value" : Str), v)] = some v := by simp [List.lookup]
    rw [z]
    exact r
  · rw [if_neg e]
    have e2 : (y == ("value" : Str)) = false := by simpa using e
    have z : List.lookup y [(("value" : Str), v)] = none := by simp [List.lookup, e2]
    rw [z]
    trivial
/-- x(e), x an error that keeps its value -/
def tMkV (C : Addr) (ta : TA) : L2.St → Hp → XK → Prop := fun σ H Q => ta σ H fun vs H1 => ∃ v, vs = [v] ∧ ∀ d, H1 d = none → Q (.ref C) (some d) (upd H1 d (.xd [(("value" : Str), v)]))
theorem pmk_value {x : Str} {a : Expr} {ta : TA} {p pos : Pos} {k : Nat} (T : OwnX X.K C f) (gC : X.mg x = some (.ref C)) (hr : Room k X.A) (ha : PA X [a] ta) (hg : Gl X x) (hx : (x == ("__debug__" : Str)) = false := by decide)
    (h1 : starEach (a :: []) X.env = (false, eval a X.env) :: starEach [] X.env := by rfl) (h2 : (backTo pos (starEach [] X.env)).any (·.1) = false := by rfl) : PMk X (.Call (.Name x p) [a] [] pos) (tMkV C ta) := by
  intro pins s σ H Q I h
  refine wpAny_Call_Name_kw (ld_glob I hg gC ?_ hx)
  refine PySem.W.callWith_K (h₀ := X.base) I.ok.mod.kin T.kp (thn (ha.run pos pins s σ H _ I h) fun us s1 z => ?_) h1 h2
  obtain ⟨vs, H1, I1, r1, v, rfl, q1⟩ := z
  refine ⟨I1.kIn, ?_⟩
  obtain ⟨u, rfl, ru⟩ := vals1 r1
  have lim := I1.nolimit
  obtain ⟨hp, g, dr, tk, os⟩ := s1
  refine wpAny_call (make_own T I1.kIn lim (by have := hr.dp; omega) fun h' tk' e d M => ?_)
  show MkP X pins σ Q (.ref e) ⟨h', g, dr, tk', os⟩
  obtain ⟨t1, oe⟩ := M.obj
  obtain ⟨G, g1, g2⟩ := restrict h' fun b => decide (b ≠ e)
  have same : ∀ b, b ≠ e → G.get? b = h'.get? b := fun b hb => g1 b (decide_eq_true hb)
  have gone : G.get? e = none := g2 e (by simp)
  have old : ∀ b o, hp.get? b = some o → G.get? b = some o := fun b o z => (same b (Nat.ne_of_lt (Nat.lt_of_lt_of_le (Heap.lt_size z) M.big))).trans (M.old b o z)
  have ob : ObjOk X.prog X.w (upd H1 d (.xd [(("value" : Str), v)])) G d (.xd [(("value" : Str), v)]) := ⟨_, M.ns.at (fun o z => (same d M.ne).trans z), fun y => rel_value ru y⟩
  have J : Inv X pins σ (upd H1 d (.xd [(("value" : Str), v)])) ⟨G, g, dr, tk', os⟩ := I1.laid (t' := tk') old M.dbig ob
  refine ⟨e, _, _, ⟨G, g, dr, tk', os⟩, _, .ref C, some d, rfl, J, fun b o z => ?_, gone, oe, ⟨rfl, rfl⟩, rfl, rfl, ?_, rfl, I1.bare, raises_own T.ex T.ty, q1 d (I1.hok.fresh M.dbig)⟩
  · by_cases hb : b = e
    · have z' : G.get? b = some o := z
      rw [hb, gone] at z'
      cases z'
    · exact (same b hb).symm.trans z
  · rw [upd_ne (Ne.symm M.ne)]
    exact I1.hok.fresh M.big
end
end DS
namespace DS
open PySem PySem.Spec PyProof.Rows L2
/-! ### try with several clauses that name the error alike -/
abbrev Clause := Value × (Addr → Value → Option Addr → TS)
/-- the clauses keep their readings -/
inductive Each (X : Cx) (n : Str) : List ExceptHandler → List Clause → Prop
  | nil : Each X n [] []
  | cons {x : Str} {c : Value} {ts : Addr → Value → Option Addr → TS} {b₀ : Stmt} {su : List Stmt} {p1 p2 : Pos} {hs : List ExceptHandler} {l : List Clause} (nm : Names X x c)
      (ok : ∀ (a : Addr) (oe : Obj) (cls : Value) (d : Option Addr) (pn : List (Addr × Obj)), Zc cls d oe → (∃ vs, oe.data = .fields vs) → PSs (X.suite a ((a, oe) :: pn)) (b₀ :: su) (ts a cls d)) (r : Each X n hs l) :
      Each X n (.ExceptHandler (some (.Name x p1)) (some n) (b₀ :: su) p2 :: hs) ((c, ts) :: l)
section
variable {X : Cx} {n : Str} {i : Nat} {body : List Stmt} {h₀ : ExceptHandler} {hs : List ExceptHandler} {l : List Clause} {pos : Pos} {tb : WX → TS} {out : WX}
end
end DS
namespace DS
open PySem PySem.Spec PyProof.Rows L2
/-! ### errors as data -/
structure ErrD where
  c : Str
  fs : Option (Str × PyData)
def ErrAt (K : PySem.W.Frag) (mg : Str → Option Value) (O : Hid) (H : Hp) (e : ErrD) (cls : Value) (d : Option Addr) : Prop :=
  mg e.c = some cls ∧ (e.fs = none → d = none) ∧ ∀ y x, e.fs = some (y, x) → ∃ dd v, d = some dd ∧ Fz O H dd = some (.xd [(y, v)]) ∧ Dx K (Fz O H) v x
theorem ErrAt.shift {K : PySem.W.Frag} {mg : Str → Option Value} {O O' : Hid} {H H' : Hp} {e : ErrD} {cls : Value} {d : Option Addr} (f : Same (Fz O H) (Fz O' H')) (h : ErrAt K mg O H e cls d) : ErrAt K mg O' H' e cls d := ⟨h.1, h.2.1, fun y x q => by
  obtain ⟨dd, v, h1, h2, h3⟩ := h.2.2 y x q
  exact ⟨dd, v, h1, f dd _ h2, h3.same f⟩⟩
abbrev RX := Except ErrD PyData
/-- what a def promises that hands back data, or raises an error -/
def spX (K : PySem.W.Frag) (mg : Str → Option Value) (m : Nat) (sem : List PyData → Option RX) : Sp := fun vs H Q E => ∃ O ds r, Al O H ∧ DxAll K (Fz O H) vs ds ∧ ds.length = m ∧ sem ds = some r ∧
  (∀ d, r = .ok d → ∀ v H', Same H H' → Dx K (Fz O H') v d → Q v H') ∧ ∀ e, r = .error e → ∀ cls d H', Same H H' → ErrAt K mg O H' e cls d → E cls d H'
section
variable {X : Cx} {CX : CXT} {k m : Nat} {f : Addr} {fd : FuncData} {ps : List Str} {sp : Sp} {E : L2.St → XK} {x : Str} {p pos : Pos} {e : Expr} {es : List Expr} {t : TA}
/-- f(e, ..) that may raise -/
theorem pe_callGS (F : FnG X.prog X.w X.K X.mg X.base CX k f fd ps sp) (hgd : X.A.guards = some []) (hr : Room k X.A) (hg : Gl X x) (hm : X.mg x = some (.ref f)) (hk : PySem.W.keepIn X.K (.ref f) = true) (hb : Binds X.K fd ps []) (hx : ∀ σ, PassesAt CX X σ (E σ))
    (ha : PA X (e :: es) t) (hdb : (x == ("__debug__" : Str)) = false := by decide) (he : starEach (e :: es) X.env = (false, eval e X.env) :: starEach es X.env := by rfl) (hpl : (backTo pos (starEach es X.env)).any (·.1) = false := by rfl) :
    PE X (.Call (.Name x p) (e :: es) [] pos) (tCallS sp E t) := by
  refine ⟨fun pins s σ H Q I h => wpAny_Call_Name_kw (ld_glob I hg hm ?_ hdb)⟩
  refine PySem.W.callWith_K (h₀ := X.base) I.ok.mod.kin hk (thn (ha.run pos pins s σ H _ I h) fun us s1 hz => ?_) he hpl
  obtain ⟨vs, H1, I1, r, q⟩ := hz
  refine ⟨I1.kIn, ?_⟩
  have hl : us.length = ps.length := by
    rw [← r.length]
    exact F.len _ _ _ _ q
  have b := hb s1 us I1.kIn (by rw [List.append_nil]; exact hl)
  rw [List.append_nil] at b
  refine wpAny_call (codeAny_mono (F.go X.A X.stack s1 H1 ⟨us, []⟩ us vs Q (E σ) hgd hr I1.env0 b r q) fun r s' hq => ?_)
  match r, hq with
  | .error e, hq => exact hx σ pins H1 s1 e s' I1 hq
  | .ok (.ret u), hq => exact I1.after hq
  | .ok .next, hq => exact hq.elim
  | .ok .brk, hq => exact hq.elim
  | .ok .cont, hq => exact hq.elim
end
/-! ### expressions that may raise -/
abbrev DFX := Dn → Option RX
def tFX (K : PySem.W.Frag) (mg : Str → Option Value) (S : Fr) (W : WX) (f : DFX) : TE := fun σ H Q => ∃ B O ρ n r, RepS K S B O H σ ρ n ∧ f ρ = some r ∧ (∀ d, r = .ok d → ∀ v H', Same H H' → Dx K (Fz O H') v d → Q v H') ∧
  ∀ e, r = .error e → ∀ cls d H', Same H H' → ErrAt K mg O H' e cls d → W cls d σ H'
structure PFX (X : Cx) (S : Fr) (W : WX) (e : Expr) (f : DFX) : Prop where
  pe : PE X e (tFX X.K X.mg S W f)
abbrev DAX := Dn → Option (Except ErrD (List PyData))
def tFAX (K : PySem.W.Frag) (mg : Str → Option Value) (S : Fr) (W : WX) (f : DAX) : TA := fun σ H Q => ∃ B O ρ n r, RepS K S B O H σ ρ n ∧ f ρ = some r ∧ (∀ ds, r = .ok ds → ∀ vs H', Same H H' → DxAll K (Fz O H') vs ds → Q vs H') ∧
  ∀ e, r = .error e → ∀ cls d H', Same H H' → ErrAt K mg O H' e cls d → W cls d σ H'
structure PFAX (X : Cx) (S : Fr) (W : WX) (es : List Expr) (f : DAX) : Prop where
  pa : PA X es (tFAX X.K X.mg S W f)
section
variable {X : Cx} {S : Fr} {W : WX} {e a b c : Expr} {es : List Expr} {p pos : Pos}
def callX (m : Nat) (sem : List PyData → Option RX) (fs : Dn → Option (List PyData)) : DFX := fun ρ => (fs ρ).bind fun ds => if ds.length = m then sem ds else none
theorem pfx_call {k m : Nat} {f : Addr} {fd : FuncData} {ps : List Str} {x : Str} {sem : List PyData → Option RX} {fs : Dn → Option (List PyData)} (tk : Takes X W) (F : FnG X.prog X.w X.K X.mg X.base (L2.CX X.prog X.w) k f fd ps (spX X.K X.mg m sem)) (hgd : X.A.guards = some []) (hr : Room k X.A) (hg : Gl X x) (hm : X.mg x = some (.ref f)) (hk : PySem.W.keepIn X.K (.ref f) = true) (hb : Binds X.K fd ps [])
    (ha : PFA X (e :: es) fs) (hdb : (x == ("__debug__" : Str)) = false := by decide) (he : starEach (e :: es) X.env = (false, eval e X.env) :: starEach es X.env := by rfl) (hpl : (backTo pos (starEach es X.env)).any (·.1) = false := by rfl) :
    PFX X S W (.Call (.Name x p) (e :: es) [] pos) (callX m sem fs) := ⟨(pe_callGS (E := WE W) F hgd hr hg hm hk hb (fun σ => passAt tk σ) ha.pa hdb he hpl).imp fun σ H Q ⟨B, O, ρ, n, r, rs, e1, q1, q2⟩ => by
  obtain ⟨ds, e2, e3⟩ := Option.bind_eq_some_iff.mp e1
  split at e3
  case isFalse => cases e3
  rename_i hl
  exact ⟨O, S.dv, ρ, ds, rs.al, rs.rep, e2, fun vs H1 s1 dx => ⟨O, ds, r, rs.al.same s1, dx, hl, e3, fun d er v H' s dv => q1 d er v H' (s1.trans s) dv, fun e er cls d H' s ea => q2 e er cls d H' (s1.trans s) ea⟩⟩⟩
end
/-! ### statements that may raise -/
abbrev XP := ErrD → Dn → Nat → Prop
abbrev TDX := EnD → XP → Dn → Nat → Prop
def EndX (K : PySem.W.Frag) (mg : Str → Option Value) (S : Fr) (B : Hp) (XD : XP) (W : WX) : Prop := ∀ e O' cls d σ' H' ρ' n', XD e ρ' n' → RepS K S B O' H' σ' ρ' n' → ErrAt K mg O' H' e cls d → W cls d σ' H'
def tSX (K : PySem.W.Frag) (mg : Str → Option Value) (S : Fr) (W : WX) (T : TDX) : TS := fun D σ H => ∃ B O ρ n DD XD, RepS K S B O H σ ρ n ∧ T DD XD ρ n ∧ Ends2 K S B DD D ∧ EndX K mg S B XD W
structure PDX (X : Cx) (S : Fr) (W : WX) (st : Stmt) (T : TDX) : Prop where
  ps : PS X st (tSX X.K X.mg S W T)
structure PDsX (X : Cx) (S : Fr) (W : WX) (st : List Stmt) (T : TDX) : Prop where
  pss : PSs X st (tSX X.K X.mg S W T)
abbrev SFX := Dn → Option (Except (ErrD × Dn) Res)
def dFX (f : SFX) : TDX := fun DD XD ρ n => ∃ r, f ρ = some r ∧ (∀ z, r = .ok z → DD.ends n z) ∧ ∀ e ρ', r = .error (e, ρ') → XD e ρ' n
structure PZX (X : Cx) (S : Fr) (W : WX) (st : Stmt) (f : SFX) : Prop where
  pd : PDX X S W st (dFX f)
structure PZsX (X : Cx) (S : Fr) (W : WX) (st : List Stmt) (f : SFX) : Prop where
  pds : PDsX X S W st (dFX f)
section
variable {X : Cx} {S : Fr} {W : WX} {st : Stmt} {rest : List Stmt} {f g : SFX} {T U : TDX} {pos : Pos}
theorem PDX.imp {T T' : TDX} (h : PDX X S W st T) (k : ∀ DD XD ρ n, T' DD XD ρ n → T DD XD ρ n) : PDX X S W st T' := ⟨h.ps.imp fun D σ H ⟨B, O, ρ, n, DD, XD, rs, t, E, EX⟩ => ⟨B, O, ρ, n, DD, XD, rs, k _ _ _ _ t, E, EX⟩⟩
theorem PDsX.imp {st : List Stmt} {T T' : TDX} (h : PDsX X S W st T) (k : ∀ DD XD ρ n, T' DD XD ρ n → T DD XD ρ n) : PDsX X S W st T' := ⟨h.pss.imp fun D σ H ⟨B, O, ρ, n, DD, XD, rs, t, E, EX⟩ => ⟨B, O, ρ, n, DD, XD, rs, k _ _ _ _ t, E, EX⟩⟩
theorem pdsx_of {st : List Stmt} {T : TD} (h : PDs X S st T) : PDsX X S W st (fun DD _ => T DD) := ⟨h.pss.imp fun D σ H ⟨B, O, ρ, n, DD, XD, rs, t, E, EX⟩ => ⟨B, O, ρ, n, DD, rs, t, E⟩⟩
def dSeqX (T U : TDX) : TDX := fun DD XD ρ n => T { DD with nx := fun ρ' n' => U DD XD ρ' n' } XD ρ n
theorem pdsx_cons (h1 : PDX X S W st T) (h2 : PDsX X S W rest U) : PDsX X S W (st :: rest) (dSeqX T U) := ⟨(pss_cons h1.ps h2.pss).imp fun D σ H ⟨B, O, ρ, n, DD, XD, rs, t, E, EX⟩ =>
  ⟨B, O, ρ, n, _, XD, rs, t, ⟨fun O' σ' H' ρ' n' r' u => ⟨B, O', ρ', n', DD, XD, r', u, E, EX⟩, E.bk, E.ct, E.rt⟩, EX⟩⟩
theorem pdsx_one (h1 : PDX X S W st T) : PDsX X S W [st] T := ⟨pss_one h1.ps⟩
def okZS (f : SF) : SFX := fun ρ => (f ρ).map .ok
theorem dFX_ok {f : SF} {DD : EnD} {XD : XP} {ρ : Dn} {n : Nat} (h : dFX (okZS f) DD XD ρ n) : dFun f DD ρ n := by
  obtain ⟨r, e, q1, q2⟩ := h
  obtain ⟨z, e2, rfl⟩ := Option.map_eq_some_iff.mp e
  exact ⟨z, e2, q1 z rfl⟩
theorem pzsx_of {st : List Stmt} {f : SF} (h : PZs X S st f) : PZsX X S W st (okZS f) := ⟨(pdsx_of h.pds).imp fun DD XD ρ n h => dFX_ok h⟩
theorem pzsx_one (h : PZX X S W st f) : PZsX X S W [st] f := ⟨pdsx_one h.pd⟩
def seqX (f g : SFX) : SFX := fun ρ => (f ρ).bind fun r => match r with
  | .error z => some (.error z)
  | .ok (.nx ρ') => g ρ'
  | .ok z => some (.ok z)
theorem pzsx_cons (h1 : PZX X S W st f) (h2 : PZsX X S W rest g) : PZsX X S W (st :: rest) (seqX f g) := ⟨(pdsx_cons h1.pd h2.pds).imp fun DD XD ρ n ⟨r, e, q1, q2⟩ => by
  obtain ⟨r1, e1, e2⟩ := Option.bind_eq_some_iff.mp e
  refine ⟨r1, e1, fun z hz => ?_, fun e ρ' hz => ?_⟩
  · subst hz
    cases z with
    | nx ρ' => exact ⟨r, e2, q1, q2⟩
    | rt d => cases e2; exact q1 _ rfl
    | bk ρ' => cases e2; exact q1 _ rfl
    | ct ρ' => cases e2; exact q1 _ rfl
  · subst hz
    cases e2
    exact q2 _ _ rfl⟩
def sIfX (t : Dn → Option Bool) (f g : SFX) : SFX := fun ρ => (t ρ).bind fun b => if b = true then f ρ else g ρ
theorem pzx_if (ok : S.Ok) {c : Expr} {a b : List Stmt} {t : Dn → Option Bool} (hc : PFT X c t) (ha : PZsX X S W a f) (hb : PZsX X S W b g) : PZX X S W (.If c a b pos) (sIfX t f g) := ⟨⟨(ps_if hc.pt ha.pds.pss hb.pds.pss).imp fun D σ H ⟨B, O, ρ, n, DD, XD, rs, ⟨r, e, q1, q2⟩, E, EX⟩ => by
  obtain ⟨k, e1, e2⟩ := Option.bind_eq_some_iff.mp e
  refine ⟨O, S.dv, ρ, k, rs.al, rs.rep, e1, fun H' s => ?_⟩
  cases k with
  | true => exact ⟨B, O, ρ, n, DD, XD, rs.same ok s, ⟨r, e2, q1, q2⟩, E, EX⟩
  | false => exact ⟨B, O, ρ, n, DD, XD, rs.same ok s, ⟨r, e2, q1, q2⟩, E, EX⟩⟩⟩
/-- what is raised where a value is asked for -/
theorem raised {K : PySem.W.Frag} {mg : Str → Option Value} {B H H' : Hp} {O : Hid} {σ : L2.St} {ρ : Dn} {n : Nat} {XD : XP} {e : ErrD} {cls : Value} {d : Option Addr} (ok : S.Ok) (rs : RepS K S B O H σ ρ n) (EX : EndX K mg S B XD W) (x : XD e ρ n) (s : Same H H') (ea : ErrAt K mg O H' e cls d) : W cls d σ H' :=
  EX e O cls d σ H' ρ n x (rs.same ok s) ea
def sExprX (f : DFX) : SFX := fun ρ => (f ρ).map fun r => match r with
  | .ok _ => .ok (.nx ρ)
  | .error e => .error (e, ρ)
theorem pzx_expr (ok : S.Ok) {e : Expr} {f : DFX} (h : PFX X S W e f) (hs : swapsWith e none pos.line X.env = pure false := by rfl) : PZX X S W (.Expr e pos) (sExprX f) := ⟨⟨(ps_expr h.pe hs).imp fun D σ H ⟨B, O, ρ, n, DD, XD, rs, ⟨r, e, q1, q2⟩, E, EX⟩ => by
  obtain ⟨r1, e1, rfl⟩ := Option.map_eq_some_iff.mp e
  refine ⟨B, O, ρ, n, r1, rs, e1, fun d hd v H' s dx => ?_, fun er he cls d H' s ea => ?_⟩
  · subst hd
    exact E.nx O σ H' ρ n (rs.same ok s) (q1 _ rfl)
  · subst he
    exact raised ok rs EX (q2 _ _ rfl) s ea⟩⟩
def sRetX (f : DFX) : SFX := fun ρ => (f ρ).map fun r => match r with
  | .ok d => .ok (.rt d)
  | .error e => .error (e, ρ)
theorem pzx_ret (ok : S.Ok) {e : Expr} {f : DFX} (h : PFX X S W e f) : PZX X S W (.Return (some e) pos) (sRetX f) := ⟨⟨(ps_ret h.pe).imp fun D σ H ⟨B, O, ρ, n, DD, XD, rs, ⟨r, e, q1, q2⟩, E, EX⟩ => by
  obtain ⟨r1, e1, rfl⟩ := Option.map_eq_some_iff.mp e
  refine ⟨B, O, ρ, n, r1, rs, e1, fun d hd v H' s dx => ?_, fun er he cls d H' s ea => ?_⟩
  · subst hd
    exact (rs.same ok s).out E dx (q1 _ rfl)
  · subst he
    exact raised ok rs EX (q2 _ _ rfl) s ea⟩⟩
end
/-! ### a def that may raise -/
def semX (N : Nat) (f : SFX) : List PyData → Option RX := fun ds => (f (startD N ds)).bind fun r => match r with
  | .ok (.rt d) => some (.ok d)
  | .ok (.nx _) => some (.ok .none)
  | .ok _ => none
  | .error (e, _) => some (.error e)
section
variable {P : Program} {w : World} {K : PySem.W.Frag} {mg : Str → Option Value} {base : Heap}
theorem fn_zX {x qual : Str} {st : Stmt} {N ps : List Str} {fa : Addr} {fd : FuncData} {k n : Nat} {f : SFX} (F : Fun K x qual st fa fd) (Sc : FnScope N ps (defScope st)) (hn : ps.length = n)
    (hb : ∀ (cdv : Value) (A : Around) (outer : List Env) (s : Shared) (H : Hp) (E : XK) (O : Hid) (W : WX), Al O H → (A.deeper (envOfC qual (defScope st) s.heap.objs.size fa cdv)).guards = some [] → Room k (A.deeper (envOfC qual (defScope st) s.heap.objs.size fa cdv)) → Takes (cxOf (L2.CX P w) P w K mg base N qual (defScope st) fa cdv A outer s H E) W →
      PZsX (cxOf (L2.CX P w) P w K mg base N qual (defScope st) fa cdv A outer s H E) (noDeck H O) W (defBody st) f) : FnG P w K mg base (L2.CX P w) (k + 1) fa fd ps (spX K mg n (semX N.length f)) := by
  refine FnG.body F Sc (fun vs H Q E h => ?_) (fun cdv A outer s H vs Q E hg hr h => ?_)
  · obtain ⟨O, ds, r, _, dx, hl, _⟩ := h
    rw [dx.len, hl, hn]
  · obtain ⟨O, ds, r, al, hd, hl, es, q1, q2⟩ := h
    have tk : Takes (cxOf (L2.CX P w) P w K mg base N qual (defScope st) fa cdv A outer s H E) (fun cls d _ H => E cls d H) := takes_of rfl rfl rfl rfl
    obtain ⟨r1, e1, e2⟩ := Option.bind_eq_some_iff.mp es
    refine ⟨_, (hb cdv A outer s H E O _ al hg hr tk).pds.pss, Fz O H, O, _, 0, ⟨fun _ _ => r = .ok .none, fun e _ => r = .ok e, fun _ _ => False, fun _ _ => False⟩, fun e _ _ => r = .error e, ⟨al, repE_start hd, fun b y e _ => e, fun _ h => h, fun _ h => h.elim, Same.refl _, fun i g og q e1 e2 e3 => ?_, trivial⟩, ⟨r1, e1, fun z hz => ?_, fun e ρ' hz => ?_⟩, ?_, ?_⟩
    · unfold startD at e1
      by_cases lt : i < ds.length
      · rw [List.getElem?_append_left (by rw [List.length_map]; exact lt), List.getElem?_map] at e1
        cases z : ds[i]? with
        | none => rw [z] at e1; cases e1
        | some d => rw [z] at e1; cases e1; exact e3.elim
      · rw [List.getElem?_append_right (by rw [List.length_map]; omega), List.getElem?_replicate] at e1
        split at e1 <;> cases e1
        exact e3.elim
    · subst hz
      cases z with
      | nx ρ' => cases e2; rfl
      | rt d => cases e2; rfl
      | bk ρ' => cases e2
      | ct ρ' => cases e2
    · subst hz
      cases e2
      rfl
    · refine ⟨fun O' σ' H' ρ' n' r' e => ?_, fun O' σ' H' ρ' n' r e => e, fun O' σ' H' ρ' n' r e => e, fun v H' e n' dx kp _ _ h => ?_⟩
      · exact q1 .none e .non H' (fun b y z => r'.kp b y z fun h => h) .non
      · exact q1 e h v H' (fun b y z => kp b y z fun h => h) dx
    · intro e O' cls d σ' H' ρ' n' h rs ea
      exact q2 e h cls d H' (fun b y z => rs.kp b y z fun h => h) (ea.shift (fz_less rs.sub H'))
end
end DS
namespace DS
open PySem PySem.Spec PyProof.Rows L2
/-! ### raise, and try -/
/-- what an own class of errors must have to be looked at -/
structure OwnC (K : PySem.W.Frag) (C : Addr) : Prop where
  ga : PySem.W.findIn K (.ref C) "__getattribute__" = some (some (.builtin "BaseException.__getattribute__"))
  gg : PySem.W.findIn K (.ref C) "__getattr__" = some none
  ex : PySem.W.subIn K (.ref C) (.type "BaseException") = some true
  ty : PySem.W.typeIn K (.ref C) = some (.type "type")
  hd : PySem.W.hasDictIn K C = true
  ca : PySem.W.findIn K (.ref C) "__class__" = some (some (.builtin "object.__class__"))
  cg : PySem.W.specialIn K (.builtin "object.__class__") "__get__" = some (some (.builtin "getset_descriptor.__get__"))
  ct : PySem.W.takesIn K (.builtin "object.__class__") = some true
  mo : PySem.W.mroIn K C (.type "object") = some true
theorem OwnX.c {K : PySem.W.Frag} {C f : Addr} (T : OwnX K C f) : OwnC K C := ⟨T.ga, T.gg, T.ex, T.ty, T.hd, T.ca, T.cg, T.ct, T.mo⟩
section
variable {X : Cx} {S : Fr} {W : WX} {a : Expr} {f : DF} {x : Str} {p pos pos' : Pos} {C fi : Addr}
def sRaise (c y : Str) (f : DF) : SFX := fun ρ => (f ρ).map fun d => .error (⟨c, some (y, d)⟩, ρ)
theorem pzx_raise (ok : S.Ok) (hc : X.calm = true) (tk : Takes X W) (T : OwnX X.K C fi) (gC : X.mg x = some (.ref C)) (hr : Room k X.A) (ha : PF X a f) (hg : Gl X x) (hx : (x == ("__debug__" : Str)) = false := by decide)
    (h1 : starEach (a :: []) X.env = (false, eval a X.env) :: starEach [] X.env := by rfl) (h2 : (backTo pos (starEach [] X.env)).any (·.1) = false := by rfl) : PZX X S W (.Raise (some (.Call (.Name x p) [a] [] pos)) none pos') (sRaise x "value" f) :=
  ⟨⟨(ps_raise hc tk (pmk_value T gC hr (pa_cons ha.pe pa_nil h1) hg hx h1 h2)).imp fun D σ H ⟨B, O, ρ, n, DD, XD, rs, ⟨r, e, q1, q2⟩, E, EX⟩ => by
    obtain ⟨d, e1, rfl⟩ := Option.map_eq_some_iff.mp e
    refine ⟨O, S.dv, ρ, d, rs.al, rs.rep, e1, fun v H1 s1 dx => ⟨v, rfl, fun dd nd => ?_⟩⟩
    have s2 : Same H1 (upd H1 dd (.xd [(("value" : Str), v)])) := new_same nd
    refine raised ok rs EX (q2 _ _ rfl) (s1.trans s2) ⟨gC, (fun h => nomatch h), fun y z q => ?_⟩
    cases q
    refine ⟨dd, v, rfl, ?_, dx.same (s2.fz O)⟩
    rw [fz_out ((rs.al.same s1).new nd)]
    exact upd_same⟩⟩
end
/-! the ends of suites that name the error -/
structure ClF where
  n : Str
  x : Value
  h : Addr → Option Addr → Str → SF
inductive EachF (X : Cx) (S : Fr) (Cs : List Str) (n : Str) : List ExceptHandler → List ClF → Prop
  | nil : EachF X S Cs n [] []
  | cons {x : Str} {c : ClF} {b₀ : Stmt} {su : List Stmt} {p1 p2 : Pos} {hs : List ExceptHandler} {l : List ClF} (nm : Names X x c.x) (hn : X.mg c.n = some c.x)
      (ok : ∀ (a : Addr) (oe : Obj) (cls : Value) (d : Option Addr) (pn : List (Addr × Obj)) (e : Str), Zc cls d oe → (∃ vs, oe.data = .fields vs) → X.mg e = some cls → e ∈ Cs → PZs (X.suite a ((a, oe) :: pn)) S (b₀ :: su) (c.h a d e)) (r : EachF X S Cs n hs l) :
      EachF X S Cs n (.ExceptHandler (some (.Name x p1)) (some n) (b₀ :: su) p2 :: hs) (c :: l)
def tsF (K : PySem.W.Frag) (mg : Str → Option Value) (S : Fr) (Cs : List Str) (c : ClF) : Addr → Value → Option Addr → TS := fun a cls d D σ H => ∃ e, mg e = some cls ∧ e ∈ Cs ∧ tS K S (dFun (c.h a d e)) D σ H
section
variable {X : Cx} {S : Fr} {W : WX} {Cs : List Str} {n : Str} {i : Nat} {body : List Stmt} {h₀ : ExceptHandler} {hs : List ExceptHandler} {l : List ClF} {pos : Pos} {fb : SFX} {kt : Str → Str → Option Bool}
theorem EachF.each (h : EachF X S Cs n hs l) : Each X n hs (l.map fun c => (c.x, tsF X.K X.mg S Cs c)) := by
  induction h with
  | nil => exact .nil
  | cons nm hn ok r ih => exact .cons nm (fun a oe cls d pn hz hf => ⟨fun pins s σ H D I ⟨e, he, hm, t⟩ => (ok a oe cls d pn e hz hf he hm).pds.pss.run pins s σ H D I t⟩) ih
theorem RepS.gone {K : PySem.W.Frag} {B H : Hp} {O : Hid} {σ : L2.St} {ρ : Dn} {m : Nat} (h : RepS K S B O H σ ρ m) (i : Nat) : RepS K S B O H (σ.set i none) (ρ.set i .na) m := h.wipe [i]
end
/-! ### what a suite asks of its error -/
section
variable {X : Cx} {a C : Addr} {oe : Obj} {cls : Value} {d : Option Addr} {pn : List (Addr × Obj)} {i : Nat}
/-- a class that is named -/
structure PCl (X : Cx) (e : Expr) (cv : Value) : Prop where
  ex : ∃ v, PE X e (tC v) ∧ ∀ u, RelV v u → u = cv
/-- the classes of a tuple -/
inductive PCls (X : Cx) : List Expr → List Value → Prop
  | nil : PCls X [] []
  | cons {e : Expr} {es : List Expr} {cv : Value} {cvs : List Value} (h : PCl X e cv) (r : PCls X es cvs) (hs : starEach (e :: es) X.env = (false, eval e X.env) :: starEach es X.env := by rfl) : PCls X (e :: es) (cv :: cvs)
theorem PCls.pa {X : Cx} {es : List Expr} {cvs : List Value} (h : PCls X es cvs) : ∃ vs : List V, PA X es (fun σ H Q => Q vs H) ∧ (∀ ws, Vals vs ws → ws = cvs) ∧ vs.length = cvs.length := by
  induction h with
  | nil => exact ⟨[], pa_nil.imp fun σ H Q q => q, fun ws r => by cases r; rfl, rfl⟩
  | cons h r hs ih =>
    obtain ⟨v, pv, rv⟩ := h.ex
    obtain ⟨vs, pvs, rvs, hl⟩ := ih
    refine ⟨v :: vs, (pa_cons pv pvs hs).imp fun σ H Q q => q, fun ws r => ?_, by rw [List.length_cons, List.length_cons, hl]⟩
    cases r with
    | cons r1 r2 => rw [rv _ r1, rvs _ r2]
end
end DS
namespace DS
open PySem PySem.Spec PyProof.Rows L2
/-! ### tables of what is known of classes -/
end DS
set_option maxHeartbeats 4000000
namespace DS
open PySem PySem.Spec PyProof.Rows L2
/-! ### readings of what may raise, by simp -/
section
variable {ρ : Dn} {f : DF} {fx : DFX} {ga : Dn → Option (List PyData)} {gx : DAX} {sf sg : SFX} {s : SF} {d : PyData} {e : ErrD} {i : Nat} {c y z : Str} {l : Dn} {a : Addr} {dd : Option Addr}
@[simp] theorem x_callX {m : Nat} {sem : List PyData → Option RX} : callX m sem ga ρ = (ga ρ).bind fun ds => if ds.length = m then sem ds else none := rfl
def consK (g : Option (Except ErrD (List PyData))) : RX → Option (Except ErrD (List PyData))
  | .error e => some (.error e)
  | .ok d => g.map fun r2 => r2.map fun ds => d :: ds
@[simp] theorem consK_ok {g : Option (Except ErrD (List PyData))} : consK g (.ok d) = g.map fun r2 => r2.map fun ds => d :: ds := rfl
@[simp] theorem consK_er {g : Option (Except ErrD (List PyData))} : consK g (.error e) = some (.error e) := rfl
@[simp] theorem ex_map_ok {α β : Type} {g : α → β} {x : α} : Except.map (ε := ErrD) g (.ok x) = .ok (g x) := rfl
@[simp] theorem ex_map_er {α β : Type} {g : α → β} : Except.map (ε := ErrD) g (.error e) = .error e := rfl
def resK (ρ : Dn) (k : PyData → Res) : RX → Except (ErrD × Dn) Res
  | .error e => .error (e, ρ)
  | .ok d => .ok (k d)
@[simp] theorem resK_ok {k : PyData → Res} : resK ρ k (.ok d) = .ok (k d) := rfl
@[simp] theorem resK_er {k : PyData → Res} : resK ρ k (.error e) = .error (e, ρ) := rfl
@[simp] theorem x_retX : sRetX fx ρ = (fx ρ).map (resK ρ .rt) := by
  unfold sRetX
  congr
  funext r
  cases r <;> rfl
@[simp] theorem x_exprX : sExprX fx ρ = (fx ρ).map (resK ρ fun _ => .nx ρ) := by
  unfold sExprX
  congr
  funext r
  cases r <;> rfl
@[simp] theorem x_raise : sRaise c y f ρ = (f ρ).map fun d => .error (⟨c, some (y, d)⟩, ρ) := rfl
@[simp] theorem x_okS : okZS s ρ = (s ρ).map .ok := rfl
def seqK (g : SFX) : Except (ErrD × Dn) Res → Option (Except (ErrD × Dn) Res)
  | .error z => some (.error z)
  | .ok (.nx ρ') => g ρ'
  | .ok z => some (.ok z)
@[simp] theorem seqK_er {w : ErrD × Dn} : seqK sg (.error w) = some (.error w) := rfl
@[simp] theorem seqK_nx : seqK sg (.ok (.nx ρ)) = sg ρ := rfl
@[simp] theorem seqK_rt : seqK sg (.ok (.rt d)) = some (.ok (.rt d)) := rfl
@[simp] theorem seqK_bk : seqK sg (.ok (.bk ρ)) = some (.ok (.bk ρ)) := rfl
@[simp] theorem seqK_ct : seqK sg (.ok (.ct ρ)) = some (.ok (.ct ρ)) := rfl
@[simp] theorem x_seqX : seqX sf sg ρ = (sf ρ).bind (seqK sg) := by
  unfold seqX
  congr
@[simp] theorem x_ifS {t : Dn → Option Bool} : sIfX t sf sg ρ = (t ρ).bind fun b => if b = true then sf ρ else sg ρ := rfl
def finK : Except (ErrD × Dn) Res → Option RX
  | .ok (.rt d) => some (.ok d)
  | .ok (.nx _) => some (.ok .none)
  | .ok _ => none
  | .error (e, _) => some (.error e)
@[simp] theorem finK_rt : finK (.ok (.rt d)) = some (.ok d) := rfl
@[simp] theorem finK_nx : finK (.ok (.nx ρ)) = some (.ok .none) := rfl
@[simp] theorem finK_er : finK (.error (e, ρ)) = some (.error e) := rfl
@[simp] theorem x_semX {N : Nat} {ds : List PyData} : semX N sf ds = (sf (startD N ds)).bind finK := by
  unfold semX
  congr
end
end DS
namespace DS
open PySem PySem.Spec PyProof.Rows L2
end DS
namespace DS
open PySem PySem.Spec PyProof.Rows L2
section
variable {X : Cx} {S : Fr}
/-- list(text) -/
def strL (f : DF) : Dn → Option (List PyData) := fun ρ => (f ρ).bind fun d => match d with
  | .str x => if x.length < lim then some (chrsD x) else none
  | _ => none
theorem chrs_dx {K : PySem.W.Frag} {H : Hp} (y : Str) : DxAll K H (sgs y) (chrsD y) := by
  unfold sgs chrsD
  generalize y.cps.toList = l
  induction l with
  | nil => exact .nil
  | cons c l ih => exact .cons (.str _) ih
theorem pfl_listS {e : Expr} {f : DF} {p pos : Pos} (hc : X.calm = true) (hg : Gl X "list") (hm : X.mg "list" = none) (ha : PF X e f) (hs : starEach [e] X.env = (false, eval e X.env) :: starEach [] X.env := by rfl) (hpl : (backTo pos (starEach [] X.env)).any (·.1) = false := by rfl) :
    PFL X (.Call (.Name "list" p) [e] [] pos) (strL f) := ⟨(pe_callTy (call_listS hc) hg hm (by decide +kernel) (pa_cons ha.pe pa_nil hs) (by decide) (by decide) hs hpl).imp fun σ H Q ⟨O, dv, ρ, d, al, r, e, q⟩ => by
  obtain ⟨x, e1, e2⟩ := Option.bind_eq_some_iff.mp e
  cases x with
  | str y =>
    have e2 : (if y.length < lim then some (chrsD y) else none) = some d := e2
    by_cases hl : y.length < lim
    · rw [if_pos hl] at e2
      cases e2
      refine ⟨O, dv, ρ, .str y, al, r, e1, fun v H' s hv => ?_⟩
      cases hv
      exact ⟨y, rfl, Nat.le_of_lt (lim_le hl), fun l nl => q l _ _ (s.trans (new_same nl)) (s.free nl) upd_same (chrs_dx y)⟩
    · rw [if_neg hl] at e2
      cases e2
  | _ => cases e2⟩
/-! rows of one's own, as functions -/
def sRows (i : Nat) (f : Dn → Option (List (List PyData))) : SF := fun ρ => (f ρ).map fun dss => .nx (ρ.set i (.rows dss))
theorem pz_of_rows {st : Stmt} {i : Nat} {f : Dn → Option (List (List PyData))} (h : PD X S st (dRows i f)) : PZ X S st (sRows i f) := ⟨h.imp fun DD ρ n ⟨r, e, t⟩ => by
  obtain ⟨d, e1, rfl⟩ := Option.map_eq_some_iff.mp e
  exact ⟨d, e1, t⟩⟩
def intO : PyData → Option Nat
  | .int j => if 0 ≤ j then some j.toNat else none
  | _ => none
theorem intO_in {d : PyData} {j : Nat} (h : intO d = some j) : d = .int (j : Int) := by
  cases d with
  | int i =>
    have h : (if 0 ≤ i then some i.toNat else none) = some j := h
    by_cases z : 0 ≤ i
    · rw [if_pos z] at h
      cases h
      rw [Int.toNat_of_nonneg z]
    · rw [if_neg z] at h
      cases h
  | _ => cases h
end
end DS
set_option maxHeartbeats 4000000
namespace DS
open PySem PySem.Spec PyProof.Rows L2
/-! ### r[i][j], r[k][l] = x, y: rows of one's own, a tuple or a list on the right -/
def rowPut (i : Nat) (fa fb : DF) (x : PyData) : Dn → Option Dn := fun ρ => (getR i ρ).bind fun dss => (fa ρ).bind fun a => (intO a).bind fun j => (fb ρ).bind fun b => (intO b).bind fun k => match dss[j]? with
  | some row => if k < row.length then some (ρ.set i (.rows (dss.set j (row.set k x)))) else none
  | none => none
theorem rowPut_in {i : Nat} {fa fb : DF} {x : PyData} {ρ ρ' : Dn} (h : rowPut i fa fb x ρ = some ρ') : ∃ (j k : Nat) (dss : List (List PyData)) (row : List PyData), getR i ρ = some dss ∧ fa ρ = some (.int j) ∧ fb ρ = some (.int k) ∧ dss[j]? = some row ∧ k < row.length ∧ ρ' = ρ.set i (.rows (dss.set j (row.set k x))) := by
  obtain ⟨dss, e2, e⟩ := Option.bind_eq_some_iff.mp h
  obtain ⟨a, e3, e⟩ := Option.bind_eq_some_iff.mp e
  obtain ⟨j, e4, e⟩ := Option.bind_eq_some_iff.mp e
  obtain ⟨b, e5, e⟩ := Option.bind_eq_some_iff.mp e
  obtain ⟨k, e6, e⟩ := Option.bind_eq_some_iff.mp e
  have a1 := intO_in e4
  have a2 := intO_in e6
  subst a1 a2
  cases er : dss[j]? with
  | none =>
    rw [er] at e
    cases e
  | some row =>
    rw [er] at e
    have e : (if k < row.length then some (ρ.set i (.rows (dss.set j (row.set k x)))) else none) = some ρ' := e
    by_cases hk : k < row.length
    · rw [if_pos hk] at e
      cases e
      exact ⟨j, k, dss, row, e2, e3, e5, er, hk, rfl⟩
    · rw [if_neg hk] at e
      cases e
section
variable {X : Cx} {S : Fr} {a b a2 b2 c1 c2 : Expr} {fa fb fa2 fb2 : DF} {pos : Pos}
theorem refs_inj : ∀ {as bs : List Addr}, as.map V.ref = bs.map V.ref → as = bs
  | [], [], _ => rfl
  | [], _ :: _, h => nomatch h
  | _ :: _, [], h => nomatch h
  | x :: xs, y :: ys, h => by
    injection h with h1 h2
    injection h1 with h1
    rw [h1, refs_inj h2]
/-- one place of the rows -/
theorem row_put (ok : S.Ok) {i : Nat} {H : Hp} {B : Hp} {O : Hid} {σ : L2.St} {ρ ρ' : Dn} {n : Nat} {y : PyData} {v : V} {Q : L2.St → Hp → Prop} (r : RepS X.K S B O H σ ρ n) (e : rowPut i fa fb y ρ = some ρ') (dv : Dx X.K (Fz O H) v y)
    (q : ∀ H', RepS X.K S (Fz O H) O H' σ ρ' n → Q σ H') : gSub (tOp (rIxL X.K) (tVar i) (tF X.K fa)) (tF X.K fb) rSetL v σ H Q := by
  obtain ⟨j, k, dss, row, e2, e3, e4, e5, hk, rfl⟩ := rowPut_in e
  obtain ⟨ov, z1, p, qs, z2, z3, z4, z5, z6, z7⟩ := r.rep.2 i _ (getR_some e2)
  subst z2
  refine ⟨.ref p, z1, O, S.dv, ρ, _, r.al, r.rep, e3, fun v2 H2 s2 dv2 => ?_⟩
  cases dv2
  have r2 := r.here.same ok s2
  obtain ⟨q1, us, w1, w2, w3, w4⟩ := z7.get e5
  refine ⟨p, _, _, .ref q1, rfl, rfl, SqL.of (s2 _ _ z4), atI_nat (by rw [List.getElem?_map, w1]; rfl), O, S.dv, ρ, _, r2.al, r2.rep, e4, fun v3 H3 s3 dv3 => ?_⟩
  cases dv3
  have r3 := r2.same ok s3
  have s13 := s2.trans s3
  have lk : k < us.length := by rw [w4.len]; exact hk
  refine ⟨q1, us, _, k, rfl, rfl, s13 _ _ w3, ixN_nat lk, ?_⟩
  obtain ⟨ov', y1, p', qs', y2, y3, y4, y5, y6, y7⟩ := r3.rep.2 i _ (getR_some e2)
  rw [z1] at y1
  cases y1
  cases y2
  have eq : qs' = qs := by
    have := s13 _ _ z4
    rw [y4] at this
    exact refs_inj (HO.lst.inj (Option.some.inj this))
  subst eq
  have mem : q1 ∈ qs' := List.mem_of_getElem? w1
  have dxs : DxAll X.K (Fz O H3) (us.set k v) (row.set k y) := setDx ((dv.same (s2.fz O)).same (s3.fz O)) k ((w4.same (s2.fz O)).same (s3.fz O))
  have hq : O q1 := (y7.there q1 mem).1
  have np : p ≠ q1 := fun w => y5 (w ▸ mem)
  exact q _ (r3.poke ok (e' := .rows (dss.set j (row.set k y))) (getR_some e2) z1 (q := q1) (.inr ⟨p, _, rfl, y4, List.mem_map_of_mem mem⟩) ⟨p, qs', rfl, y3, by rw [upd_ne np]; exact y4, y5, y6, RowsOk.put dxs hq y7 y6 w1⟩ fun a z => by
    rcases z with z | ⟨p', ws, z1, z2, z3⟩
    · exact .inl z
    · cases z1
      rw [upd_ne np] at z2
      exact .inr ⟨p, ws, rfl, z2, z3⟩)
def dRow2 (i : Nat) (gc : Dn → Option (List PyData)) (fa fb fa2 fb2 : DF) : TD := fun DD ρ n => ∃ x y ρ1 ρ2, gc ρ = some [x, y] ∧ rowPut i fa fb x ρ = some ρ1 ∧ rowPut i fa2 fb2 y ρ1 = some ρ2 ∧ DD.nx ρ2 n
/-- from the values on -/
theorem row2_in (ok : S.Ok) {i : Nat} {D : Ends} {DD : EnD} {B H : Hp} {O : Hid} {σ : L2.St} {ρ ρ1 ρ2 : Dn} {n : Nat} {x y : PyData} {v u : V} (r : RepS X.K S B O H σ ρ n) (E : Ends2 X.K S B DD D) (e1 : rowPut i fa fb x ρ = some ρ1) (e2 : rowPut i fa2 fb2 y ρ1 = some ρ2)
    (d1 : Dx X.K (Fz O H) v x) (d2 : Dx X.K (Fz O H) u y) (t : DD.nx ρ2 n) : gCons (gSub (tOp (rIxL X.K) (tVar i) (tF X.K fa)) (tF X.K fb) rSetL) (gCons (gSub (tOp (rIxL X.K) (tVar i) (tF X.K fa2)) (tF X.K fb2) rSetL) gNil) [v, u] σ H D.nx :=
  ⟨v, [u], rfl, row_put ok r e1 d1 fun H1 r1 => ⟨u, [], rfl, row_put ok r1 e2 (d2.same r1.fz) fun H2 r2 => ⟨rfl, E.nx O σ H2 ρ2 n ((r2.base r1.fz).base r.fz) t⟩⟩⟩
theorem pd_row2T (ok : S.Ok) {i : Nat} {gc : Dn → Option (List PyData)} {tg : Expr} {p8 : Pos} {k2} (hcc : PFA X [c1, c2] gc) (hg : PG X tg (gTup X.K 2 (gCons (gSub (tOp (rIxL X.K) (tVar i) (tF X.K fa)) (tF X.K fb) rSetL) (gCons (gSub (tOp (rIxL X.K) (tVar i) (tF X.K fa2)) (tF X.K fb2) rSetL) gNil))))
    (hs : swapsWithSole [tg] (.Tuple [c1, c2] k2 p8) pos.line X.env = pure false := by rfl) (hw : swappedStores [tg] (.Tuple [c1, c2] k2 p8) X.env = pure none := by rfl) (h1 : (assignEach [tg] X.env).map (·.2) = [assign tg X.env] := by rfl) :
    PD X S (.Assign [tg] (.Tuple [c1, c2] k2 p8) pos) (dRow2 i gc fa fb fa2 fb2) :=
  ⟨(ps_asg (pe_tup hcc.pa) hg hs hw h1).imp fun D σ H ⟨B, O, ρ, n, DD, r, ⟨y, z, ρ1, ρ2, e0, e1, e2, t⟩, E⟩ => by
    refine ⟨O, S.dv, ρ, _, r.al, r.rep, e0, fun vs H1 s1 dv => ?_⟩
    cases dv with
    | cons h1 h2 =>
      cases h2 with
      | cons h2 h3 =>
        cases h3
        refine ⟨(show 2 ≤ sizeLine by decide), fun p np => ?_⟩
        have r1 := r.same ok s1
        refine ⟨p, _, rfl, SqT.of upd_same, rfl, row2_in ok (r1.same ok (new_same np)) E e1 e2 (h1.same ((new_same np).fz O)) (h2.same ((new_same np).fz O)) t⟩⟩
theorem pd_row2L (ok : S.Ok) {i : Nat} {gc : Dn → Option (List PyData)} {tg : Expr} {p8 : Pos} (hcc : PFA X [c1, c2] gc) (hg : PG X tg (gUnl X.K 2 (gCons (gSub (tOp (rIxL X.K) (tVar i) (tF X.K fa)) (tF X.K fb) rSetL) (gCons (gSub (tOp (rIxL X.K) (tVar i) (tF X.K fa2)) (tF X.K fb2) rSetL) gNil))))
    (hs : swapsWithSole [tg] (.List [c1, c2] p8) pos.line X.env = pure false := by rfl) (hw : swappedStores [tg] (.List [c1, c2] p8) X.env = pure none := by rfl) (h1 : (assignEach [tg] X.env).map (·.2) = [assign tg X.env] := by rfl) :
    PD X S (.Assign [tg] (.List [c1, c2] p8) pos) (dRow2 i gc fa fb fa2 fb2) :=
  ⟨(ps_asg (pe_lst hcc.pa) hg hs hw h1).imp fun D σ H ⟨B, O, ρ, n, DD, r, ⟨y, z, ρ1, ρ2, e0, e1, e2, t⟩, E⟩ => by
    refine ⟨O, S.dv, ρ, _, r.al, r.rep, e0, fun vs H1 s1 dv => ?_⟩
    cases dv with
    | cons h1 h2 =>
      cases h2 with
      | cons h2 h3 =>
        cases h3
        refine ⟨(show 2 ≤ sizeLine by decide), fun p np => ?_⟩
        have r1 := r.same ok s1
        refine ⟨p, _, rfl, SqL.of upd_same, rfl, row2_in ok (r1.same ok (new_same np)) E e1 e2 (h1.same ((new_same np).fz O)) (h2.same ((new_same np).fz O)) t⟩⟩
def sRow2 (i : Nat) (gc : Dn → Option (List PyData)) (fa fb fa2 fb2 : DF) : SF := fun ρ => (gc ρ).bind fun l => match l with
  | [x, y] => (rowPut i fa fb x ρ).bind fun ρ1 => (rowPut i fa2 fb2 y ρ1).bind fun ρ2 => some (.nx ρ2)
  | _ => none
theorem pz_of_row2 {st : Stmt} {i : Nat} {gc : Dn → Option (List PyData)} (h : PD X S st (dRow2 i gc fa fb fa2 fb2)) : PZ X S st (sRow2 i gc fa fb fa2 fb2) := ⟨h.imp fun DD ρ n ⟨r, e, t⟩ => by
  obtain ⟨l, e0, e⟩ := Option.bind_eq_some_iff.mp e
  match l, e with
  | [x, y], e =>
    obtain ⟨ρ1, e1, e⟩ := Option.bind_eq_some_iff.mp e
    obtain ⟨ρ2, e2, e⟩ := Option.bind_eq_some_iff.mp e
    cases e
    exact ⟨x, y, ρ1, ρ2, e0, e1, e2, t⟩⟩
end
end DS
set_option maxHeartbeats 4000000
namespace DS
open PySem PySem.Spec PySem.Calls PyProof.Rows L2
/-! ### own errors that keep one value -/
def initA_error (p1 p2 : Pos) : Arguments where
  posonlyargs := []
  args := [⟨"self", none, p1⟩, ⟨"error", none, p2⟩]
  vararg := none
  kwonlyargs := []
  kw_defaults := []
  kwarg := none
  defaults := []
def initB_error (q1 q2 q3 q4 : Pos) : List Stmt := [Stmt.Assign [Expr.Attribute (Expr.Name "self" q1) "error" q2] (Expr.Name "error" q3) q4]
def initS_error : Scope where
  kind := .function
  names := [("self", .local), ("error", .local)]
  isGenerator := false
  isCoroutine := false
  more := []
/-- what is written of the class at C and of its __init__ at f -/
structure OwnX_error (K : PySem.W.Frag) (C f : Addr) : Prop where
  base : ∃ (B n i : String) (l : List Value), ExcBaseFacts B n i l ∧ StoreFacts B l "object.__setattr__" "object" ∧ PySem.W.excInitIn K C l n = true ∧ PySem.W.excOver K C l = true
  sa : PySem.W.findIn K (.ref C) "__setattr__" = some (some (.builtin "object.__setattr__"))
  ga : PySem.W.findIn K (.ref C) "__getattribute__" = some (some (.builtin "BaseException.__getattribute__"))
  gg : PySem.W.findIn K (.ref C) "__getattr__" = some none
  no : PySem.W.findIn K (.ref C) "error" = some none
  ini : PySem.W.findIn K (.ref C) "__init__" = some (some (.ref f))
  ft : PySem.W.typeIn K (.ref f) = some (.type "function")
  kp : PySem.W.keepIn K (.ref C) = true
  ex : PySem.W.subIn K (.ref C) (.type "BaseException") = some true
  ty : PySem.W.typeIn K (.ref C) = some (.type "type")
  hd : PySem.W.hasDictIn K C = true
  ca : PySem.W.findIn K (.ref C) "__class__" = some (some (.builtin "object.__class__"))
  cg : PySem.W.specialIn K (.builtin "object.__class__") "__get__" = some (some (.builtin "getset_descriptor.__get__"))
  ct : PySem.W.takesIn K (.builtin "object.__class__") = some true
  mo : PySem.W.mroIn K C (.type "object") = some true
  fn : ∃ (nm : Str) (oc : Value) (od : Option Addr) (doc pm : Value) (an : Option Addr) (cdv c3 : Value) (osl : Array (Option Value)) (p1 p2 q1 q2 q3 q4 : Pos),
    K.lookup f = some ⟨oc, od, .func (PySem.W.fnOf "__init__" nm (initA_error p1 p2) (initB_error q1 q2 q3 q4) initS_error .none .none doc pm an cdv c3), osl⟩ ∧ PySem.W.codeIn K cdv nm = true
/-- the error at e as it was made of v, its dict at d -/
structure Made1_error (h h' : Heap) (e C d : Addr) (v : Value) : Prop where
  old : ∀ b o, h.get? b = some o → h'.get? b = some o
  big : h.objs.size ≤ e
  obj : ∃ t1 : Addr, h'.get? e = some { cls := .ref C, dict := some d, data := .fields #[.ref t1, .none, .none, .none, .bool false, .none] }
  dbig : h.objs.size ≤ d
  ne : d ≠ e
  ns : h'.Ns1 d (fun y => if y = "error" then some v else none)
section
variable {prog : Program} {w : World} {A : Around} {E : Value → Shared → Prop} {R : Result → Shared → Prop} {K : PySem.W.Frag} {C f : Addr} {hp : Heap} {g : Array GenState} {dr : Drawn} {t : Nat} {os : OsState}
/-- the first field of an error -/
theorem first_field_error {x t1 : Addr} {v : Value} {tk : Tok} (T : OwnX_error K C f) (X : K.In hp) (hx : hp.get? x = some (PySem.HandSPX.excO C t1))
    (q : ∀ h' tk' dx, (∀ b o, b ≠ x → hp.get? b = some o → h'.get? b = some o) → hp.objs.size ≤ dx → dx ≠ x → h'.get? x = some { cls := .ref C, dict := some dx, data := .fields #[.ref t1, .none, .none, .none, .bool false, .none] } →
      h'.Ns1 dx (fun y => if y = "error" then some v else none) → R (.ok (.ret .none)) ⟨h', g, dr, tk', os⟩) :
    codeAny (model prog w) A (.call (.builtin "object.__setattr__") ⟨[.ref x, .str "error" tk, v], []⟩) R ⟨hp, g, dr, t, os⟩ := by
  obtain ⟨B, n, i, l, FB, SF, hi, ho⟩ := T.base
  have nt : PySem.W.takerIn K C "error" = some none := by
    unfold PySem.W.takerIn
    rw [T.no] <;> rfl
  obtain ⟨cd, hc, hd⟩ := PySem.W.any_some T.hd
  have lt := Heap.lt_size hx
  refine PySem.W.osa_openX (s := ⟨hp, g, dr, t, os⟩) (od := none) (ox := PySem.HandSPX.excO C t1) SF X ⟨hx, rfl, rfl, trivial⟩ ho nt fun b => ?_
  refine wpAny_bind (wpAny_pure (wpAny_bind (PySem.W.instanceDict_exc (c2 := .none) hx (PySem.W.looks_clsIn X hc) hd ?_)))
  refine PySem.HandSPX.store_in_new ?_ fun h' tk' hn sb => ?_
  · exact ⟨_, #[], _, (Heap.get?_update_ne _ _ _ _ (Nat.ne_of_gt lt)).trans (Heap.get?_push_at rfl rfl), rfl, fun e he => absurd he (by simp), fun _ => rfl⟩
  · have nx : x ≠ hp.objs.size := Nat.ne_of_lt lt
    refine q h' tk' _ (fun b o hb hbo => ?_) (Nat.le_refl _) nx.symm ?_ hn
    · rw [sb.2 b (Nat.ne_of_lt (Heap.lt_size hbo)), Heap.get?_update_ne _ _ _ _ hb]
      exact Heap.get?_push_of_some _ hbo
    · rw [sb.2 x nx]
      exact Heap.get?_update_self _ (Heap.get?_push_of_some _ hx) rfl
/-- C(v) -/
theorem make_own_error {s : Shared} {v : Value} (T : OwnX_error K C f) (X : K.In s.heap) (lim : s.heap.NoLimit) (room : A.depth + 1 < recursionLimit)
    (q : ∀ h' tk e d, Made1_error s.heap h' e C d v → R (.ok (.ret (.ref e))) { s with heap := h', toks := tk }) : codeAny (model prog w) A (.call (.ref C) ⟨[v], []⟩) R s := by
  obtain ⟨nm, oc, od, doc, pm, an, cdv, c3, osl, p1, p2, q1, q2, q3, q4, lk, cod⟩ := T.fn
  obtain ⟨B, n, i, l, FB, SF, hi, ho⟩ := T.base
  obtain ⟨m1, N, m2, bs, bm, hdct, sn, sub, ab, col, dd, k0, k1, k2, k3, k5, hC, hT⟩ := PySem.W.excInit_of X hi
  obtain ⟨hp, g, dr, tk, os⟩ := s
  have up : ∀ b o, hp.get? b = some o → ((hp.push (PySem.W.kdv_tup [v])).push (PySem.HandSPX.excO C hp.objs.size)).get? b = some o := fun b o e => Heap.get?_push_of_some _ (Heap.get?_push_of_some _ e)
  have hx : ((hp.push (PySem.W.kdv_tup [v])).push (PySem.HandSPX.excO C hp.objs.size)).get? (hp.objs.size + 1) = some (PySem.HandSPX.excO C hp.objs.size) := by heap_get
  have one : [v].length ≤ sizeLine := (show 1 ≤ sizeLine by decide)
  refine PySem.HandSPX.call_own FB hT hC (PySem.W.looks_findIn X T.ini) (fun self => PySem.W.bind_fn X self T.ft) one ?_
  generalize eh : (hp.push (PySem.W.kdv_tup [v])).push (PySem.HandSPX.excO C hp.objs.size) = h1 at up hx ⊢
  have X1 : K.In h1 := X.keeps up
  refine Att.call_fn (s := ⟨h1, g, dr, tk, os⟩) (binds := [("self", .ref (hp.objs.size + 1)), ("error", v)]) X1 (Heap.NoLimit.keeps lim up) lk cod (by show A.depth + 1 < _; exact room) (BindsTo.of_eq (by with_unfolding_all rfl)) (by with_unfolding_all rfl) (fun s₁ IC => ?_) rfl rfl rfl
  obtain ⟨h2, t2, rfl⟩ := IC.toInCall.same
  have up2 : ∀ b o, h1.get? b = some o → h2.get? b = some o := IC.toInCall.keep
  have ns := IC.toInCall.ns
  have ld : ∀ {x : Str} {u : Value} {pos : Pos} {Q : Value → Shared → Prop} {A' : Around} {E' : Value → Shared → Prop}, bindL (envOfC nm initS_error h1.objs.size f cdv).kindOf [("self", .ref (hp.objs.size + 1)), ("error", v)] (fun _ => none) x = some u → (envOfC nm initS_error h1.objs.size f cdv).kindOf x = some .local → (x == ("__debug__" : Str)) = false →
      Q u ⟨h2, g, dr, t2, os⟩ → wpAny (model prog w) A' (eval (.Name x pos) (envOfC nm initS_error h1.objs.size f cdv)) Q E' ⟨h2, g, dr, t2, os⟩ := fun a b c d => wpAny_Name (wpAny_loadName_local rfl b ns a d) c
  refine wpAny_execs_cons (plainObj_wpAny_Assign_Attribute ?_)
  refine ld (by with_unfolding_all rfl) rfl (by decide) (ld (by with_unfolding_all rfl) rfl (by decide) ?_)
  refine PySem.W.set_plain (X1.keeps up2) (ox := PySem.HandSPX.excO C hp.objs.size) (od := none) ⟨up2 _ _ hx, rfl, rfl, trivial⟩ T.sa ?_
  refine first_field_error T (X1.keeps up2) (up2 _ _ hx) fun h3 t3 dx kp dn dne ob nd => ?_
  have sz : h1.objs.size < h2.objs.size := ns.lt
  have sz1 : h1.objs.size = hp.objs.size + 1 + 1 := by
    rw [← eh, Heap.size_push, Heap.size_push]
  refine wpAny_execs_nil ⟨rfl, q h3 t3 (hp.objs.size + 1) dx ⟨fun b o e => kp b o (Nat.ne_of_lt (Nat.lt_succ_of_lt (Heap.lt_size e))) (up2 b o (up b o e)), Nat.le_succ _, ⟨_, ob⟩, (by
    have z : h2.objs.size ≤ dx := dn
    show hp.objs.size ≤ dx
    omega), dne, nd⟩⟩
end
section
variable {X : Cx} {C f : Addr}
theorem rel_value_error {v : V} {u : Value} (r : RelV v u) (y : Str) : RelO (List.lookup y [(("error" : Str), v)]) (if y = "error" then some u else none) := by
  by_cases e : y = "error"
  · rw [if_pos e, e]
    have z : List.lookup ("error" : Str) [(("error" : Str), v)] = some v := by simp [List.lookup]
    rw [z]
    exact r
  · rw [if_neg e]
    have e2 : (y == ("error" : Str)) = false := by simpa using e
    have z : List.lookup y [(("error" : Str), v)] = none := by simp [List.lookup, e2]
    rw [z]
    trivial
/-- x(e), x an error that keeps its value -/
def tMkV_error (C : Addr) (ta : TA) : L2.St → Hp → XK → Prop := fun σ H Q => ta σ H fun vs H1 => ∃ v, vs = [v] ∧ ∀ d, H1 d = none → Q (.ref C) (some d) (upd H1 d (.xd [(("error" : Str), v)]))
theorem pmk_value_error {x : Str} {a : Expr} {ta : TA} {p pos : Pos} {k : Nat} (T : OwnX_error X.K C f) (gC : X.mg x = some (.ref C)) (hr : Room k X.A) (ha : PA X [a] ta) (hg : Gl X x) (hx : (x == ("__debug__" : Str)) = false := by decide)
    (h1 : starEach (a :: []) X.env = (false, eval a X.env) :: starEach [] X.env := by rfl) (h2 : (backTo pos (starEach [] X.env)).any (·.1) = false := by rfl) : PMk X (.Call (.Name x p) [a] [] pos) (tMkV_error C ta) := by
  intro pins s σ H Q I h
  refine wpAny_Call_Name_kw (ld_glob I hg gC ?_ hx)
  refine PySem.W.callWith_K (h₀ := X.base) I.ok.mod.kin T.kp (thn (ha.run pos pins s σ H _ I h) fun us s1 z => ?_) h1 h2
  obtain ⟨vs, H1, I1, r1, v, rfl, q1⟩ := z
  refine ⟨I1.kIn, ?_⟩
  obtain ⟨u, rfl, ru⟩ := vals1 r1
  have lim := I1.nolimit
  obtain ⟨hp, g, dr, tk, os⟩ := s1
  refine wpAny_call (make_own_error T I1.kIn lim (by have := hr.dp; omega) fun h' tk' e d M => ?_)
  show MkP X pins σ Q (.ref e) ⟨h', g, dr, tk', os⟩
  obtain ⟨t1, oe⟩ := M.obj
  obtain ⟨G, g1, g2⟩ := restrict h' fun b => decide (b ≠ e)
  have same : ∀ b, b ≠ e → G.get? b = h'.get? b := fun b hb => g1 b (decide_eq_true hb)
  have gone : G.get? e = none := g2 e (by simp)
  have old : ∀ b o, hp.get? b = some o → G.get? b = some o := fun b o z => (same b (Nat.ne_of_lt (Nat.lt_of_lt_of_le (Heap.lt_size z) M.big))).trans (M.old b o z)
  have ob : ObjOk X.prog X.w (upd H1 d (.xd [(("error" : Str), v)])) G d (.xd [(("error" : Str), v)]) := ⟨_, M.ns.at (fun o z => (same d M.ne).trans z), fun y => rel_value_error ru y⟩
  have J : Inv X pins σ (upd H1 d (.xd [(("error" : Str), v)])) ⟨G, g, dr, tk', os⟩ := I1.laid (t' := tk') old M.dbig ob
  refine ⟨e, _, _, ⟨G, g, dr, tk', os⟩, _, .ref C, some d, rfl, J, fun b o z => ?_, gone, oe, ⟨rfl, rfl⟩, rfl, rfl, ?_, rfl, I1.bare, raises_own T.ex T.ty, q1 d (I1.hok.fresh M.dbig)⟩
  · by_cases hb : b = e
    · have z' : G.get? b = some o := z
      rw [hb, gone] at z'
      cases z'
    · exact (same b hb).symm.trans z
  · rw [upd_ne (Ne.symm M.ne)]
    exact I1.hok.fresh M.big
end
theorem OwnX_error.c {K : PySem.W.Frag} {C f : Addr} (T : OwnX_error K C f) : OwnC K C := ⟨T.ga, T.gg, T.ex, T.ty, T.hd, T.ca, T.cg, T.ct, T.mo⟩
section
variable {X : Cx} {S : Fr} {W : WX} {a : Expr} {f : DF} {x : Str} {p pos pos' : Pos} {C fi : Addr}
theorem pzx_raise_error (ok : S.Ok) (hc : X.calm = true) (tk : Takes X W) (T : OwnX_error X.K C fi) (gC : X.mg x = some (.ref C)) (hr : Room k X.A) (ha : PF X a f) (hg : Gl X x) (hx : (x == ("__debug__" : Str)) = false := by decide)
    (h1 : starEach (a :: []) X.env = (false, eval a X.env) :: starEach [] X.env := by rfl) (h2 : (backTo pos (starEach [] X.env)).any (·.1) = false := by rfl) : PZX X S W (.Raise (some (.Call (.Name x p) [a] [] pos)) none pos') (sRaise x "error" f) :=
  ⟨⟨(ps_raise hc tk (pmk_value_error T gC hr (pa_cons ha.pe pa_nil h1) hg hx h1 h2)).imp fun D σ H ⟨B, O, ρ, n, DD, XD, rs, ⟨r, e, q1, q2⟩, E, EX⟩ => by
    obtain ⟨d, e1, rfl⟩ := Option.map_eq_some_iff.mp e
    refine ⟨O, S.dv, ρ, d, rs.al, rs.rep, e1, fun v H1 s1 dx => ⟨v, rfl, fun dd nd => ?_⟩⟩
    have s2 : Same H1 (upd H1 dd (.xd [(("error" : Str), v)])) := new_same nd
    refine raised ok rs EX (q2 _ _ rfl) (s1.trans s2) ⟨gC, (fun h => nomatch h), fun y z q => ?_⟩
    cases q
    refine ⟨dd, v, rfl, ?_, dx.same (s2.fz O)⟩
    rw [fz_out ((rs.al.same s1).new nd)]
    exact upd_same⟩⟩
end
end DS
set_option maxHeartbeats 4000000
namespace DS
open PySem PySem.Spec PySem.Calls PyProof.Rows L2
/-! ### own errors that keep one value -/
def initA_limit (p1 p2 : Pos) : Arguments where
  posonlyargs := []
  args := [⟨"self", none, p1⟩, ⟨"limit", none, p2⟩]
  vararg := none
  kwonlyargs := []
  kw_defaults := []
  kwarg := none
  defaults := []
def initB_limit (q1 q2 q3 q4 : Pos) : List Stmt := [Stmt.Assign [Expr.Attribute (Expr.Name "self" q1) "limit" q2] (Expr.Name "limit" q3) q4]
def initS_limit : Scope where
  kind := .function
  names := [("self", .local), ("limit", .local)]
  isGenerator := false
  isCoroutine := false
  more := []
/-- what is written of the class at C and of its __init__ at f -/
structure OwnX_limit (K : PySem.W.Frag) (C f : Addr) : Prop where
  base : ∃ (B n i : String) (l : List Value), ExcBaseFacts B n i l ∧ StoreFacts B l "object.__setattr__" "object" ∧ PySem.W.excInitIn K C l n = true ∧ PySem.W.excOver K C l = true
  sa : PySem.W.findIn K (.ref C) "__setattr__" = some (some (.builtin "object.__setattr__"))
  ga : PySem.W.findIn K (.ref C) "__getattribute__" = some (some (.builtin "BaseException.__getattribute__"))
  gg : PySem.W.findIn K (.ref C) "__getattr__" = some none
  no : PySem.W.findIn K (.ref C) "limit" = some none
  ini : PySem.W.findIn K (.ref C) "__init__" = some (some (.ref f))
  ft : PySem.W.typeIn K (.ref f) = some (.type "function")
  kp : PySem.W.keepIn K (.ref C) = true
  ex : PySem.W.subIn K (.ref C) (.type "BaseException") = some true
  ty : PySem.W.typeIn K (.ref C) = some (.type "type")
  hd : PySem.W.hasDictIn K C = true
  ca : PySem.W.findIn K (.ref C) "__class__" = some (some (.builtin "object.__class__"))
  cg : PySem.W.specialIn K (.builtin "object.__class__") "__get__" = some (some (.builtin "getset_descriptor.__get__"))
  ct : PySem.W.takesIn K (.builtin "object.__class__") = some true
  mo : PySem.W.mroIn K C (.type "object") = some true
  fn : ∃ (nm : Str) (oc : Value) (od : Option Addr) (doc pm : Value) (an : Option Addr) (cdv c3 : Value) (osl : Array (Option Value)) (p1 p2 q1 q2 q3 q4 : Pos),
    K.lookup f = some ⟨oc, od, .func (PySem.W.fnOf "__init__" nm (initA_limit p1 p2) (initB_limit q1 q2 q3 q4) initS_limit .none .none doc pm an cdv c3), osl⟩ ∧ PySem.W.codeIn K cdv nm = true
/-- the error at e as it was made of v, its dict at d -/
structure Made1_limit (h h' : Heap) (e C d : Addr) (v : Value) : Prop where
  old : ∀ b o, h.get? b = some o → h'.get? b = some o
  big : h.objs.size ≤ e
  obj : ∃ t1 : Addr, h'.get? e = some { cls := .ref C, dict := some d, data := .fields #[.ref t1, .none, .none, .none, .bool false, .none] }
  dbig : h.objs.size ≤ d
  ne : d ≠ e
  ns : h'.Ns1 d (fun y => if y = "limit" then some v else none)
section
variable {prog : Program} {w : World} {A : Around} {E : Value → Shared → Prop} {R : Result → Shared → Prop} {K : PySem.W.Frag} {C f : Addr} {hp : Heap} {g : Array GenState} {dr : Drawn} {t : Nat} {os : OsState}
/-- the first field of an error -/
theorem first_field_limit {x t1 : Addr} {v : Value} {tk : Tok} (T : OwnX_limit K C f) (X : K.In hp) (hx : hp.get? x = some (PySem.HandSPX.excO C t1))
    (q : ∀ h' tk' dx, (∀ b o, b ≠ x → hp.get? b = some o → h'.get? b = some o) → hp.objs.size ≤ dx → dx ≠ x → h'.get? x = some { cls := .ref C, dict := some dx, data := .fields #[.ref t1, .none, .none, .none, .bool false, .none] } →
      h'.Ns1 dx (fun y => if y = "limit" then some v else none) → R (.ok (.ret .none)) ⟨h', g, dr, tk', os⟩) :
    codeAny (model prog w) A (.call (.builtin "object.__setattr__") ⟨[.ref x, .str "limit" tk, v], []⟩) R ⟨hp, g, dr, t, os⟩ := by
  obtain ⟨B, n, i, l, FB, SF, hi, ho⟩ := T.base
  have nt : PySem.W.takerIn K C "limit" = some none := by
    unfold PySem.W.takerIn
    rw [T.no] <;> rfl
  obtain ⟨cd, hc, hd⟩ := PySem.W.any_some T.hd
  have lt := Heap.lt_size hx
  refine PySem.W.osa_openX (s := ⟨hp, g, dr, t, os⟩) (od := none) (ox := PySem.HandSPX.excO C t1) SF X ⟨hx, rfl, rfl, trivial⟩ ho nt fun b => ?_
  refine wpAny_bind (wpAny_pure (wpAny_bind (PySem.W.instanceDict_exc (c2 := .none) hx (PySem.W.looks_clsIn X hc) hd ?_)))
  refine PySem.HandSPX.store_in_new ?_ fun h' tk' hn sb => ?_
  · exact ⟨_, #[], _, (Heap.get?_update_ne _ _ _ _ (Nat.ne_of_gt lt)).trans (Heap.get?_push_at rfl rfl), rfl, fun e he => absurd he (by simp), fun _ => rfl⟩
  · have nx : x ≠ hp.objs.size := Nat.ne_of_lt lt
    refine q h' tk' _ (fun b o hb hbo => ?_) (Nat.le_refl _) nx.symm ?_ hn
    · rw [sb.2 b (Nat.ne_of_lt (Heap.lt_size hbo)), Heap.get?_update_ne _ _ _ _ hb]
      exact Heap.get?_push_of_some _ hbo
    · rw [sb.2 x nx]
      exact Heap.get?_update_self _ (Heap.get?_push_of_some _ hx) rfl
/-- C(v) -/
theorem make_own_limit {s : Shared} {v : Value} (T : OwnX_limit K C f) (X : K.In s.heap) (lim : s.heap.NoLimit) (room : A.depth + 1 < recursionLimit)
    (q : ∀ h' tk e d, Made1_limit s.heap h' e C d v → R (.ok (.ret (.ref e))) { s with heap := h', toks := tk }) : codeAny (model prog w) A (.call (.ref C) ⟨[v], []⟩) R s := by
  obtain ⟨nm, oc, od, doc, pm, an, cdv, c3, osl, p1, p2, q1, q2, q3, q4, lk, cod⟩ := T.fn
  obtain ⟨B, n, i, l, FB, SF, hi, ho⟩ := T.base
  obtain ⟨m1, N, m2, bs, bm, hdct, sn, sub, ab, col, dd, k0, k1, k2, k3, k5, hC, hT⟩ := PySem.W.excInit_of X hi
  obtain ⟨hp, g, dr, tk, os⟩ := s
  have up : ∀ b o, hp.get? b = some o → ((hp.push (PySem.W.kdv_tup [v])).push (PySem.HandSPX.excO C hp.objs.size)).get? b = some o := fun b o e => Heap.get?_push_of_some _ (Heap.get?_push_of_some _ e)
  have hx : ((hp.push (PySem.W.kdv_tup [v])).push (PySem.HandSPX.excO C hp.objs.size)).get? (hp.objs.size + 1) = some (PySem.HandSPX.excO C hp.objs.size) := by heap_get
  have one : [v].length ≤ sizeLine := (show 1 ≤ sizeLine by decide)
  refine PySem.HandSPX.call_own FB hT hC (PySem.W.looks_findIn X T.ini) (fun self => PySem.W.bind_fn X self T.ft) one ?_
  generalize eh : (hp.push (PySem.W.kdv_tup [v])).push (PySem.HandSPX.excO C hp.objs.size) = h1 at up hx ⊢
  have X1 : K.In h1 := X.keeps up
  refine Att.call_fn (s := ⟨h1, g, dr, tk, os⟩) (binds := [("self", .ref (hp.objs.size + 1)), ("limit", v)]) X1 (Heap.NoLimit.keeps lim up) lk cod (by show A.depth + 1 < _; exact room) (BindsTo.of_eq (by with_unfolding_all rfl)) (by with_unfolding_all rfl) (fun s₁ IC => ?_) rfl rfl rfl
  obtain ⟨h2, t2, rfl⟩ := IC.toInCall.same
  have up2 : ∀ b o, h1.get? b = some o → h2.get? b = some o := IC.toInCall.keep
  have ns := IC.toInCall.ns
  have ld : ∀ {x : Str} {u : Value} {pos : Pos} {Q : Value → Shared → Prop} {A' : Around} {E' : Value → Shared → Prop}, bindL (envOfC nm initS_limit h1.objs.size f cdv).kindOf [("self", .ref (hp.objs.size + 1)), ("limit", v)] (fun _ => none) x = some u → (envOfC nm initS_limit h1.objs.size f cdv).kindOf x = some .local → (x == ("__debug__" : Str)) = false →
      Q u ⟨h2, g, dr, t2, os⟩ → wpAny (model prog w) A' (eval (.Name x pos) (envOfC nm initS_limit h1.objs.size f cdv)) Q E' ⟨h2, g, dr, t2, os⟩ := fun a b c d => wpAny_Name (wpAny_loadName_local rfl b ns a d) c
  refine wpAny_execs_cons (plainObj_wpAny_Assign_Attribute ?_)
  refine ld (by with_unfolding_all rfl) rfl (by decide) (ld (by with_unfolding_all rfl) rfl (by decide) ?_)
  refine PySem.W.set_plain (X1.keeps up2) (ox := PySem.HandSPX.excO C hp.objs.size) (od := none) ⟨up2 _ _ hx, rfl, rfl, trivial⟩ T.sa ?_
  refine first_field_limit T (X1.keeps up2) (up2 _ _ hx) fun h3 t3 dx kp dn dne ob nd => ?_
  have sz : h1.objs.size < h2.objs.size := ns.lt
  have sz1 : h1.objs.size = hp.objs.size + 1 + 1 := by
    rw [← eh, Heap.size_push, Heap.size_push]
  refine wpAny_execs_nil ⟨rfl, q h3 t3 (hp.objs.size + 1) dx ⟨fun b o e => kp b o (Nat.ne_of_lt (Nat.lt_succ_of_lt (Heap.lt_size e))) (up2 b o (up b o e)), Nat.le_succ _, ⟨_, ob⟩, (by
    have z : h2.objs.size ≤ dx := dn
    show hp.objs.size ≤ dx
    omega), dne, nd⟩⟩
end
section
variable {X : Cx} {C f : Addr}
theorem rel_value_limit {v : V} {u : Value} (r : RelV v u) (y : Str) : RelO (List.lookup y [(("limit" : Str), v)]) (if y = "limit" then some u else none) := by
  by_cases e : y = "limit"
  · rw [if_pos e, e]
    have z : List.lookup ("limit" : Str) [(("limit" : Str), v)] = some v := by simp [List.lookup]
    rw [z]
    exact r
  · rw [if_neg e]
    have e2 : (y == ("limit" : Str)) = false := by simpa using e
    have z : List.lookup y [(("limit" : Str), v)] = none := by simp [List.lookup, e2]
    rw [z]
    trivial
/-- x(e), x an error that keeps its value -/
def tMkV_limit (C : Addr) (ta : TA) : L2.St → Hp → XK → Prop := fun σ H Q => ta σ H fun vs H1 => ∃ v, vs = [v] ∧ ∀ d, H1 d = none → Q (.ref C) (some d) (upd H1 d (.xd [(("limit" : Str), v)]))
theorem pmk_value_limit {x : Str} {a : Expr} {ta : TA} {p pos : Pos} {k : Nat} (T : OwnX_limit X.K C f) (gC : X.mg x = some (.ref C)) (hr : Room k X.A) (ha : PA X [a] ta) (hg : Gl X x) (hx : (x == ("__debug__" : Str)) = false := by decide)
    (h1 : starEach (a :: []) X.env = (false, eval a X.env) :: starEach [] X.env := by rfl) (h2 : (backTo pos (starEach [] X.env)).any (·.1) = false := by rfl) : PMk X (.Call (.Name x p) [a] [] pos) (tMkV_limit C ta) := by
  intro pins s σ H Q I h
  refine wpAny_Call_Name_kw (ld_glob I hg gC ?_ hx)
  refine PySem.W.callWith_K (h₀ := X.base) I.ok.mod.kin T.kp (thn (ha.run pos pins s σ H _ I h) fun us s1 z => ?_) h1 h2
  obtain ⟨vs, H1, I1, r1, v, rfl, q1⟩ := z
  refine ⟨I1.kIn, ?_⟩
  obtain ⟨u, rfl, ru⟩ := vals1 r1
  have lim := I1.nolimit
  obtain ⟨hp, g, dr, tk, os⟩ := s1
  refine wpAny_call (make_own_limit T I1.kIn lim (by have := hr.dp; omega) fun h' tk' e d M => ?_)
  show MkP X pins σ Q (.ref e) ⟨h', g, dr, tk', os⟩
  obtain ⟨t1, oe⟩ := M.obj
  obtain ⟨G, g1, g2⟩ := restrict h' fun b => decide (b ≠ e)
  have same : ∀ b, b ≠ e → G.get? b = h'.get? b := fun b hb => g1 b (decide_eq_true hb)
  have gone : G.get? e = none := g2 e (by simp)
  have old : ∀ b o, hp.get? b = some o → G.get? b = some o := fun b o z => (same b (Nat.ne_of_lt (Nat.lt_of_lt_of_le (Heap.lt_size z) M.big))).trans (M.old b o z)
  have ob : ObjOk X.prog X.w (upd H1 d (.xd [(("limit" : Str), v)])) G d (.xd [(("limit" : Str), v)]) := ⟨_, M.ns.at (fun o z => (same d M.ne).trans z), fun y => rel_value_limit ru y⟩
  have J : Inv X pins σ (upd H1 d (.xd [(("limit" : Str), v)])) ⟨G, g, dr, tk', os⟩ := I1.laid (t' := tk') old M.dbig ob
  refine ⟨e, _, _, ⟨G, g, dr, tk', os⟩, _, .ref C, some d, rfl, J, fun b o z => ?_, gone, oe, ⟨rfl, rfl⟩, rfl, rfl, ?_, rfl, I1.bare, raises_own T.ex T.ty, q1 d (I1.hok.fresh M.dbig)⟩
  · by_cases hb : b = e
    · have z' : G.get? b = some o := z
      rw [hb, gone] at z'
      cases z'
    · exact (same b hb).symm.trans z
  · rw [upd_ne (Ne.symm M.ne)]
    exact I1.hok.fresh M.big
end
theorem OwnX_limit.c {K : PySem.W.Frag} {C f : Addr} (T : OwnX_limit K C f) : OwnC K C := ⟨T.ga, T.gg, T.ex, T.ty, T.hd, T.ca, T.cg, T.ct, T.mo⟩
section
variable {X : Cx} {S : Fr} {W : WX} {a : Expr} {f : DF} {x : Str} {p pos pos' : Pos} {C fi : Addr}
theorem pzx_raise_limit (ok : S.Ok) (hc : X.calm = true) (tk : Takes X W) (T : OwnX_limit X.K C fi) (gC : X.mg x = some (.ref C)) (hr : Room k X.A) (ha : PF X a f) (hg : Gl X x) (hx : (x == ("__debug__" : Str)) = false := by decide)
    (h1 : starEach (a :: []) X.env = (false, eval a X.env) :: starEach [] X.env := by rfl) (h2 : (backTo pos (starEach [] X.env)).any (·.1) = false := by rfl) : PZX X S W (.Raise (some (.Call (.Name x p) [a] [] pos)) none pos') (sRaise x "limit" f) :=
  ⟨⟨(ps_raise hc tk (pmk_value_limit T gC hr (pa_cons ha.pe pa_nil h1) hg hx h1 h2)).imp fun D σ H ⟨B, O, ρ, n, DD, XD, rs, ⟨r, e, q1, q2⟩, E, EX⟩ => by
    obtain ⟨d, e1, rfl⟩ := Option.map_eq_some_iff.mp e
    refine ⟨O, S.dv, ρ, d, rs.al, rs.rep, e1, fun v H1 s1 dx => ⟨v, rfl, fun dd nd => ?_⟩⟩
    have s2 : Same H1 (upd H1 dd (.xd [(("limit" : Str), v)])) := new_same nd
    refine raised ok rs EX (q2 _ _ rfl) (s1.trans s2) ⟨gC, (fun h => nomatch h), fun y z q => ?_⟩
    cases q
    refine ⟨dd, v, rfl, ?_, dx.same (s2.fz O)⟩
    rw [fz_out ((rs.al.same s1).new nd)]
    exact upd_same⟩⟩
end
end DS
set_option maxHeartbeats 4000000
namespace DS
open PySem PySem.Spec PyProof.Rows L2
/-! ### own errors without a field -/
/-- what must be known of such a class to make one -/
structure Own0 (K : PySem.W.Frag) (C : Addr) : Prop where
  base : ∃ (B n i : String) (l : List Value), ExcBaseFacts B n i l ∧ PySem.W.excIn K C l n = true
  kp : PySem.W.keepIn K (.ref C) = true
  ex : PySem.W.subIn K (.ref C) (.type "BaseException") = some true
  ty : PySem.W.typeIn K (.ref C) = some (.type "type")
section
variable {X : Cx} {S : Fr} {W : WX} {x : Str} {p pos pos' : Pos} {C : Addr}
/-- C() -/
theorem pmk_own0 (T : Own0 X.K C) (gC : X.mg x = some (.ref C)) (hg : Gl X x) (hdb : (x == ("__debug__" : Str)) = false := by decide) : PMk X (.Call (.Name x p) [] [] pos) (fun _ H Q => Q (.ref C) none H) := by
  intro pins s σ H Q I h
  obtain ⟨B, n, i, l, F, q⟩ := T.base
  refine wpAny_Call_Name_kw (ld_glob I hg gC ?_ hdb)
  refine PySem.W.callWith_K0 I.kIn T.kp ?_
  show wpAny _ _ (call (.ref C) []) _ _ _
  obtain ⟨bm, N, nm, qn, bs, hdct, sn, sub, ab, col, dd, k0, k1, k2, k3, k5, mN, hC, hN, hni, Ti⟩ := exc_obj I.kIn q
  refine wpAny_call_exc_subT F Ti hC hN hni (fun h' e hm => ?_) (Nat.zero_le _)
  exact mk_of I hm (raises_own T.ex T.ty) h (I.hok.gone hm.new)
def sRaise0 (c : Str) : SFX := fun ρ => some (.error (⟨c, none⟩, ρ))
theorem pzx_raise0 {k : Nat} (ok : S.Ok) (hc : X.calm = true) (tk : Takes X W) (T : Own0 X.K C) (gC : X.mg x = some (.ref C)) (hr : Room k X.A) (hg : Gl X x) (hx : (x == ("__debug__" : Str)) = false := by decide) : PZX X S W (.Raise (some (.Call (.Name x p) [] [] pos)) none pos') (sRaise0 x) :=
  ⟨⟨(ps_raise hc tk (pmk_own0 T gC hg hx)).imp fun D σ H ⟨B, O, ρ, n, DD, XD, rs, ⟨r, e, q1, q2⟩, E, EX⟩ => by
    cases e
    exact raised ok rs EX (q2 _ _ rfl) (Same.refl H) ⟨gC, (fun _ => rfl), fun y z q => (by cases q)⟩⟩⟩
end
end DS
namespace DS
open PySem PySem.Spec PyProof.Rows L2
/-! ### own lists and dicts, lent as data to an expression that gives a flat value -/
section
variable {K : PySem.W.Frag} {S : Fr} {B H : Hp} {O : Hid} {σ : L2.St} {ρ : Dn} {n : Nat}
end
section
variable {X : Cx} {S : Fr} {c e : Expr} {t : Dn → Option Bool} {f : DF} {pos : Pos}
variable {a b : List Stmt} {fa fb : SF}
end
end DS
namespace DS
open PySem PySem.Spec PyProof.Rows L2
/-! ### xs.remove(t), xs a list of texts that has t -/
section
variable {X : Cx}
end
end DS
namespace DS
open PySem PySem.Spec PyProof.Rows L2
/-! ### a.split(b), x.remove(t), int(t): texts -/
section
variable {X : Cx} {S : Fr}
end
end DS
namespace DS
open PySem PySem.Spec PyProof.Rows L2
/-! ### loops whose body may raise -/
section
variable {X : Cx} {S : Fr} {W : WX} {f : SFX} {pos : Pos}
end
end DS
set_option maxHeartbeats 4000000
namespace DS
open PySem PySem.Spec PyProof.Rows L2
def z__law_from : SF := (sRet (andF (isiF "int" (getD 0)) (andF (notF (isiF "bool" (getD 0))) (chnF (gI fun i j => .bool (decide (i ≤ j))) (gI fun i j => .bool (decide (i ≤ j))) (getD 1) (getD 0) (getD 2)))))
def sem__law_from : List PyData → Option PyData := semZ 3 z__law_from
def z__law_equal : SF := (sRet (bin2 gEq (callA reprD (consA (getD 0) nilA)) (callA reprD (consA (getD 1) nilA))))
def sem__law_equal : List PyData → Option PyData := semZ 2 z__law_equal
def z__law_turned : SF := (sSeq (sRows 3 (lcR (seqI (getD 0)) (setN 4) (strL (getD 4)) [4]))
  (sSeq (sRow2 3 (consA (bin2 ixD (bin2 ixD (getD 0) (getD 2)) (getD 1)) (consA (bin2 ixD (bin2 ixD (getD 0) (getD 1)) (getD 2)) nilA)) (getD 1) (getD 2) (getD 2) (getD 1))
  (fun ρ => (sRet (callA toTup (consA (lstI (lcL (seqI (getD 3)) (setN 4) yesT (bin2 joinD (cD (.str "")) (getD 4)) [4])) nilA))) (frzD 3 ρ))))
def sem__law_turned : List PyData → Option PyData := semZ 5 z__law_turned
def z__law_grown : SF := (sSeq (sSet 2 (lstI (lcL (enumI (getD 0)) (setT [3, 4]) yesT (bin2 gAdd (getD 4) (bin2 ixD (cD (.str "+-")) (callA intD (consA (bin2 (gIn false) (getD 3) (getD 1)) nilA)))) [3, 4])))
  (sRet (bin2 gAdd (callA toTup (consA (getD 2) nilA)) (tupF (consA (bin2 gAdd (bin2 joinD (cD (.str "")) (lstI (lcL (rng1I (callA lenD (consA (getD 0) nilA))) (setN 3) yesT (bin2 ixD (cD (.str "-+")) (callA intD (consA (bin2 (gIn false) (getD 3) (getD 1)) nilA))) [3]))) (cD (.str "."))) nilA)))))
def sem__law_grown : List PyData → Option PyData := semZ 5 z__law_grown
def z__law_shrunk : SF := (sSeq (sSet 2 (lstI (lcL (seqI (getD 0)) (setN 3) yesT (bin2 gAdd (sliceF (getD 3) noP (someP (getD 1))) (sliceF (getD 3) (someP (bin2 gAdd (getD 1) (cD (.int 1)))) noP)) [3])))
  (sRet (callA toTup (consA (bin2 gAdd (sliceF (getD 2) noP (someP (getD 1))) (sliceF (getD 2) (someP (bin2 gAdd (getD 1) (cD (.int 1)))) noP)) nilA))))
def sem__law_shrunk : List PyData → Option PyData := semZ 4 z__law_shrunk
def z__law_text : SF := (sRet (bin2 gAdd (bin2 gAdd (bin2 gAdd (callA strD (consA (callA lenD (consA (getD 0) nilA)) nilA)) (cD (.str " alternatives, "))) (callA strD (consA (getD 1) nilA))) (cD (.str " edits"))))
def sem__law_text : List PyData → Option PyData := semZ 2 z__law_text
def z__law_is_set : SF := (sSeq (sIf (orT (notT (tstF (isiF "tuple" (getD 1)))) (tstF (bin2 gNe (lstI (lcL (seqI (getD 1)) (setN 2) (notT (tstF (callU 3 sem__law_from (consA (getD 2) (consA (cD (.int 0)) (consA (bin2 (gI fun i j => .int (i - j)) (getD 0) (cD (.int 1))) nilA)))))) (getD 2) [2])) (lstI (limA nilA))))) (sRet (cD (.bool false))) sNil)
  (sRet (bin2 gEq (callA toLst (consA (getD 1) nilA)) (srtSetF (getD 1)))))
def sem__law_is_set : List PyData → Option PyData := semZ 3 z__law_is_set
def z__law_due_seen : SF := (sRet (tupF (consA (getD 0) (consA (getD 1) (consA (callA lenD (consA (getD 1) nilA)) (consA (callU 2 sem__law_text (consA (getD 0) (consA (callA lenD (consA (getD 1) nilA)) nilA))) (consA (callA lenD (consA (getD 1) nilA)) (consA (callA lenD (consA (getD 0) nilA)) nilA))))))))
def sem__law_due_seen : List PyData → Option PyData := semZ 2 z__law_due_seen
def zx_require_alternative : SFX := (sIfX (notT (tstF (callU 2 sem_is_alternative (consA (getD 0) (consA (getD 1) nilA))))) (sRaise "NoAlternative" "value" (getD 1)) (okZS sNil))
def semx_require_alternative : List PyData → Option RX := semX 2 zx_require_alternative
def z__law_due : SF := (sSeq (sPar 2 3 (consA (callA lenD (consA (getD 0) nilA)) (consA (bin2 ixD (getD 1) (cD (.int 1))) nilA)))
  (sSeq (sIf (tstF (bin2 gEq (bin2 ixD (getD 1) (cD (.int 0))) (cD (.str "add")))) (sSeq (sIf (notT (tstF (callU 2 sem__law_is_set (consA (getD 2) (consA (getD 3) nilA))))) (sRet (tupF (consA (cD (.str "NoSet")) (consA (getD 3) nilA)))) sNil)
  (sRet (bin2 ixD (lstI (limA (consA (tupF (consA (cD (.str "state")) (consA (callU 2 sem__law_grown (consA (getD 0) (consA (getD 3) nilA))) nilA))) (consA (tupF (consA (cD (.str "TooLarge")) (consA (cD (.int 9)) nilA))) nilA)))) (callA intD (consA (bin2 (gI fun i j => .bool (decide (j < i))) (getD 2) (cD (.int 8))) nilA))))) sNil)
  (sSeq (sIf (notT (tstF (callU 3 sem__law_from (consA (getD 3) (consA (cD (.int 0)) (consA (bin2 (gI fun i j => .int (i - j)) (getD 2) (cD (.int 1))) nilA)))))) (sRet (tupF (consA (cD (.str "NoAlternative")) (consA (getD 3) nilA)))) sNil)
  (sSeq (sIf (tstF (bin2 gEq (bin2 ixD (getD 1) (cD (.int 0))) (cD (.str "remove")))) (sRet (bin2 ixD (lstI (limA (consA (tupF (consA (cD (.str "state")) (consA (callU 2 sem__law_shrunk (consA (getD 0) (consA (getD 3) nilA))) nilA))) (consA (tupF (consA (cD (.str "LastOne")) nilA)) nilA)))) (callA intD (consA (bin2 gEq (getD 2) (cD (.int 1))) nilA)))) sNil)
  (sSeq (sIf (notT (tstF (callU 3 sem__law_from (consA (bin2 ixD (getD 1) (cD (.int 2))) (consA (cD (.int 0)) (consA (bin2 (gI fun i j => .int (i - j)) (getD 2) (cD (.int 1))) nilA)))))) (sRet (tupF (consA (cD (.str "NoAlternative")) (consA (bin2 ixD (getD 1) (cD (.int 2))) nilA)))) sNil)
  (sRet (bin2 ixD (lstI (limA (consA (tupF (consA (cD (.str "state")) (consA (callU 3 sem__law_turned (consA (getD 0) (consA (getD 3) (consA (bin2 ixD (getD 1) (cD (.int 2))) nilA)))) nilA))) (consA (tupF (consA (cD (.str "SameAlternative")) (consA (getD 3) nilA))) nilA)))) (callA intD (consA (bin2 gEq (getD 3) (bin2 ixD (getD 1) (cD (.int 2)))) nilA)))))))))
def sem__law_due : List PyData → Option PyData := semZ 4 z__law_due
def zx_turn_duel : SFX := (seqX (sExprX (callX 2 semx_require_alternative (consA (getD 0) (consA (getD 1) nilA))))
  (seqX (sExprX (callX 2 semx_require_alternative (consA (getD 0) (consA (getD 2) nilA))))
  (seqX (sIfX (tstF (bin2 gEq (getD 1) (getD 2))) (sRaise "SameAlternative" "value" (getD 1)) (okZS sNil))
  (okZS (sSeq (sOwn 3 (toLstL (getD 0)))
  (sSeq (sPutO 3 (getD 1) (callU 2 sem_turn_sign (consA (ixO 3 (getD 1)) (consA (getD 2) nilA))))
  (sSeq (sPutO 3 (getD 2) (callU 2 sem_turn_sign (consA (ixO 3 (getD 2)) (consA (getD 1) nilA))))
  (fun ρ => (sRet (callA toTup (consA (getD 3) nilA))) (frzD 3 ρ)))))))))
def semx_turn_duel : List PyData → Option RX := semX 4 zx_turn_duel
def zx_with_another : SFX := (seqX (sIfX (notT (tstF (callU 2 sem_is_set (consA (getD 0) (consA (getD 1) nilA))))) (sRaise "NoSet" "value" (getD 1)) (okZS sNil))
  (seqX (sIfX (tstF (bin2 (gI fun i j => .bool (decide (j ≤ i))) (callA lenD (consA (getD 0) nilA)) (cD (.int (9))))) (sRaise "TooLarge" "limit" (cD (.int (9)))) (okZS sNil))
  (okZS (sSeq (sOwn 2 (lcL (enumI (getD 0)) (setT [3, 4]) yesT (bin2 gAdd (getD 4) (ifF (tstF (bin2 (gIn false) (getD 3) (getD 1))) (cD (.str "-")) (cD (.str "+")))) [3, 4]))
  (sSeq (sApp 2 (bin2 gAdd (bin2 joinD (cD (.str "")) (lstI (lcL (rng1I (callA lenD (consA (getD 0) nilA))) (setN 3) yesT (ifF (tstF (bin2 (gIn false) (getD 3) (getD 1))) (cD (.str "+")) (cD (.str "-"))) [3]))) (cD (.str "."))))
  (fun ρ => (sRet (callA toTup (consA (getD 2) nilA))) (frzD 2 ρ)))))))
def semx_with_another : List PyData → Option RX := semX 5 zx_with_another
def zx_without_one : SFX := (seqX (sExprX (callX 2 semx_require_alternative (consA (getD 0) (consA (getD 1) nilA))))
  (seqX (sIfX (tstF (bin2 gEq (callA lenD (consA (getD 0) nilA)) (cD (.int 1)))) (sRaise0 "LastOne") (okZS sNil))
  (okZS (sRet (callU 2 sem_pick_table (consA (getD 0) (consA (callU 2 sem_outsiders (consA (getD 0) (consA (tupF (consA (getD 1) nilA)) nilA))) nilA)))))))
def semx_without_one : List PyData → Option RX := semX 2 zx_without_one
def zx_edited_table : SFX := (seqX (sIfX (tstF (bin2 gEq (bin2 ixD (getD 1) (cD (.int 0))) (cD (.str "turn")))) (sRetX (callX 3 semx_turn_duel (consA (getD 0) (consA (bin2 ixD (getD 1) (cD (.int 1))) (consA (bin2 ixD (getD 1) (cD (.int 2))) nilA))))) (okZS sNil))
  (seqX (sIfX (tstF (bin2 gEq (bin2 ixD (getD 1) (cD (.int 0))) (cD (.str "add")))) (sRetX (callX 2 semx_with_another (consA (getD 0) (consA (bin2 ixD (getD 1) (cD (.int 1))) nilA)))) (okZS sNil))
  (sRetX (callX 2 semx_without_one (consA (getD 0) (consA (bin2 ixD (getD 1) (cD (.int 1))) nilA))))))
def semx_edited_table : List PyData → Option RX := semX 2 zx_edited_table
end DS
set_option maxHeartbeats 4000000
namespace DS
open PySem PySem.Spec PyProof.Rows L2
/-! ### objects that change: a world of them -/
/-- a value: data, or an object of the world -/
inductive Wv where
  | d (x : PyData)
  | o (a : Addr)
def WvOk (K : PySem.W.Frag) (Hf : Hp) (v : V) : Wv → Prop
  | .d x => Dx K Hf v x
  | .o a => v = .ref a
inductive WvsOk (K : PySem.W.Frag) (Hf : Hp) : List V → List Wv → Prop
  | nil : WvsOk K Hf [] []
  | cons {v : V} {x : Wv} {vs : List V} {xs : List Wv} (h : WvOk K Hf v x) (r : WvsOk K Hf vs xs) : WvsOk K Hf (v :: vs) (x :: xs)
inductive FsOk (K : PySem.W.Frag) (Hf : Hp) : List (Str × V) → List (Str × Wv) → Prop
  | nil : FsOk K Hf [] []
  | cons {y : Str} {v : V} {x : Wv} {vs : List (Str × V)} {xs : List (Str × Wv)} (h : WvOk K Hf v x) (r : FsOk K Hf vs xs) : FsOk K Hf ((y, v) :: vs) ((y, x) :: xs)
/-- an object: an instance with its attributes, a stream of draws, a list -/
inductive Ob where
  | ins (C : Addr) (fs : List (Str × Wv))
  | stm (n : Nat)
  | lst (ds : List PyData)
def StmOk (o : HO) (n : Nat) : Prop := ∃ (i j : Int) (k : Nat), o = .lst [.int i, .int j, .int k] ∧ 0 ≤ i ∧ 0 ≤ j ∧ j < 2305843009213693951 ∧ k ≤ n
def ObOk (K : PySem.W.Frag) (Hf : Hp) (o : HO) : Ob → Prop
  | .ins C fs => ∃ dx vs, o = .ins C dx vs ∧ FsOk K Hf vs fs
  | .stm n => StmOk o n
  | .lst ds => ∃ vs, o = .lst vs ∧ DxAll K Hf vs ds
abbrev Wd := Addr → Option Ob
def Wd.put (w : Wd) (a : Addr) (x : Ob) : Wd := fun b => if b = a then some x else w b
theorem Wd.put_same {w : Wd} {a : Addr} {x : Ob} : w.put a x a = some x := if_pos rfl
theorem Wd.put_ne {w : Wd} {a b : Addr} {x : Ob} (h : b ≠ a) : w.put a x b = w b := if_neg h
section
variable {K : PySem.W.Frag} {H H' : Hp}
theorem WvOk.same (s : Same H H') {v : V} : ∀ {x : Wv}, WvOk K H v x → WvOk K H' v x
  | .d _, h => Dx.same s h
  | .o _, h => h
theorem WvsOk.same (s : Same H H') : ∀ {vs : List V} {xs : List Wv}, WvsOk K H vs xs → WvsOk K H' vs xs
  | _, _, .nil => .nil
  | _, _, .cons h r => .cons (h.same s) (r.same s)
theorem WvsOk.len : ∀ {vs : List V} {xs : List Wv}, WvsOk K H vs xs → vs.length = xs.length
  | _, _, .nil => rfl
  | _, _, .cons _ r => by rw [List.length_cons, List.length_cons, r.len]
theorem WvsOk.data : ∀ {vs : List V} {ds : List PyData}, WvsOk K H vs (ds.map .d) → DxAll K H vs ds
  | [], [], _ => .nil
  | _ :: _, _ :: _, .cons h r => .cons h r.data
theorem WvsOk.of : ∀ {vs : List V} {ds : List PyData}, DxAll K H vs ds → WvsOk K H vs (ds.map .d)
  | _, _, .nil => .nil
  | _, _, .cons h r => .cons h (WvsOk.of r)
theorem FsOk.same (s : Same H H') : ∀ {vs : List (Str × V)} {xs : List (Str × Wv)}, FsOk K H vs xs → FsOk K H' vs xs
  | _, _, .nil => .nil
  | _, _, .cons h r => .cons (h.same s) (r.same s)
theorem FsOk.len : ∀ {vs : List (Str × V)} {xs : List (Str × Wv)}, FsOk K H vs xs → vs.length = xs.length
  | _, _, .nil => rfl
  | _, _, .cons _ r => by rw [List.length_cons, List.length_cons, r.len]
theorem FsOk.get {y : Str} {x : Wv} : ∀ {vs : List (Str × V)} {xs : List (Str × Wv)}, FsOk K H vs xs → xs.lookup y = some x → ∃ v, vs.lookup y = some v ∧ WvOk K H v x
  | _, _, .nil, e => nomatch e
  | _, _, .cons (y := z) (v := v) (x := x') h r, e => by
    by_cases k : (y == z) = true
    · have e : (match y == z with | true => some x' | false => _) = some x := e
      rw [k] at e
      cases e
      refine ⟨v, ?_, h⟩
      simp [List.lookup, k]
    · have k : (y == z) = false := by simpa using k
      have e : (match y == z with | true => some x' | false => List.lookup y _) = some x := e
      rw [k] at e
      obtain ⟨v', h1, h2⟩ := r.get e
      refine ⟨v', ?_, h2⟩
      simp [List.lookup, k, h1]
theorem FsOk.no {y : Str} : ∀ {vs : List (Str × V)} {xs : List (Str × Wv)}, FsOk K H vs xs → xs.lookup y = none → vs.lookup y = none
  | _, _, .nil, e => rfl
  | _, _, .cons (y := z) (v := v) (x := x') h r, e => by
    by_cases k : (y == z) = true
    · have e : (match y == z with | true => some x' | false => _) = none := e
      rw [k] at e
      cases e
    · have k : (y == z) = false := by simpa using k
      have e : (match y == z with | true => some x' | false => List.lookup y _) = none := e
      rw [k] at e
      simp [List.lookup, k, r.no e]
def putW (f : Str) (x : Wv) : List (Str × Wv) → List (Str × Wv)
  | [] => [(f, x)]
  | (g, y) :: r => if g = f then (g, x) :: r else (g, y) :: putW f x r
theorem FsOk.put {f : Str} {v : V} {x : Wv} (h : WvOk K H v x) : ∀ {vs : List (Str × V)} {xs : List (Str × Wv)}, FsOk K H vs xs → FsOk K H (putF f v vs) (putW f x xs)
  | _, _, .nil => .cons h .nil
  | _, _, .cons (y := z) k r => by
    unfold putF putW
    by_cases e : z = f
    · rw [if_pos e, if_pos e]
      exact .cons h r
    · rw [if_neg e, if_neg e]
      exact .cons k (r.put h)
theorem ObOk.same (s : Same H H') {o : HO} : ∀ {x : Ob}, ObOk K H o x → ObOk K H' o x
  | .ins _ _, ⟨dx, vs, e, f⟩ => ⟨dx, vs, e, f.same s⟩
  | .stm _, h => h
  | .lst _, ⟨vs, e, f⟩ => ⟨vs, e, f.same s⟩
end
/-! the state -/
structure Wf where
  H0 : Hp
  O0 : Hid
  W0 : Hid
def Wf.fr (S : Wf) (w : Wd) (H : Hp) : Fr := ⟨S.H0, S.O0, fun b => S.W0 b ∨ w b ≠ none, .non, fun H' _ => ∀ a, w a ≠ none → H' a = H a⟩
def Wf.Ok (S : Wf) : Prop := Al S.O0 S.H0
theorem Wf.ok {S : Wf} (h : S.Ok) (w : Wd) (H : Hp) : (S.fr w H).Ok := ⟨fun H1 H2 _ k q a z => (k a (.inr z)).trans (q a z), h⟩
structure RepW (K : PySem.W.Frag) (S : Wf) (B : Hp) (O : Hid) (H : Hp) (σ : L2.St) (ρ : Dn) (w : Wd) : Prop where
  rs : RepS K (S.fr w H) B O H σ ρ 0
  ob : ∀ a x, w a = some x → ∃ o, H a = some o ∧ ObOk K (Fz O H) o x
  nw : ∀ a, w a ≠ none → S.W0 a ∨ S.H0 a = none
section
variable {K : PySem.W.Frag} {S : Wf} {B B' H H' : Hp} {O O' : Hid} {σ σ' : L2.St} {ρ ρ' : Dn} {n : Nat} {w : Wd}
theorem RepW.al (h : RepW K S B O H σ ρ w) : Al O H := h.rs.al
theorem RepW.rep (h : RepW K S B O H σ ρ w) : RepE K O H .non σ ρ := h.rs.rep
theorem RepW.fz (h : RepW K S B O H σ ρ w) : Same B (Fz O H) := h.rs.fz
theorem RepW.base (h : RepW K S B O H σ ρ w) (s : Same B' B) : RepW K S B' O H σ ρ w := ⟨h.rs.base s, h.ob, h.nw⟩
theorem RepW.here (h : RepW K S B O H σ ρ w) : RepW K S (Fz O H) O H σ ρ w := ⟨h.rs.here, h.ob, h.nw⟩
theorem RepW.hid (h : RepW K S B O H σ ρ w) {a : Addr} (e : w a ≠ none) : O a := h.rs.mo a (.inr e)
/-- what a step over data leaves -/
theorem RepW.of (h : RepW K S B O H σ ρ w) (r : RepS K (S.fr w H) (Fz O H) O' H' σ' ρ' n) : RepW K S B O' H' σ' ρ' w :=
  ⟨⟨r.al, r.rep, r.kp, r.sub, r.mo, h.rs.fz.trans r.fz, r.ow, fun a _ => rfl⟩, fun a x e => by
    obtain ⟨o, h1, h2⟩ := h.ob a x e
    exact ⟨o, (r.dk a (by rw [e]; exact fun z => nomatch z)).trans h1, h2.same r.fz⟩, h.nw⟩
theorem RepW.same (h : RepW K S B O H σ ρ w) (ok : S.Ok) (s : Same H H') : RepW K S B O H' σ ρ w := h.of (h.rs.here.same (S.ok ok w H) s)
theorem RepW.set (h : RepW K S B O H σ ρ w) {v : V} {e : Ent} (k : EntOk K O H .non (some v) e) (no : notOwn e) (i : Nat) : RepW K S B O H (σ.set i (some v)) (ρ.set i e) w :=
  ⟨h.rs.set k no i, h.ob, h.nw⟩
theorem RepW.gone (h : RepW K S B O H σ ρ w) (i : Nat) : RepW K S B O H (σ.set i none) (ρ.set i .na) w := ⟨h.rs.gone i, h.ob, h.nw⟩
/-- no slots -/
theorem RepW.bare (h : RepW K S B O H σ ρ w) : RepW K S B O H [] [] w := ⟨⟨h.rs.al, ⟨rfl, fun i e q => nomatch q⟩, h.rs.kp, h.rs.sub, h.rs.mo, h.rs.fz, (fun i e ov q e1 => nomatch e1), h.rs.dk⟩, h.ob, h.nw⟩
def entW : Wv → Ent
  | .d x => .dat x
  | .o a => .err a none none
theorem entW_no (x : Wv) : notOwn (entW x) := by
  cases x with
  | d x => exact notOwn_dat
  | o a => exact fun _ _ _ h => h
theorem entW_ok {dv v : V} {x : Wv} (h : WvOk K (Fz O H) v x) : EntOk K O H dv (some v) (entW x) := by
  cases x with
  | d x => exact ⟨v, rfl, h⟩
  | o a => exact ⟨by rw [show v = .ref a from h], fun _ => rfl, fun _ _ e => nomatch e⟩
theorem RepW.setW (h : RepW K S B O H σ ρ w) {v : V} {x : Wv} (k : WvOk K (Fz O H) v x) (i : Nat) : RepW K S B O H (σ.set i (some v)) (ρ.set i (entW x)) w := h.set (entW_ok k) (entW_no x) i
/-- what a call leaves of the world -/
def hidW (O : Hid) (w : Wd) : Hid := fun a => O a ∨ w a ≠ none
structure AftW (K : PySem.W.Frag) (O : Hid) (w : Wd) (H : Hp) (w' : Wd) (H' : Hp) : Prop where
  kp : ∀ b x, H b = some x → w b = none → H' b = some x
  ob : ∀ a x, w' a = some x → ∃ o, H' a = some o ∧ ObOk K (Fz (hidW O w') H') o x
  nw : ∀ a, w' a ≠ none → w a ≠ none ∨ H a = none
  al : Al O H'
theorem AftW.fz {w' : Wd} (h : AftW K O w H w' H') (hid : ∀ a, w a ≠ none → O a) : Same (Fz O H) (Fz (hidW O w') H') := fun b o z => by
  obtain ⟨z1, z2⟩ := fz_get z
  have wb : w b = none := Classical.byContradiction fun q => z2 (hid b q)
  have w'b : w' b = none := Classical.byContradiction fun q => by
    rcases h.nw b q with k | k
    · exact k wb
    · rw [z1] at k
      cases k
  rw [fz_out fun q => q.elim z2 fun k => k w'b]
  exact h.kp b o z1 wb
theorem AftW.alW {w' : Wd} (h : AftW K O w H w' H') : Al (hidW O w') H' := fun a z => z.elim (h.al a) fun k => by
  cases e : w' a with
  | none => exact absurd e k
  | some x =>
    obtain ⟨o, h1, _⟩ := h.ob a x e
    rw [h1]
    exact fun q => nomatch q
theorem RepW.after {w' : Wd} (h : RepW K S B O H σ ρ w) (k : AftW K O w H w' H') : RepW K S B (hidW O w') H' σ ρ w' := by
  have f := k.fz fun a z => h.hid z
  have at_ : ∀ (i : Nat) (g : Ent) (ov : Option V) (q : Addr), ρ[i]? = some g → σ[i]? = some ov → Hd H ov g q → H' q = H q ∧ w q = none ∧ w' q = none := fun i g ov q e1 e2 e3 => by
    obtain ⟨_, x, z⟩ := (h.rs.ent e1 e2).hd e3
    have wq : w q = none := Classical.byContradiction fun c => (h.rs.ow i g ov q e1 e2 e3).2.1 (.inr c)
    refine ⟨by rw [z]; exact k.kp q x z wq, wq, Classical.byContradiction fun c => ?_⟩
    rcases k.nw q c with c | c
    · exact c wq
    · rw [z] at c
      cases c
  refine ⟨⟨k.alW, ⟨h.rs.rep.1, fun i g q => ?_⟩, fun b y e0 m => ?_, fun b z => .inl (h.rs.sub b z), fun b z => z.elim (fun c => .inl (h.rs.mo b (.inl c))) .inr, h.rs.fz.trans f, ?_, fun _ _ => rfl⟩, k.ob, fun a z => ?_⟩
  · obtain ⟨ov, h1, h2⟩ := h.rs.rep.2 i g q
    exact ⟨ov, h1, h2.shift (fun _ z => .inl z) f fun c kc => (at_ i g ov c q h1 kc).1⟩
  · have w0 : ¬ S.W0 b := fun z => m (.inl z)
    have wb : w b = none := Classical.byContradiction fun c => by
      rcases h.nw b c with z | z
      · exact w0 z
      · rw [show S.H0 b = some y from e0] at z
        cases z
    exact k.kp b y (h.rs.kp b y e0 fun z => z.elim w0 fun c => c wb) wb
  · intro i g ov q e1 e2 e3
    obtain ⟨k1, k2, k3⟩ := h.rs.ow' (fun i g ov q e1 e2 e3 => (at_ i g ov q e1 e2 e3).1) i g ov q e1 e2 e3
    exact ⟨k1, fun z => z.elim (fun c => k2 (.inl c)) fun c => c (at_ i g ov q e1 e2 (Hd.eq (h.rs.ent e1 e2) (fun q' k' => (at_ i g ov q' e1 e2 k').1) e3)).2.2, k3⟩
  · rcases k.nw a z with c | c
    · exact h.nw a c
    · refine .inr (Classical.byContradiction fun q => ?_)
      cases e : S.H0 a with
      | none => exact q e
      | some y =>
        by_cases m : (S.fr w H).M a
        · exact absurd c (h.rs.al a (h.rs.mo a m))
        · have := h.rs.kp a y e m
          rw [this] at c
          cases c
/-- one object changes, or a new one -/
theorem aft_put {a : Addr} {o : HO} {x : Ob} (al : Al O H) (ob : ∀ b y, w b = some y → ∃ o, H b = some o ∧ ObOk K (Fz O H) o y) (hid : ∀ b, w b ≠ none → O b) (e : w a ≠ none ∨ H a = none) (kp : ∀ b y, H b = some y → b ≠ a → H' b = some y) (ea : H' a = some o)
    (k : Same (Fz O H) (Fz (hidW O (w.put a x)) H') → ObOk K (Fz (hidW O (w.put a x)) H') o x) : AftW K O w H (w.put a x) H' := by
  have f : Same (Fz O H) (Fz (hidW O (w.put a x)) H') := fun b z q => by
    obtain ⟨z1, z2⟩ := fz_get q
    have wb : w b = none := Classical.byContradiction fun q => z2 (hid b q)
    have nb : b ≠ a := fun c => by
      rcases e with e | e
      · rw [c] at wb
        exact e wb
      · rw [← c, z1] at e
        cases e
    rw [fz_out fun q => q.elim z2 fun k => k (by rw [Wd.put_ne nb]; exact wb)]
    exact kp b z z1 nb
  refine ⟨fun b y z wb => ?_, fun b y z => ?_, fun b z => ?_, fun b z => ?_⟩
  · refine kp b y z fun c => ?_
    rcases e with e | e
    · rw [c] at wb
      exact e wb
    · rw [← c, z] at e
      cases e
  · by_cases c : b = a
    · subst c
      rw [Wd.put_same] at z
      cases z
      exact ⟨o, ea, k f⟩
    · rw [Wd.put_ne c] at z
      obtain ⟨o2, h1, h2⟩ := ob b y z
      exact ⟨o2, kp b o2 h1 c, h2.same f⟩
  · by_cases c : b = a
    · subst c
      exact e
    · rw [Wd.put_ne c] at z
      exact .inl z
  · by_cases c : b = a
    · rw [c, ea]
      exact fun q => nomatch q
    · cases e2 : H b with
      | none => exact absurd e2 (al b z)
      | some y =>
        rw [kp b y e2 c]
        exact fun q => nomatch q
theorem RepW.putO (h : RepW K S B O H σ ρ w) {a : Addr} {o : HO} {x : Ob} (e : w a ≠ none ∨ H a = none) (kp : ∀ b y, H b = some y → b ≠ a → H' b = some y) (ea : H' a = some o)
    (k : Same (Fz O H) (Fz (hidW O (w.put a x)) H') → ObOk K (Fz (hidW O (w.put a x)) H') o x) : RepW K S B (hidW O (w.put a x)) H' σ ρ (w.put a x) :=
  h.after (aft_put h.al h.ob (fun b z => h.hid z) e kp ea k)
end
end DS
set_option maxHeartbeats 4000000
namespace DS
open PySem PySem.Spec PyProof.Rows L2
/-! ### expressions over a world, which may raise -/
abbrev XW := ErrD → Dn → Wd → Prop
abbrev TW (α : Type) := XW → Dn → Wd → (α → Dn → Wd → Prop) → Prop
def MonoT {α : Type} (T : TW α) : Prop := ∀ XD ρ w Q Q', (∀ x ρ' w', Q x ρ' w' → Q' x ρ' w') → T XD ρ w Q → T XD ρ w Q'
def EndW (K : PySem.W.Frag) (mg : Str → Option Value) (S : Wf) (B : Hp) (XD : XW) (W : WX) : Prop := ∀ e O' cls d σ' H' ρ' w', XD e ρ' w' → RepW K S B O' H' σ' ρ' w' → ErrAt K mg O' H' e cls d → W cls d σ' H'
theorem EndW.base {K : PySem.W.Frag} {mg : Str → Option Value} {S : Wf} {B B' : Hp} {XD : XW} {W : WX} (h : EndW K mg S B XD W) (s : Same B B') : EndW K mg S B' XD W := fun e O' cls d σ' H' ρ' w' x r ea => h e O' cls d σ' H' ρ' w' x (r.base s) ea
def tWE (K : PySem.W.Frag) (mg : Str → Option Value) (S : Wf) (W : WX) (T : TW Wv) : TE := fun σ H Q => ∃ B O ρ w XD, RepW K S B O H σ ρ w ∧ EndW K mg S B XD W ∧ T XD ρ w fun x ρ' w' => ∀ v O' H', RepW K S B O' H' σ ρ' w' → WvOk K (Fz O' H') v x → Q v H'
structure PWo (X : Cx) (S : Wf) (W : WX) (e : Expr) (T : TW Wv) : Prop where
  pe : PE X e (tWE X.K X.mg S W T)
  mono : MonoT T
def tWT (K : PySem.W.Frag) (mg : Str → Option Value) (S : Wf) (W : WX) (T : TW Bool) : TT := fun σ H Q => ∃ B O ρ w XD, RepW K S B O H σ ρ w ∧ EndW K mg S B XD W ∧ T XD ρ w fun b ρ' w' => ∀ O' H', RepW K S B O' H' σ ρ' w' → Q b H'
structure PWT (X : Cx) (S : Wf) (W : WX) (e : Expr) (T : TW Bool) : Prop where
  pt : PT X e (tWT X.K X.mg S W T)
  mono : MonoT T
def tWA (K : PySem.W.Frag) (mg : Str → Option Value) (S : Wf) (W : WX) (T : TW (List Wv)) : TA := fun σ H Q => ∃ B O ρ w XD, RepW K S B O H σ ρ w ∧ EndW K mg S B XD W ∧ T XD ρ w fun xs ρ' w' => ∀ vs O' H', RepW K S B O' H' σ ρ' w' → WvsOk K (Fz O' H') vs xs → Q vs H'
structure PWA (X : Cx) (S : Wf) (W : WX) (es : List Expr) (T : TW (List Wv)) : Prop where
  pa : PA X es (tWA X.K X.mg S W T)
  mono : MonoT T
section
variable {X : Cx} {S : Wf} {W : WX} {a b c e : Expr} {Ta Tb Tc : TW Wv} {pos p : Pos} {rest es : List Expr}
/-! data -/
def wF (f : DF) : TW Wv := fun _ ρ w Q => ∃ d, f ρ = some d ∧ Q (.d d) ρ w
theorem pw_pf (ok : S.Ok) {f : DF} (h : PF X e f) : PWo X S W e (wF f) := ⟨h.pe.imp fun σ H Q ⟨B, O, ρ, w, XD, r, EX, d, e1, q⟩ => ⟨O, .non, ρ, d, r.al, r.rep, e1, fun v H' s dx => q v O H' (r.same ok s) dx⟩, fun _ _ _ _ _ k ⟨d, e, q⟩ => ⟨d, e, k _ _ _ q⟩⟩
def wBt (f : Dn → Option Bool) : TW Bool := fun _ ρ w Q => ∃ d, f ρ = some d ∧ Q d ρ w
theorem pwt_pf (ok : S.Ok) {f : Dn → Option Bool} (h : PFT X e f) : PWT X S W e (wBt f) := ⟨h.pt.imp fun σ H Q ⟨B, O, ρ, w, XD, r, EX, d, e1, q⟩ => ⟨O, .non, ρ, d, r.al, r.rep, e1, fun H' s => q O H' (r.same ok s)⟩, fun _ _ _ _ _ k ⟨d, e, q⟩ => ⟨d, e, k _ _ _ q⟩⟩
/-! an object by its name -/
/-- a name, data or object -/
def getW (i : Nat) (ρ : Dn) : Option Wv := match ρ[i]? with
  | some (.dat d) => some (.d d)
  | some (.err a none none) => some (.o a)
  | _ => none
def wN (i : Nat) : TW Wv := fun _ ρ w Q => ∃ x, getW i ρ = some x ∧ Q x ρ w
theorem pw_name (ok : S.Ok) {i : Nat} {x : Str} (hN : X.N[i]? = some x) (hv : Vis X.env.scope x) (hd : (x == ("__debug__" : Str)) = false := by decide) (hcd : (x == ("__classdict__" : Str)) = false := by decide) : PWo X S W (.Name x pos) (wN i) :=
  ⟨(pe_var hN hv hd hcd).imp fun σ H Q ⟨B, O, ρ, w, XD, r, EX, a, e1, q⟩ => by
    unfold getW at e1
    split at e1
    · rename_i d e2
      cases e1
      obtain ⟨ov, h1, v, h2, h3⟩ := r.rep.2 i _ e2
      subst h2
      exact ⟨v, h1, q _ O H r h3⟩
    · rename_i a e2
      cases e1
      obtain ⟨ov, h1, h2, _, _⟩ := r.rep.2 i _ e2
      subst h2
      exact ⟨.ref a, h1, q _ O H r rfl⟩
    · exact (by cases e1), fun _ _ _ _ _ k ⟨d, e, q⟩ => ⟨d, e, k _ _ _ q⟩⟩
/-! two in a row -/
theorem tW2 {σ : L2.St} {H : Hp} {R : V → V → Hp → Prop} {B : Hp} {O : Hid} {ρ : Dn} {w : Wd} {XD : XW} (mb : MonoT Tb) (ma : MonoT Ta) (r : RepW X.K S B O H σ ρ w) (EX : EndW X.K X.mg S B XD W) {P : Wv → Wv → Dn → Wd → Prop}
    (h : Ta XD ρ w fun d ρ1 w1 => Tb XD ρ1 w1 fun e ρ2 w2 => P d e ρ2 w2) (k : ∀ d e ρ2 w2 O2 H2 x y, RepW X.K S B O2 H2 σ ρ2 w2 → WvOk X.K (Fz O2 H2) x d → WvOk X.K (Fz O2 H2) y e → P d e ρ2 w2 → R x y H2) :
    tWE X.K X.mg S W Ta σ H fun x H1 => tWE X.K X.mg S W Tb σ H1 fun y H2 => R x y H2 := by
  refine ⟨B, O, ρ, w, XD, r, EX, ma _ _ _ _ _ (fun d ρ1 w1 h1 x O1 H1 r1 dx => ?_) h⟩
  refine ⟨Fz O1 H1, O1, ρ1, w1, XD, r1.here, EX.base r1.fz, mb _ _ _ _ _ (fun e ρ2 w2 h2 y O2 H2 r2 dy => ?_) h1⟩
  exact k d e ρ2 w2 O2 H2 x y (r2.base r1.fz) (dx.same r2.fz) dy h2
def w2 (g : PyData → PyData → Option PyData) (Ta Tb : TW Wv) : TW Wv := fun XD ρ w Q => Ta XD ρ w fun x ρ1 w1 => Tb XD ρ1 w1 fun y ρ2 w2 => ∃ d e c, x = .d d ∧ y = .d e ∧ g d e = some c ∧ Q (.d c) ρ2 w2
theorem w2_mono {g : PyData → PyData → Option PyData} (ma : MonoT Ta) (mb : MonoT Tb) : MonoT (w2 g Ta Tb) := fun XD ρ w Q Q' k h => ma _ _ _ _ _ (fun d ρ1 n1 h1 => mb _ _ _ _ _ (fun e ρ2 n2 ⟨d, e, c, z1, z2, e1, q⟩ => ⟨d, e, c, z1, z2, e1, k _ _ _ q⟩) h1) h
theorem tW2F (ok : S.Ok) {g : PyData → PyData → Option PyData} {σ : L2.St} {H : Hp} {Q : VK} (ma : MonoT Ta) (mb : MonoT Tb) (h : tWE X.K X.mg S W (w2 g Ta Tb) σ H Q) : tOp (r2F X.K g) (tWE X.K X.mg S W Ta) (tWE X.K X.mg S W Tb) σ H Q := by
  obtain ⟨B, O, ρ, w, XD, r, EX, t⟩ := h
  refine tW2 mb ma r EX t fun d e ρ2 w2 O2 H2 x y r2 dx dy ⟨d', e', c, z1, z2, e1, q⟩ => ?_
  subst z1 z2
  exact ⟨O2, d', e', c, r2.al, dx, dy, e1, fun v H3 s3 dv => q v O2 H3 (r2.same ok s3) dv⟩
theorem pw_op (ok : S.Ok) {op : Operator} {g : PyData → PyData → Option PyData} (ho : OpR X (binaryOp op) (r2F X.K g)) (ha : PWo X S W a Ta) (hb : PWo X S W b Tb) : PWo X S W (.BinOp a op b pos) (w2 g Ta Tb) :=
  ⟨(pe_op ho ha.pe hb.pe).imp fun _ _ _ h => tW2F ok ha.mono hb.mono h, w2_mono ha.mono hb.mono⟩
theorem pw_ix (ok : S.Ok) (ha : PWo X S W a Ta) (hb : PWo X S W b Tb) (hs : PlainIx b := by exact fun _ _ => rfl) : PWo X S W (.Subscript a b pos) (w2 ixD Ta Tb) :=
  ⟨(pe_ix of_ix ha.pe hb.pe hs).imp fun _ _ _ h => tW2F ok ha.mono hb.mono h, w2_mono ha.mono hb.mono⟩
/-! tests -/
def wB (T : TW Wv) : TW Bool := fun XD ρ w Q => T XD ρ w fun d ρ' w' => ∃ b, d = .d (.bool b) ∧ Q b ρ' w'
theorem wB_mono (m : MonoT Ta) : MonoT (wB Ta) := fun _ _ _ _ _ k h => m _ _ _ _ _ (fun d ρ' n' ⟨b, e, q⟩ => ⟨b, e, k _ _ _ q⟩) h
theorem tW_test {σ : L2.St} {H : Hp} {Q : Bool → Hp → Prop} (m : MonoT Ta) (h : tWT X.K X.mg S W (wB Ta) σ H Q) : tWE X.K X.mg S W Ta σ H fun x H1 => ∃ k, x = .bl k ∧ Q k H1 := by
  obtain ⟨B, O, ρ, w, XD, r, EX, t⟩ := h
  refine ⟨B, O, ρ, w, XD, r, EX, m _ _ _ _ _ (fun d ρ' n' ⟨b, e, q⟩ v O' H' r' dx => ?_) t⟩
  subst e
  cases (show Dx X.K _ v (.bool b) from dx)
  exact ⟨b, rfl, q O' H' r'⟩
theorem pwt_cmp (ok : S.Ok) {op : CmpOp} {g : PyData → PyData → Option PyData} (ho : OpR X (compareOp op) (r2F X.K g)) (ha : PWo X S W a Ta) (hb : PWo X S W b Tb) (hm : behindInMarks op b = false) : PWT X S W (.Compare a [op] [b] pos) (wB (w2 g Ta Tb)) :=
  ⟨(pt_cmpR ho ha.pe hb.pe hm).imp fun _ _ _ h => tW2F ok ha.mono hb.mono (tW_test (w2_mono ha.mono hb.mono) h), wB_mono (w2_mono ha.mono hb.mono)⟩
theorem pwt_val (h : PWo X S W e Ta) (he : ∀ whole, isTrue e X.env whole = (do let v ← whole; standAt e.pos; holding [v] (truthy v)) := by intro _; rfl) : PWT X S W e (wB Ta) :=
  ⟨(pt_val h.pe he).imp fun _ _ _ q => tW_test h.mono q, wB_mono h.mono⟩
variable {Ba Bb : TW Bool}
def wNot (T : TW Bool) : TW Bool := fun XD ρ w Q => T XD ρ w fun b ρ' w' => Q (!b) ρ' w'
theorem pwt_not (h : PWT X S W a Ba) : PWT X S W (.UnaryOp .Not a pos) (wNot Ba) := ⟨(pt_not h.pt).imp fun σ H Q ⟨B, O, ρ, w, XD, r, EX, t⟩ => ⟨B, O, ρ, w, XD, r, EX, t⟩, fun _ _ _ _ _ k q => h.mono _ _ _ _ _ (fun d ρ' n' z => k _ _ _ z) q⟩
structure PWW (X : Cx) (S : Wf) (W : WX) (e : Expr) (T : TW Bool) : Prop where
  pw : L2.PW X e (tWT X.K X.mg S W T)
  mono : MonoT T
theorem PWW.pwt (h : PWW X S W e Ba) : PWT X S W e Ba := ⟨h.pw.pt, h.mono⟩
def wOr (Ta Tb : TW Bool) : TW Bool := fun XD ρ w Q => Ta XD ρ w fun b ρ1 w1 => if b = true then Q true ρ1 w1 else Tb XD ρ1 w1 Q
theorem wOr_mono (ma : MonoT Ba) (mb : MonoT Bb) : MonoT (wOr Ba Bb) := fun _ _ _ _ _ k h => ma _ _ _ _ _ (fun d ρ1 n1 z => by
  cases d with
  | false => exact mb _ _ _ _ _ k z
  | true => exact k _ _ _ z) h
theorem pww_or1 (h : PWT X S W a Ba) : PWW X S W (.BoolOp .Or [a] pos) Ba := ⟨pw_or1 h.pt, h.mono⟩
theorem pww_or (ha : PWT X S W a Ba) (hb : PWW X S W (.BoolOp .Or (b :: rest) pos) Bb) : PWW X S W (.BoolOp .Or (a :: b :: rest) pos) (wOr Ba Bb) := ⟨(pw_or ha.pt hb.pw).imp fun σ H Q ⟨B, O, ρ, w, XD, r, EX, t⟩ => by
  refine ⟨B, O, ρ, w, XD, r, EX, ha.mono _ _ _ _ _ (fun d ρ1 n1 z O1 H1 r1 => ?_) t⟩
  cases d with
  | false => exact ⟨B, O1, ρ1, n1, XD, r1, EX, z⟩
  | true => exact z O1 H1 r1, wOr_mono ha.mono hb.mono⟩
/-! and, or as values (bools) -/
/-! arguments, displays, calls -/
def wNil : TW (List Wv) := fun _ ρ w Q => Q [] ρ w
def wCons (T : TW Wv) (R : TW (List Wv)) : TW (List Wv) := fun XD ρ w Q => T XD ρ w fun d ρ1 w1 => R XD ρ1 w1 fun ds ρ2 w2 => Q (d :: ds) ρ2 w2
theorem pwa_nil : PWA X S W [] wNil := ⟨pa_nil.imp fun σ H Q ⟨B, O, ρ, w, XD, r, EX, t⟩ => t [] O H r .nil, fun _ _ _ _ _ k h => k _ _ _ h⟩
variable {R : TW (List Wv)}
theorem pwa_cons (ha : PWo X S W e Ta) (hr : PWA X S W es R) (hs : starEach (e :: es) X.env = (false, eval e X.env) :: starEach es X.env := by rfl) : PWA X S W (e :: es) (wCons Ta R) :=
  ⟨(pa_cons ha.pe hr.pa hs).imp fun σ H Q ⟨B, O, ρ, w, XD, r, EX, t⟩ => by
    refine ⟨B, O, ρ, w, XD, r, EX, ha.mono _ _ _ _ _ (fun d ρ1 n1 z v O1 H1 r1 dx => ?_) t⟩
    refine ⟨Fz O1 H1, O1, ρ1, n1, XD, r1.here, EX.base r1.fz, hr.mono _ _ _ _ _ (fun ds ρ2 n2 z2 vs O2 H2 r2 dxs => ?_) z⟩
    exact z2 (v :: vs) O2 H2 (r2.base r1.fz) (.cons (dx.same r2.fz) dxs), fun _ _ _ _ _ k h => ha.mono _ _ _ _ _ (fun d ρ1 n1 z => hr.mono _ _ _ _ _ (fun ds ρ2 n2 z2 => k _ _ _ z2) z) h⟩
def wTup (R : TW (List Wv)) : TW Wv := fun XD ρ w Q => R XD ρ w fun xs ρ1 w1 => ∃ ds, xs = ds.map .d ∧ ds.length < lim ∧ Q (.d (.tuple ds)) ρ1 w1
theorem pw_tup (ok : S.Ok) {x1} (h : PWA X S W es R) : PWo X S W (.Tuple es x1 pos) (wTup R) := ⟨(pe_tup h.pa).imp fun σ H Q ⟨B, O, ρ, w, XD, r, EX, t⟩ =>
  ⟨B, O, ρ, w, XD, r, EX, h.mono _ _ _ _ _ (fun xs ρ1 n1 ⟨ds, e, hl, z⟩ vs O1 H1 r1 dx => by
    subst e
    exact ⟨Nat.le_of_lt (lim_le (by rw [dx.len, List.length_map]; exact hl)), fun p np => z _ _ _ (r1.same ok (new_same np)) (Dx.newT r1.al np dx.data)⟩) t⟩, fun _ _ _ _ _ k h' => h.mono _ _ _ _ _ (fun d ρ1 n1 ⟨ds, e, l, z⟩ => ⟨ds, e, l, k _ _ _ z⟩) h'⟩
def wCall (g : List PyData → Option PyData) (R : TW (List Wv)) : TW Wv := fun XD ρ w Q => R XD ρ w fun xs ρ1 w1 => ∃ ds c, xs = ds.map .d ∧ g ds = some c ∧ Q (.d c) ρ1 w1
theorem wCall_mono {g : List PyData → Option PyData} (m : MonoT R) : MonoT (wCall g R) := fun _ _ _ _ _ k h => m _ _ _ _ _ (fun d ρ1 n1 ⟨ds, c, e0, e, z⟩ => ⟨ds, c, e0, e, k _ _ _ z⟩) h
section
variable {x : Str} {id T : String} {g : List PyData → Option PyData}
theorem twF (ok : S.Ok) (m : MonoT R) {σ : L2.St} {H : Hp} {Q : VK} (h : tWE X.K X.mg S W (wCall g R) σ H Q) : tCB (rcF X.K g) (tWA X.K X.mg S W R) σ H Q := by
  obtain ⟨B, O, ρ, w, XD, r, EX, t⟩ := h
  refine ⟨B, O, ρ, w, XD, r, EX, m _ _ _ _ _ (fun xs ρ1 n1 ⟨ds, c, e0, e, z⟩ vs O1 H1 r1 dx => ?_) t⟩
  subst e0
  exact ⟨O1, ds, c, r1.al, dx.data, e, fun v H2 s2 h2 => z v O1 H2 (r1.same ok s2) h2⟩
theorem pw_callB (ok : S.Ok) (hc : CallR X (.builtin id) (rcF X.K g)) (hg : Gl X x) (hm : X.mg x = none) (hv : bootBuiltins x = some (.builtin id)) (ha : PWA X S W (e :: es) R) (hn : x ≠ "__name__" := by decide) (hdb : (x == ("__debug__" : Str)) = false := by decide)
    (he : starEach (e :: es) X.env = (false, eval e X.env) :: starEach es X.env := by rfl) (hpl : (backTo pos (starEach es X.env)).any (·.1) = false := by rfl) : PWo X S W (.Call (.Name x p) (e :: es) [] pos) (wCall g R) :=
  ⟨(pe_callB hc hg hm hv ha.pa hn hdb he hpl).imp fun _ _ _ h => twF ok ha.mono h, wCall_mono ha.mono⟩
/-- a def over data -/
def wCallU (m : Nat) (sem : List PyData → Option PyData) (R : TW (List Wv)) : TW Wv := fun XD ρ w Q => R XD ρ w fun xs ρ1 w1 => ∃ ds c, xs = ds.map .d ∧ ds.length = m ∧ sem ds = some c ∧ Q (.d c) ρ1 w1
theorem pw_callF (ok : S.Ok) {k m : Nat} {f : Addr} {fd : FuncData} {ps : List Str} {sem : List PyData → Option PyData} {E : XK} (F : FnG X.prog X.w X.K X.mg X.base CX0 k f fd ps (spF X.K m sem)) (hgd : X.A.guards = some []) (hr : Room k X.A) (hg : Gl X x) (hm : X.mg x = some (.ref f)) (hk : PySem.W.keepIn X.K (.ref f) = true) (hb : Binds X.K fd ps [])
    (ha : PWA X S W (e :: es) R) (hdb : (x == ("__debug__" : Str)) = false := by decide) (he : starEach (e :: es) X.env = (false, eval e X.env) :: starEach es X.env := by rfl) (hpl : (backTo pos (starEach es X.env)).any (·.1) = false := by rfl) :
    PWo X S W (.Call (.Name x p) (e :: es) [] pos) (wCallU m sem R) :=
  ⟨(pe_callG F hgd hr hg hm hk hb .nil pass0 (E := fun _ _ _ => False) ha.pa hdb he hpl).imp fun σ H Q ⟨B, O, ρ, w, XD, r, EX, t⟩ =>
    ⟨B, O, ρ, w, XD, r, EX, ha.mono _ _ _ _ _ (fun xs ρ1 n1 ⟨ds, c, e0, hl, e1, z⟩ vs O1 H1 r1 dx => by
      subst e0
      exact ⟨O1, ds, c, r1.al, by rw [List.append_nil]; exact dx.data, hl, e1, fun v H2 s2 h2 => z v O1 H2 (r1.same ok s2) h2⟩) t⟩,
    fun _ _ _ _ _ k h => ha.mono _ _ _ _ _ (fun d ρ1 n1 ⟨ds, c, e0, l, e, z⟩ => ⟨ds, c, e0, l, e, k _ _ _ z⟩) h⟩
/-- a def over data that may raise -/
def wCallX (m : Nat) (sem : List PyData → Option RX) (R : TW (List Wv)) : TW Wv := fun XD ρ w Q => R XD ρ w fun xs ρ1 w1 => ∃ ds r, xs = ds.map .d ∧ ds.length = m ∧ sem ds = some r ∧ (∀ d, r = .ok d → Q (.d d) ρ1 w1) ∧ ∀ e, r = .error e → XD e ρ1 w1
theorem pw_callX (ok : S.Ok) {k m : Nat} {f : Addr} {fd : FuncData} {ps : List Str} {sem : List PyData → Option RX} (tk : Takes X W) (F : FnG X.prog X.w X.K X.mg X.base (L2.CX X.prog X.w) k f fd ps (spX X.K X.mg m sem)) (hgd : X.A.guards = some []) (hr : Room k X.A) (hg : Gl X x) (hm : X.mg x = some (.ref f)) (hk : PySem.W.keepIn X.K (.ref f) = true) (hb : Binds X.K fd ps [])
    (ha : PWA X S W (e :: es) R) (hdb : (x == ("__debug__" : Str)) = false := by decide) (he : starEach (e :: es) X.env = (false, eval e X.env) :: starEach es X.env := by rfl) (hpl : (backTo pos (starEach es X.env)).any (·.1) = false := by rfl) :
    PWo X S W (.Call (.Name x p) (e :: es) [] pos) (wCallX m sem R) :=
  ⟨(pe_callGS (E := WE W) F hgd hr hg hm hk hb (fun σ => passAt tk σ) ha.pa hdb he hpl).imp fun σ H Q ⟨B, O, ρ, w, XD, r, EX, t⟩ =>
    ⟨B, O, ρ, w, XD, r, EX, ha.mono _ _ _ _ _ (fun xs ρ1 n1 ⟨ds, c, e0, hl, e1, q1, q2⟩ vs O1 H1 r1 dx => by
      subst e0
      exact ⟨O1, ds, c, r1.al, dx.data, hl, e1, fun d hd v H2 s2 h2 => q1 d hd v O1 H2 (r1.same ok s2) h2, fun er he cls d H2 s2 ea => EX er O1 cls d σ H2 ρ1 n1 (q2 er he) (r1.same ok s2) ea⟩) t⟩,
    fun _ _ _ _ _ k h => ha.mono _ _ _ _ _ (fun d ρ1 n1 ⟨ds, c, e0, l, e, z1, z2⟩ => ⟨ds, c, e0, l, e, fun d hd => k _ _ _ (z1 d hd), z2⟩) h⟩
end
end
end DS
set_option maxHeartbeats 4000000
namespace DS
open PySem PySem.Spec PyProof.Rows L2
/-! ### statements over a world -/
structure EnW where
  nx : Dn → Wd → Prop
  rt : Wv → Wd → Prop
  bk : Dn → Wd → Prop
  ct : Dn → Wd → Prop
abbrev TSW := EnW → XW → Dn → Wd → Prop
structure EndsW (K : PySem.W.Frag) (S : Wf) (B : Hp) (DD : EnW) (D : Ends) : Prop where
  nx : ∀ O' σ' H' ρ' w', RepW K S B O' H' σ' ρ' w' → DD.nx ρ' w' → D.nx σ' H'
  bk : ∀ O' σ' H' ρ' w', RepW K S B O' H' σ' ρ' w' → DD.bk ρ' w' → D.bk σ' H'
  ct : ∀ O' σ' H' ρ' w', RepW K S B O' H' σ' ρ' w' → DD.ct ρ' w' → D.ct σ' H'
  rt : ∀ v x O' H' w', RepW K S B O' H' [] [] w' → WvOk K (Fz O' H') v x → DD.rt x w' → D.rt v H'
def tWS (K : PySem.W.Frag) (mg : Str → Option Value) (S : Wf) (W : WX) (T : TSW) : TS := fun D σ H => ∃ B O ρ w DD XD, RepW K S B O H σ ρ w ∧ EndsW K S B DD D ∧ EndW K mg S B XD W ∧ T DD XD ρ w
structure PWS (X : Cx) (S : Wf) (W : WX) (st : Stmt) (T : TSW) : Prop where
  ps : PS X st (tWS X.K X.mg S W T)
structure PWSs (X : Cx) (S : Wf) (W : WX) (st : List Stmt) (T : TSW) : Prop where
  pss : PSs X st (tWS X.K X.mg S W T)
theorem EndsW.base {K : PySem.W.Frag} {S : Wf} {B B' : Hp} {DD : EnW} {D : Ends} (h : EndsW K S B DD D) (s : Same B B') : EndsW K S B' DD D :=
  ⟨fun O' σ' H' ρ' w' r => h.nx O' σ' H' ρ' w' (r.base s), fun O' σ' H' ρ' w' r => h.bk O' σ' H' ρ' w' (r.base s), fun O' σ' H' ρ' w' r => h.ct O' σ' H' ρ' w' (r.base s), fun v x O' H' w' r => h.rt v x O' H' w' (r.base s)⟩
section
variable {X : Cx} {S : Wf} {W : WX} {st : Stmt} {rest : List Stmt} {T U : TSW} {pos : Pos} {e : Expr} {Ta : TW Wv}
theorem PWS.imp {T' : TSW} (h : PWS X S W st T) (k : ∀ DD XD ρ w, T' DD XD ρ w → T DD XD ρ w) : PWS X S W st T' := ⟨h.ps.imp fun D σ H ⟨B, O, ρ, w, DD, XD, r, E, EX, t⟩ => ⟨B, O, ρ, w, DD, XD, r, E, EX, k _ _ _ _ t⟩⟩
def wsNil : TSW := fun DD _ ρ w => DD.nx ρ w
def wsSeq (T U : TSW) : TSW := fun DD XD ρ w => T { DD with nx := fun ρ' w' => U DD XD ρ' w' } XD ρ w
theorem pws_nil : PWSs X S W [] wsNil := ⟨pss_nil.imp fun D σ H ⟨B, O, ρ, w, DD, XD, r, E, EX, t⟩ => E.nx O σ H ρ w r t⟩
theorem pws_cons (h1 : PWS X S W st T) (h2 : PWSs X S W rest U) : PWSs X S W (st :: rest) (wsSeq T U) := ⟨(pss_cons h1.ps h2.pss).imp fun D σ H ⟨B, O, ρ, w, DD, XD, r, E, EX, t⟩ =>
  ⟨B, O, ρ, w, { DD with nx := fun ρ' w' => U DD XD ρ' w' }, XD, r, ⟨fun O' σ' H' ρ' w' r' u => ⟨B, O', ρ', w', DD, XD, r', E, EX, u⟩, E.bk, E.ct, E.rt⟩, EX, t⟩⟩
theorem pws_one (h1 : PWS X S W st T) : PWSs X S W [st] T := ⟨pss_one h1.ps⟩
theorem pws_pass : PWS X S W (.Pass pos) wsNil := ⟨ps_pass.imp fun D σ H ⟨B, O, ρ, w, DD, XD, r, E, EX, t⟩ => E.nx O σ H ρ w r t⟩
/-! return, set, if, an expression -/
def wRet (T : TW Wv) : TSW := fun DD XD ρ w => T XD ρ w fun x _ w' => DD.rt x w'
theorem pws_ret (h : PWo X S W e Ta) : PWS X S W (.Return (some e) pos) (wRet Ta) := ⟨(ps_ret h.pe).imp fun D σ H ⟨B, O, ρ, w, DD, XD, r, E, EX, t⟩ => ⟨B, O, ρ, w, XD, r, EX, h.mono _ _ _ _ _ (fun x ρ' w' q v O' H' r' dx => E.rt v x O' H' w' r'.bare dx q) t⟩⟩
def wSet (i : Nat) (T : TW Wv) : TSW := fun DD XD ρ w => T XD ρ w fun x ρ' w' => DD.nx (ρ'.set i (entW x)) w'
theorem pws_set {i : Nat} {x : Str} {pos' : Pos} (hN : X.N.Nodup) (hi : X.N[i]? = some x) (hx : Loc X.env.scope x) (he : PWo X S W e Ta) (hs : swapsWith e (some (.Name x pos')) pos.line X.env = pure false := by rfl) (hf : X.fn x = true ∨ X.env.scope.names.lookup x = some .local := by first | exact .inl rfl | exact .inr rfl | assumption) :
    PWS X S W (.Assign [.Name x pos'] e pos) (wSet i Ta) := ⟨(ps_set hN hi hx he.pe hs hf).imp fun D σ H ⟨B, O, ρ, w, DD, XD, r, E, EX, t⟩ => ⟨B, O, ρ, w, XD, r, EX, he.mono _ _ _ _ _ (fun d ρ1 w1 z v O1 H1 r1 dx => E.nx O1 _ H1 _ w1 (r1.setW dx i) z) t⟩⟩
def wIfS (T : TW Bool) (U V : TSW) : TSW := fun DD XD ρ w => T XD ρ w fun b ρ1 w1 => if b = true then U DD XD ρ1 w1 else V DD XD ρ1 w1
theorem pws_if {c : Expr} {Tc : TW Bool} {as bs : List Stmt} {V : TSW} (hc : PWT X S W c Tc) (ha : PWSs X S W as U) (hb : PWSs X S W bs V) : PWS X S W (.If c as bs pos) (wIfS Tc U V) := ⟨(ps_if hc.pt ha.pss hb.pss).imp fun D σ H ⟨B, O, ρ, w, DD, XD, r, E, EX, t⟩ =>
  ⟨B, O, ρ, w, XD, r, EX, hc.mono _ _ _ _ _ (fun k ρ1 w1 z O1 H1 r1 => by
    cases k with
    | true => exact ⟨B, O1, ρ1, w1, DD, XD, r1, E, EX, z⟩
    | false => exact ⟨B, O1, ρ1, w1, DD, XD, r1, E, EX, z⟩) t⟩⟩
def wExpr (T : TW Wv) : TSW := fun DD XD ρ w => T XD ρ w fun _ ρ1 w1 => DD.nx ρ1 w1
theorem pws_expr (h : PWo X S W e Ta) (hs : swapsWith e none pos.line X.env = pure false := by rfl) : PWS X S W (.Expr e pos) (wExpr Ta) := ⟨(ps_expr h.pe hs).imp fun D σ H ⟨B, O, ρ, w, DD, XD, r, E, EX, t⟩ =>
  ⟨B, O, ρ, w, XD, r, EX, h.mono _ _ _ _ _ (fun x ρ1 w1 z v O1 H1 r1 dx => E.nx O1 σ H1 ρ1 w1 r1 z) t⟩⟩
/-! a statement over data -/
def EnW.ends (DD : EnW) (w : Wd) : Res → Prop
  | .nx ρ => DD.nx ρ w
  | .rt d => False
  | .bk ρ => DD.bk ρ w
  | .ct ρ => DD.ct ρ w
def wZX (f : SFX) : TSW := fun DD XD ρ w => ∃ r, f ρ = some r ∧ (∀ z, r = .ok z → DD.ends w z) ∧ ∀ e ρ', r = .error (e, ρ') → XD e ρ' w
theorem wZX_ok (K : PySem.W.Frag) {mg : Str → Option Value} {f : SFX} {D : Ends} {σ : L2.St} {H : Hp} {B : Hp} {O : Hid} {ρ : Dn} {w : Wd} {DD : EnW} {XD : XW} (r : RepW K S B O H σ ρ w) (E : EndsW K S B DD D) (EX : EndW K mg S B XD W) (t : wZX f DD XD ρ w) : tSX K mg (S.fr w H) W (dFX f) D σ H := by
  obtain ⟨z, e, q1, q2⟩ := t
  refine ⟨Fz O H, O, ρ, 0, ⟨fun ρ' _ => DD.nx ρ' w, fun _ _ => False, fun ρ' _ => DD.bk ρ' w, fun ρ' _ => DD.ct ρ' w⟩, fun e ρ' _ => XD e ρ' w, r.rs.here, ⟨z, e, fun z' hz => ?_, fun e ρ' hz => q2 e ρ' hz⟩, ⟨fun O' σ' H' ρ' n' r' h => E.nx O' σ' H' ρ' w (r.of r') h, fun O' σ' H' ρ' n' r' h => E.bk O' σ' H' ρ' w (r.of r') h, fun O' σ' H' ρ' n' r' h => E.ct O' σ' H' ρ' w (r.of r') h, fun v H' d n' _ _ _ _ h => h.elim⟩,
    fun e O' cls d σ' H' ρ' n' x r' ea => EX e O' cls d σ' H' ρ' w x (r.of r') ea⟩
  have := q1 z' hz
  cases z' with
  | nx ρ => exact this
  | rt d => exact this
  | bk ρ => exact this
  | ct ρ => exact this
theorem pws_pzx (ok : S.Ok) {f : SFX} (h : ∀ S' : Fr, S'.Ok → PZX X S' W st f) : PWS X S W st (wZX f) := ⟨⟨fun pins s σ H D I ⟨B, O, ρ, w, DD, XD, r, E, EX, t⟩ => (h (S.fr w H) (S.ok ok w H)).pd.ps.run pins s σ H D I (wZX_ok X.K r E EX t)⟩⟩
/-! a, b = x, y -/
def wPar (i j : Nat) (R : TW (List Wv)) : TSW := fun DD XD ρ w => R XD ρ w fun xs ρ1 w1 => ∃ x y, xs = [x, y] ∧ DD.nx ((ρ1.set i (entW x)).set j (entW y)) w1
theorem pws_par {i j : Nat} {x y : Str} {a b : Expr} {R : TW (List Wv)} {px py pt : Pos} {kt k2 pt2} (hc : X.calm = true) (hN : X.N.Nodup) (hi : X.N[i]? = some x) (hj : X.N[j]? = some y) (hij : i ≠ j)
    (hx : X.env.scope.names.lookup x = some .local) (hy : X.env.scope.names.lookup y = some .local) (ha : PWA X S W [a, b] R)
    (hw : swappedStores [.Tuple [.Name x px, .Name y py] kt pt] (.Tuple [a, b] k2 pt2) X.env = pure (some [x, y]))
    (hs : swapsWithSole [.Tuple [.Name x px, .Name y py] kt pt] (.Tuple [a, b] k2 pt2) pos.line X.env = pure false := by rfl) :
    PWS X S W (.Assign [.Tuple [.Name x px, .Name y py] kt pt] (.Tuple [a, b] k2 pt2) pos) (wPar i j R) := ⟨(ps_par hc hN hi hj hij hx hy ha.pa hw hs).imp fun D σ H ⟨B, O, ρ, w, DD, XD, r, E, EX, t⟩ =>
  ⟨B, O, ρ, w, XD, r, EX, ha.mono _ _ _ _ _ (fun xs ρ1 w1 ⟨x, y, e1, z⟩ vs O1 H1 r1 dx => by
    subst e1
    cases dx with
    | cons h1 h2 =>
      cases h2 with
      | cons h2 h3 =>
        cases h3
        exact ⟨_, _, rfl, E.nx O1 _ H1 _ w1 ((r1.setW h1 i).setW h2 j) z⟩) t⟩⟩
/-! loops -/
def tWI (K : PySem.W.Frag) (mg : Str → Option Value) (S : Wf) (W : WX) (T : TW (List PyData)) : L2.TI := fun σ H R => ∃ B O ρ w XD, RepW K S B O H σ ρ w ∧ EndW K mg S B XD W ∧ T XD ρ w fun xs ρ' w' => ∀ J O' H', RepW K S B O' H' σ ρ' w' → ItD K O' H' J xs → R J H'
structure PWI (X : Cx) (S : Wf) (W : WX) (tg e : Expr) (T : TW (List PyData)) : Prop where
  pi : PI X tg e (tWI X.K X.mg S W T)
  mono : MonoT T
variable {tg : Expr} {p : Pos}
def wiF (f : Dn → Option (List PyData)) : TW (List PyData) := fun _ ρ w Q => ∃ xs, f ρ = some xs ∧ Q xs ρ w
def wiRng (T : TW Wv) : TW (List PyData) := fun XD ρ w Q => T XD ρ w fun d ρ1 w1 => ∃ j : Int, d = .d (.int j) ∧ okR j = true ∧ Q (rngD 0 j.toNat) ρ1 w1
theorem pwi_pure (ok : S.Ok) {f : Dn → Option (List PyData)} (h : PIF X tg e f) : PWI X S W tg e (wiF f) :=
  ⟨h.pi.imp fun σ H R ⟨B, O, ρ, w, XD, r, EX, xs, e1, q⟩ => ⟨O, .non, ρ, xs, r.al, r.rep, e1, fun J H' s it => q J O H' (r.same ok s) it⟩, fun _ _ _ _ _ k ⟨xs, e1, q⟩ => ⟨xs, e1, k _ _ _ q⟩⟩
theorem pwi_range (hg : Gl X "range") (hm : X.mg "range" = none) (h : PWo X S W e Ta) (hs : starEach [e] X.env = [(false, eval e X.env)] := by rfl) : PWI X S W tg (.Call (.Name "range" p) [e] [] pos) (wiRng Ta) :=
  ⟨(pi_range1 hg hm (pa_cons h.pe pa_nil (by rw [hs]; rfl)) hs).imp fun σ H R ⟨B, O, ρ, w, XD, r, EX, t⟩ => ⟨B, O, ρ, w, XD, r, EX, h.mono _ _ _ _ _ (fun d ρ1 w1 ⟨j, ed, hj, q⟩ v O1 H1 rr dx => by
    subst ed
    cases (show Dx X.K _ v (.int j) from dx)
    exact ⟨j, rfl, (okR_of hj).1, (okR_of hj).2, q _ O1 H1 rr (itd_range 0 _)⟩) t⟩, fun _ _ _ _ _ k t => h.mono _ _ _ _ _ (fun d ρ1 n1 ⟨j, ed, hj, q⟩ => ⟨j, ed, hj, k _ _ _ q⟩) t⟩
def wFor (Ti : TW (List PyData)) (g : PyData → Dn → Option Dn) (T : TSW) : TSW := fun DD XD ρ w => Ti XD ρ w fun xs ρ1 w1 => ∃ I : Nat → Dn → Wd → Prop, I 0 ρ1 w1 ∧
  (∀ i x ρ' w', xs[i]? = some x → I i ρ' w' → ∃ ρ2, g x ρ' = some ρ2 ∧ T { nx := I (i + 1), ct := I (i + 1), bk := DD.nx, rt := DD.rt } XD ρ2 w') ∧ ∀ ρ' w', I xs.length ρ' w' → DD.nx ρ' w'
theorem pws_for (ok : S.Ok) {Ti : TW (List PyData)} {iter : Expr} {body : List Stmt} {sl : List Nat} {g : PyData → Dn → Option Dn} (hp : PassesOwn (model X.prog X.w) X.A X.env X.xe) (hc : X.calm = true) (hi : PWI X S W tg iter Ti) (hg : PGF X tg sl g) (sg : Sets g sl) (hb : PWSs X S W body T)
    (hs : ∀ x, foldedSetIterable iter X.env x = pure x := by intro _; rfl) : PWS X S W (.For tg iter body [] pos) (wFor Ti g T) := ⟨(ps_for hp hc hi.pi hg.pg hb.pss hs).imp fun D σ H ⟨B, O, ρ, w, DD, XD, r, E, EX, t⟩ => by
  refine ⟨B, O, ρ, w, XD, r, EX, hi.mono _ _ _ _ _ (fun xs ρ1 w1 ⟨I, i0, step, fin⟩ J O1 H1 rr it => ?_) t⟩
  have r1 := rr.here
  have bb : Same B (Fz O1 H1) := rr.fz
  refine ⟨fun i m σ' H' => m = xs.length - i ∧ i ≤ xs.length ∧ ∃ O' ρ' w', RepW X.K S (Fz O1 H1) O' H' σ' ρ' w' ∧ I i ρ' w', ⟨xs.length, by simp, Nat.zero_le _, O1, ρ1, w1, r1, i0⟩, ?_⟩
  rintro i m σ' H' ⟨rfl, hi, O', ρ', w', r', inv⟩
  obtain ⟨g1, g2, g3⟩ := it O' H' r'.fz r'.al
  by_cases hlt : i < xs.length
  · have ex : xs[i]? = some xs[i] := List.getElem?_eq_getElem hlt
    obtain ⟨ρ2, e2, tb⟩ := step i _ ρ' w' ex inv
    refine .inr ⟨g1 i hlt, fun σ2 H2 => ∃ O2 ρ2 w2, RepW X.K S (Fz O1 H1) O2 H2 σ2 ρ2 w2 ∧ I (i + 1) ρ2 w2, fun σ2 H2 ⟨O2, ρ2, w2, r2, i2⟩ => ⟨xs.length - (i + 1), by omega, rfl, hlt, O2, ρ2, w2, r2, i2⟩, fun x H2 y => ?_⟩
    obtain ⟨s2, dx⟩ := g3 i x H2 _ ex y
    have r2 := r'.same ok s2
    refine ⟨O', .non, ρ', _, ρ2, r2.al, r2.rep, dx, e2, fun σ2 re wp => ⟨Fz O1 H1, O', ρ2, w', _, XD, ⟨r2.rs.target sg e2 re wp, r2.ob, r2.nw⟩, ?_, EX.base bb, tb⟩⟩
    exact ⟨fun O3 σ3 H3 ρ3 w3 r3 q => ⟨O3, ρ3, w3, r3, q⟩, fun O3 σ3 H3 ρ3 w3 r3 q => E.nx O3 σ3 H3 ρ3 w3 (r3.base bb) q, fun O3 σ3 H3 ρ3 w3 r3 q => ⟨O3, ρ3, w3, r3, q⟩, (E.base bb).rt⟩
  · have ei : i = xs.length := by omega
    subst ei
    exact .inl ⟨g2, E.nx O' σ' H' ρ' w' (r'.base bb) (fin ρ' w' inv)⟩⟩
end
end DS
set_option maxHeartbeats 4000000
namespace DS
open PySem PySem.Spec PyProof.Rows L2
/-! ### defs over a world, and their calls -/
abbrev TC := List Wv → Wd → (Wv → Wd → Prop) → (ErrD → Wd → Prop) → Prop
def MonoC (T : TC) : Prop := ∀ xs w Q Q' E E', (∀ x w', Q x w' → Q' x w') → (∀ e w', E e w' → E' e w') → T xs w Q E → T xs w Q' E'
def spW (K : PySem.W.Frag) (mg : Str → Option Value) (m : Nat) (T : TC) : Sp := fun vs H Q E => ∃ O xs w, Al O H ∧ WvsOk K (Fz O H) vs xs ∧ xs.length = m ∧ (∀ a, w a ≠ none → O a) ∧ (∀ a x, w a = some x → ∃ o, H a = some o ∧ ObOk K (Fz O H) o x) ∧
  T xs w (fun r w' => ∀ v H', AftW K O w H w' H' → WvOk K (Fz (hidW O w') H') v r → Q v H') fun e w' => ∀ cls d H', AftW K O w H w' H' → ErrAt K mg (hidW O w') H' e cls d → E cls d H'
theorem spW_len {K : PySem.W.Frag} {mg : Str → Option Value} {m : Nat} {T : TC} {vs : List V} {H : Hp} {Q : VK} {E : XK} (h : spW K mg m T vs H Q E) : vs.length = m := by
  obtain ⟨O, xs, w, _, dx, hl, _⟩ := h
  rw [dx.len, hl]
/-- a body's end as the caller sees it -/
theorem RepW.end {K : PySem.W.Frag} {B H H' : Hp} {O O' : Hid} {w w' : Wd} (r : RepW K ⟨H, O, fun a => w a ≠ none⟩ B O' H' [] [] w') : AftW K O w H w' H' ∧ Same (Fz O' H') (Fz (hidW O w') H') := by
  have f : Same (Fz O' H') (Fz (hidW O w') H') := fz_less (fun b z => z.elim (r.rs.sub b) fun c => r.rs.mo b (.inr c)) H'
  refine ⟨⟨fun b x e wb => r.rs.kp b x e fun z => z.elim (fun c => c wb) fun c => ?_, fun a x e => ?_, fun a c => r.nw a c, fun a z => r.rs.al a (r.rs.sub a z)⟩, f⟩
  · rcases r.nw b c with k | k
    · exact k wb
    · rw [show (⟨H, O, fun a => w a ≠ none⟩ : Wf).H0 b = some x from e] at k
      cases k
  · obtain ⟨o, h1, h2⟩ := r.ob a x e
    exact ⟨o, h1, h2.same f⟩
def startW (N : Nat) (xs : List Wv) : Dn := xs.map entW ++ List.replicate (N - xs.length) .na
theorem startW_at {N : Nat} {xs : List Wv} {i : Nat} {e : Ent} (h : (startW N xs)[i]? = some e) : (∃ x, xs[i]? = some x ∧ e = entW x) ∨ (xs.length ≤ i ∧ e = .na ∧ i < N) := by
  unfold startW at h
  by_cases lt : i < xs.length
  · rw [List.getElem?_append_left (by rw [List.length_map]; exact lt), List.getElem?_map] at h
    cases z : xs[i]? with
    | none => rw [z] at h; cases h
    | some d => rw [z] at h; cases h; exact .inl ⟨d, rfl, rfl⟩
  · rw [List.getElem?_append_right (by rw [List.length_map]; omega), List.getElem?_replicate] at h
    split at h <;> cases h
    rename_i z
    rw [List.length_map] at z
    exact .inr ⟨by omega, rfl, by omega⟩
theorem WvsOk.get {K : PySem.W.Frag} {H : Hp} : ∀ {vs : List V} {xs : List Wv} {i : Nat} {x : Wv}, WvsOk K H vs xs → xs[i]? = some x → ∃ v, vs[i]? = some v ∧ WvOk K H v x
  | _, _, _, _, .nil, e => by simp at e
  | _, _, 0, _, .cons h _, e => by simp at e; subst e; exact ⟨_, rfl, h⟩
  | _, _, i + 1, d, .cons _ r, e => by
    obtain ⟨v, h1, h2⟩ := WvsOk.get (i := i) (x := d) r (by simpa using e)
    exact ⟨v, by simpa using h1, h2⟩
theorem repW_start {K : PySem.W.Frag} {O : Hid} {H : Hp} {w : Wd} {N : List Str} {vs : List V} {xs : List Wv} (al : Al O H) (h : WvsOk K (Fz O H) vs xs) (hid : ∀ a, w a ≠ none → O a) (ob : ∀ a x, w a = some x → ∃ o, H a = some o ∧ ObOk K (Fz O H) o x) : RepW K ⟨H, O, fun a => w a ≠ none⟩ (Fz O H) O H (L2.start N vs) (startW N.length xs) w := by
  have hl := h.len
  refine ⟨⟨al, ⟨by simp [startW, L2.start, hl], fun i e q => ?_⟩, fun b x e _ => e, fun _ z => z, fun b z => z.elim (hid b) (hid b), Same.refl _, fun i g og q e1 e2 e3 => ?_, fun _ _ => rfl⟩, ob, fun a z => .inl z⟩
  · rcases startW_at q with ⟨x, e1, e2⟩ | ⟨h1, h2, h3⟩
    · obtain ⟨v, k1, k2⟩ := h.get e1
      refine ⟨some v, ?_, by rw [e2]; exact entW_ok k2⟩
      unfold L2.start
      rw [List.getElem?_append_left (by rw [List.length_map, hl]; exact (List.getElem?_eq_some_iff.mp e1).1), List.getElem?_map, k1]
      rfl
    · refine ⟨none, ?_, by rw [h2]; trivial⟩
      unfold L2.start
      rw [List.getElem?_append_right (by rw [List.length_map]; omega), List.getElem?_replicate, List.length_map]
      rw [if_pos (by omega)]
  · exfalso
    rcases startW_at e1 with ⟨x, _, e⟩ | ⟨_, e, _⟩
    · rw [e] at e3
      exact entW_no x _ _ _ e3
    · rw [e] at e3
      exact e3
section
variable {P : Program} {w : World} {K : PySem.W.Frag} {mg : Str → Option Value} {base : Heap}
/-- what a body means, as a contract -/
def conW (N : Nat) (T : TSW) : TC := fun xs w Q E => T ⟨fun _ w' => Q (.d .none) w', Q, fun _ _ => False, fun _ _ => False⟩ (fun e _ w' => E e w') (startW N xs) w
end
/-! calls -/
section
variable {X : Cx} {S : Wf} {W : WX} {e o : Expr} {pos p apos : Pos} {es : List Expr} {R : TW (List Wv)} {To : TW Wv} {k m : Nat} {f C : Addr} {fd : FuncData} {ps : List Str} {T : TC} {dxs : List PyData} {dvs : List V} {ds : List Value} {x : Str}
/-- defaults: data that needs no heap -/
def DflOk (K : PySem.W.Frag) (dvs : List V) (dxs : List PyData) : Prop := ∀ H, DxAll K H dvs dxs
theorem dfl_nil {K : PySem.W.Frag} : DflOk K [] [] := fun _ => .nil
theorem dfl_non {K : PySem.W.Frag} : DflOk K [.non] [.none] := fun _ => .cons .non .nil
theorem WvsOk.append {K : PySem.W.Frag} {H : Hp} : ∀ {vs us : List V} {xs ys : List Wv}, WvsOk K H vs xs → WvsOk K H us ys → WvsOk K H (vs ++ us) (xs ++ ys)
  | _, _, _, _, .nil, k => k
  | _, _, _, _, .cons h r, k => .cons h (r.append k)
def wCon (T : TC) (m : Nat) (dxs : List PyData) (R : TW (List Wv)) : TW Wv := fun XD ρ w Q => R XD ρ w fun xs ρ1 w1 => (xs ++ dxs.map Wv.d).length = m ∧ T (xs ++ dxs.map Wv.d) w1 (fun x w2 => Q x ρ1 w2) fun e w2 => XD e ρ1 w2
theorem wCon_mono (mr : MonoT R) (mt : MonoC T) : MonoT (wCon T m dxs R) := fun _ _ _ _ _ k h => mr _ _ _ _ _ (fun xs ρ1 w1 ⟨l, t⟩ => ⟨l, mt _ _ _ _ _ _ (fun x w' q => k _ _ _ q) (fun _ _ q => q) t⟩) h
/-- the callee's promise, from the caller's state -/
theorem spW_in {B H : Hp} {O : Hid} {σ : L2.St} {ρ : Dn} {w : Wd} {XD : XW} {vs : List V} {xs : List Wv} {Q : VK} {Q' : Wv → Dn → Wd → Prop} (mt : MonoC T) (r : RepW X.K S B O H σ ρ w) (EX : EndW X.K X.mg S B XD W) (dx : WvsOk X.K (Fz O H) vs xs) (hl : xs.length = m)
    (q : ∀ x w' v O' H', Q' x ρ w' → RepW X.K S B O' H' σ ρ w' → WvOk X.K (Fz O' H') v x → Q v H') (t : T xs w (fun x w2 => Q' x ρ w2) fun e w2 => XD e ρ w2) : spW X.K X.mg m T vs H Q (WE W σ) := by
  refine ⟨O, xs, w, r.al, dx, hl, fun a z => r.hid z, r.ob, mt _ _ _ _ _ _ (fun x w' h v H' af dv => ?_) (fun er w' h cls d H' af ea => ?_) t⟩
  · exact q x w' v _ H' h (r.after af) dv
  · exact EX er _ cls d σ H' ρ w' h (r.after af) ea
/-- a callee's run -/
theorem run_W {CX : CXT} {pins : List (Addr × Obj)} {σ : L2.St} {H : Hp} {s : Shared} {Q : VK} {us : List Value} {vs : List V} {sp : Sp} {E : XK} (F : FnG X.prog X.w X.K X.mg X.base CX k f fd ps sp) (hgd : X.A.guards = some []) (hr : Room k X.A) (hb : Binds X.K fd ps ds) (hd : Vals dvs ds) (hx : PassesAt CX X σ E)
    (I : Inv X pins σ H s) (r : Vals vs us) (h : sp (vs ++ dvs) H Q E) : wpAny (model X.prog X.w) X.A (call (.ref f) us) (EP X pins σ Q) X.xe s := by
  have r2 : Vals (vs ++ dvs) (us ++ ds) := r.append hd
  have hl : (us ++ ds).length = ps.length := by rw [← r2.length]; exact F.len _ _ _ _ h
  refine wpAny_call (codeAny_mono (F.go X.A X.stack s H ⟨us, []⟩ (us ++ ds) (vs ++ dvs) Q E hgd hr I.env0 (hb s us I.kIn hl) r2 h) fun r s' hq => ?_)
  match r, hq with
  | .error e, hq => exact hx pins H s e s' I hq
  | .ok (.ret u), hq => exact I.after hq
  | .ok .next, hq => exact hq.elim
  | .ok .brk, hq => exact hq.elim
  | .ok .cont, hq => exact hq.elim
def tCallE (sp : Sp) (dvs : List V) (W : WX) (t : TA) : TE := fun σ H Q => t σ H fun vs H1 => sp (vs ++ dvs) H1 Q (WE W σ)
theorem pe_callE {sp : Sp} {t : TA} (tk : Takes X W) (F : FnG X.prog X.w X.K X.mg X.base (L2.CX X.prog X.w) k f fd ps sp) (hgd : X.A.guards = some []) (hr : Room k X.A) (hg : Gl X x) (hm : X.mg x = some (.ref f)) (hk : PySem.W.keepIn X.K (.ref f) = true) (hb : Binds X.K fd ps ds) (hd : Vals dvs ds)
    (ha : PA X (e :: es) t) (hdb : (x == ("__debug__" : Str)) = false := by decide) (he : starEach (e :: es) X.env = (false, eval e X.env) :: starEach es X.env := by rfl) (hpl : (backTo pos (starEach es X.env)).any (·.1) = false := by rfl) :
    PE X (.Call (.Name x p) (e :: es) [] pos) (tCallE sp dvs W t) := by
  refine ⟨fun pins s σ H Q I h => wpAny_Call_Name_kw (ld_glob I hg hm ?_ hdb)⟩
  refine PySem.W.callWith_K (h₀ := X.base) I.ok.mod.kin hk (thn (ha.run pos pins s σ H _ I h) fun us s1 hz => ?_) he hpl
  obtain ⟨vs, H1, I1, r, q⟩ := hz
  exact ⟨I1.kIn, run_W F hgd hr hb hd (passAt tk σ) I1 r q⟩
theorem pw_callW (tk : Takes X W) (mt : MonoC T) (F : FnG X.prog X.w X.K X.mg X.base (L2.CX X.prog X.w) k f fd ps (spW X.K X.mg m T)) (hgd : X.A.guards = some []) (hr : Room k X.A) (hg : Gl X x) (hm : X.mg x = some (.ref f)) (hk : PySem.W.keepIn X.K (.ref f) = true) (hb : Binds X.K fd ps ds) (hd : Vals dvs ds) (hv : DflOk X.K dvs dxs)
    (ha : PWA X S W (e :: es) R) (hdb : (x == ("__debug__" : Str)) = false := by decide) (he : starEach (e :: es) X.env = (false, eval e X.env) :: starEach es X.env := by rfl) (hpl : (backTo pos (starEach es X.env)).any (·.1) = false := by rfl) :
    PWo X S W (.Call (.Name x p) (e :: es) [] pos) (wCon T m dxs R) :=
  ⟨(pe_callE tk F hgd hr hg hm hk hb hd ha.pa hdb he hpl).imp fun σ H Q ⟨B, O, ρ, w, XD, r, EX, t⟩ =>
    ⟨B, O, ρ, w, XD, r, EX, ha.mono _ _ _ _ _ (fun xs ρ1 w1 ⟨hl, t⟩ vs O1 H1 r1 dx => spW_in (Q' := fun x ρ2 w2 => ∀ v O' H', RepW X.K S B O' H' σ ρ2 w2 → WvOk X.K (Fz O' H') v x → Q v H') mt r1 EX (dx.append (WvsOk.of (hv _))) hl (fun x w' v O' H' h r' dv => h v O' H' r' dv) t) t⟩, wCon_mono ha.mono mt⟩
/-- a def that draws -/
def famS : FamT := fun dv M Dk => ∃ a, dv = .ref a ∧ M = (fun b => b = a) ∧ Dk = fun H n => ∃ o, H a = some o ∧ StmOk o n
theorem famS_ok : FamOk famS := ⟨fun dv M Dk ⟨a, e1, e2, e3⟩ H H' n k h => by
  subst e2 e3
  obtain ⟨o, h1, h2⟩ := h
  exact ⟨o, (k a rfl).trans h1, h2⟩⟩
def wDraw' (WD' : WD) (m : Nat) (R : TW (List Wv)) : TW Wv := fun XD ρ w Q => R XD ρ w fun xs ρ1 w1 => ∃ a ds n, xs = .o a :: ds.map .d ∧ w1 a = some (.stm n) ∧ ds.length = m ∧ WD' ds n fun d n' => Q (.d d) ρ1 (w1.put a (.stm n'))
theorem pw_draw {WD' : WD} (mw : MonoW WD') (F : FnG X.prog X.w X.K X.mg X.base CX0 k f fd ps (spD famS X.K m WD')) (hgd : X.A.guards = some []) (hr : Room k X.A) (hg : Gl X x) (hm : X.mg x = some (.ref f)) (hk : PySem.W.keepIn X.K (.ref f) = true) (hb : Binds X.K fd ps [])
    (ha : PWA X S W (e :: es) R) (hdb : (x == ("__debug__" : Str)) = false := by decide) (he : starEach (e :: es) X.env = (false, eval e X.env) :: starEach es X.env := by rfl) (hpl : (backTo pos (starEach es X.env)).any (·.1) = false := by rfl) :
    PWo X S W (.Call (.Name x p) (e :: es) [] pos) (wDraw' WD' m R) :=
  ⟨(pe_callG F hgd hr hg hm hk hb .nil pass0 (E := fun _ _ _ => False) ha.pa hdb he hpl).imp fun σ H Q ⟨B, O, ρ, w, XD, r, EX, t⟩ =>
    ⟨B, O, ρ, w, XD, r, EX, ha.mono _ _ _ _ _ (fun xs ρ1 w1 ⟨a, ds, n, e0, ea, hl, t⟩ vs O1 H1 r1 dx => by
      subst e0
      cases dx with
      | cons h1 h2 =>
        rename_i v us
        obtain rfl : v = .ref a := h1
        obtain ⟨o, ho, so⟩ := r1.ob a _ ea
        have Oa : O1 a := r1.hid (by rw [ea]; exact fun z => nomatch z)
        refine ⟨.ref a, fun b => b = a, fun H n => ∃ o, H a = some o ∧ StmOk o n, us, O1, ds, n, by rw [List.append_nil], ⟨a, rfl, rfl, rfl⟩, ⟨o, ho, so⟩, r1.al, fun b z => by rw [z]; exact Oa, h2.data, hl, mw _ _ _ _ (fun d n' q v H' kp dk al dv => ?_) t⟩
        obtain ⟨o', ho', so'⟩ := dk
        have r2 := r1.putO (x := .stm n') (H' := H') (o := o') (.inl (by rw [ea]; exact fun z => nomatch z)) (fun b y z nb => kp b y z nb) ho' fun _ => so'
        exact q v _ H' r2 (dv.same (fz_less (fun b z => z.elim id fun c => by
          by_cases q : b = a
          · rw [q]; exact Oa
          · rw [Wd.put_ne q] at c
            exact r1.hid c) H'))) t⟩,
    fun _ _ _ _ _ k h => ha.mono _ _ _ _ _ (fun xs ρ1 w1 ⟨a, ds, n, e0, ea, hl, t⟩ => ⟨a, ds, n, e0, ea, hl, mw _ _ _ _ (fun _ _ q => k _ _ _ q) t⟩) h⟩
/-! fields, stores -/
def wFld (C : Addr) (y : Str) (To : TW Wv) : TW Wv := fun XD ρ w Q => To XD ρ w fun x ρ1 w1 => ∃ a fs z, x = .o a ∧ w1 a = some (.ins C fs) ∧ fs.lookup y = some z ∧ Q z ρ1 w1
theorem pw_fld {y : Str} (c : L2.Cls X.K C) (n : NoAttr X.K C y) (ho : PWo X S W o To) (hb : attributeBase o y X.env (eval o X.env) = eval o X.env := by rfl) : PWo X S W (.Attribute o y pos) (wFld C y To) :=
  ⟨(pe_fld ho.pe hb).imp fun σ H Q ⟨B, O, ρ, w, XD, r, EX, t⟩ => ⟨B, O, ρ, w, XD, r, EX, ho.mono _ _ _ _ _ (fun x ρ1 w1 ⟨a, fs, z, e0, ea, l, q⟩ v O1 H1 r1 dx => by
    subst e0
    obtain ⟨ob, h1, dx', vs, e1, hf⟩ := r1.ob a _ ea
    subst e1
    obtain ⟨v', l1, h2⟩ := hf.get l
    exact ⟨a, C, dx', vs, v', dx, h1, c, n, l1, q v' O1 H1 r1 h2⟩) t⟩, fun _ _ _ _ _ k h => ho.mono _ _ _ _ _ (fun x ρ1 w1 ⟨a, fs, z, e0, ea, l, q⟩ => ⟨a, fs, z, e0, ea, l, k _ _ _ q⟩) h⟩
def wStore (C : Addr) (y : Str) (Te To : TW Wv) : TSW := fun DD XD ρ w => Te XD ρ w fun z ρ1 w1 => To XD ρ1 w1 fun x ρ2 w2 => ∃ a fs, x = .o a ∧ w2 a = some (.ins C fs) ∧ fs.length < 1000 ∧ DD.nx ρ2 (w2.put a (.ins C (putW y z fs)))
theorem pws_store {y : Str} {Te : TW Wv} {pos' : Pos} (c : L2.Cls X.K C) (n : NoAttr X.K C y) (ho : PWo X S W o To) (he : PWo X S W e Te) (hs : swapsWith e (some (.Attribute o y pos')) pos.line X.env = pure false := by rfl) : PWS X S W (.Assign [.Attribute o y pos'] e pos) (wStore C y Te To) :=
  ⟨(ps_fld ho.pe he.pe hs).imp fun D σ H ⟨B, O, ρ, w, DD, XD, r, E, EX, t⟩ => ⟨B, O, ρ, w, XD, r, EX, he.mono _ _ _ _ _ (fun z ρ1 w1 t v O1 H1 r1 dz => ⟨Fz O1 H1, O1, ρ1, w1, XD, r1.here, EX.base r1.fz, ho.mono _ _ _ _ _ (fun x ρ2 w2 ⟨a, fs, e0, ea, hl, q⟩ u O2 H2 r2 du => by
    subst e0
    obtain ⟨ob, h1, dx', vs, e1, hf⟩ := r2.ob a _ ea
    subst e1
    refine ⟨a, C, dx', vs, du, h1, c, n, by rw [hf.len]; exact hl, ?_⟩
    have r3 := (r2.base r1.fz).putO (H' := upd H2 a (.ins C dx' (putF y v vs))) (x := .ins C (putW y z fs)) (.inl (by rw [ea]; exact fun z => nomatch z)) (fun b q z nb => by rw [upd_ne nb]; exact z) upd_same fun s => ⟨dx', _, rfl, FsOk.put ((dz.same r2.fz).same s) (hf.same s)⟩
    exact E.nx _ σ _ ρ2 _ r3 q) t⟩) t⟩⟩
end
end DS
set_option maxHeartbeats 4000000
namespace DS
open PySem PySem.Spec PyProof.Rows L2
/-! ### methods, new instances, properties, len, str -/
/-- a method of a class, by its contract -/
structure MethC (X : Cx) (m : Str) (M : Nat) (dxs : List PyData) (C : Addr) (T : TC) : Prop where
  ex : ∃ k g fd ps dvs ds, L2.Cls X.K C ∧ Meth X.K C m g ∧ FnG X.prog X.w X.K X.mg X.base (L2.CX X.prog X.w) k g fd ps (spW X.K X.mg M T) ∧ Room k X.A ∧ Binds X.K fd ps ds ∧ Vals dvs ds ∧ DflOk X.K dvs dxs ∧ MonoC T
theorem takes_no {X : Cx} : Takes X (fun _ _ _ _ => False) := fun u s' ⟨a, B, sI, pins, σ, H, cls, d, e, I, nb, up, sky, na, os, ag, w⟩ => w.elim
section
variable {X : Cx} {S : Wf} {W : WX} {e o : Expr} {pos p apos : Pos} {es : List Expr} {R : TW (List Wv)} {To : TW Wv} {k M : Nat} {f C : Addr} {fd : FuncData} {ps : List Str} {T : TC} {dxs : List PyData} {dvs : List V} {ds : List Value} {x m : Str}
def tMethE (C : Addr) (m : Str) (sp : Sp) (dvs : List V) (W : WX) (ta : TE) (t : TA) : TE := fun σ H Q => ta σ H fun x H1 => ∃ a dx fs, x = .ref a ∧ H1 a = some (.ins C dx fs) ∧ fs.lookup m = none ∧ t σ H1 fun vs H2 => sp (x :: (vs ++ dvs)) H2 Q (WE W σ)
theorem pe_methE {sp : Sp} {ta : TE} {t : TA} {g : Addr} {pl : Sem Bool} (tk : Takes X W) (he : PE X o ta) (c : L2.Cls X.K C) (hm : Meth X.K C m g) (F : FnG X.prog X.w X.K X.mg X.base (L2.CX X.prog X.w) k g fd ps sp) (hgd : X.A.guards = some []) (hr : Room k X.A) (hb : Binds X.K fd ps ds) (hd : Vals dvs ds) (ha : PA X (e :: es) t)
    (hst : starEach (e :: es) X.env = (false, eval e X.env) :: starEach es X.env := by rfl) (hpl : (backTo pos (starEach es X.env)).any (·.1) = false := by rfl)
    (ht : eval (.Call (.Attribute o m apos) (e :: es) [] pos) X.env = (do
      let ov ← eval o X.env
      standAt apos.atName
      let (f, first) ← holding [ov] (getMethod ov m pl)
      callWith pos f first (backTo pos (starEach (e :: es) X.env)) (backToKw pos (keywordEach [] X.env))) := by rfl) :
    PE X (.Call (.Attribute o m apos) (e :: es) [] pos) (tMethE C m sp dvs W ta t) := by
  refine ⟨fun pins s σ H Q I h => ?_⟩
  refine PySem.W.methodCall_KW (pl := pl) (thn (he.run pins s σ H _ I h) fun u s1 hz => ?_) ht
  obtain ⟨y, H1, I1, rx, a, dx, fs, ex, ea, l, q⟩ := hz
  subst ex
  obtain rfl : u = Value.ref a := rx
  refine getmeth_ok I1 ea c hm l ?_
  refine PySem.W.callWith_K (first := [.ref a]) (h₀ := X.base) I.ok.mod.kin hm.kp (thn (ha.run pos pins s1 σ H1 _ I1 q) fun us s2 hz => ?_) hst hpl
  obtain ⟨vs, H2, I2, r, q2⟩ := hz
  exact ⟨I2.kIn, run_W (us := .ref a :: us) (vs := .ref a :: vs) F hgd hr hb hd (passAt tk σ) I2 (.cons rfl r) q2⟩
theorem pe_methE0 {sp : Sp} {ta : TE} {g : Addr} {pl : Sem Bool} (tk : Takes X W) (he : PE X o ta) (c : L2.Cls X.K C) (hm : Meth X.K C m g) (F : FnG X.prog X.w X.K X.mg X.base (L2.CX X.prog X.w) k g fd ps sp) (hgd : X.A.guards = some []) (hr : Room k X.A) (hb : Binds X.K fd ps ds) (hd : Vals dvs ds)
    (ht : eval (.Call (.Attribute o m apos) [] [] pos) X.env = (do
      let ov ← eval o X.env
      standAt apos.atName
      let (f, first) ← holding [ov] (getMethod ov m pl)
      callWith pos f first (backTo pos (starEach [] X.env)) (backToKw pos (keywordEach [] X.env))) := by rfl) :
    PE X (.Call (.Attribute o m apos) [] [] pos) (tMethE C m sp dvs W ta tNil) := by
  refine ⟨fun pins s σ H Q I h => ?_⟩
  refine PySem.W.methodCall_KW (pl := pl) (thn (he.run pins s σ H _ I h) fun u s1 hz => ?_) ht
  obtain ⟨y, H1, I1, rx, a, dx, fs, ex, ea, l, q⟩ := hz
  subst ex
  obtain rfl : u = Value.ref a := rx
  refine getmeth_ok I1 ea c hm l ?_
  exact PySem.W.callWith_K0 (first := [.ref a]) I1.kIn hm.kp (run_W (us := [.ref a]) (vs := [.ref a]) F hgd hr hb hd (passAt tk σ) I1 (.cons rfl .nil) q)
def wMeth (C : Addr) (m : Str) (T : TC) (M : Nat) (dxs : List PyData) (To : TW Wv) (R : TW (List Wv)) : TW Wv := fun XD ρ w Q => To XD ρ w fun x ρ1 w1 => ∃ a fs, x = .o a ∧ w1 a = some (.ins C fs) ∧ fs.lookup m = none ∧
  R XD ρ1 w1 fun xs ρ2 w2 => xs.length + dxs.length + 1 = M ∧ T (.o a :: (xs ++ dxs.map Wv.d)) w2 (fun x w3 => Q x ρ2 w3) fun e w3 => XD e ρ2 w3
theorem wMeth_mono (mo : MonoT To) (mr : MonoT R) (mt : MonoC T) : MonoT (wMeth C m T M dxs To R) := fun _ _ _ _ _ k h => mo _ _ _ _ _ (fun x ρ1 w1 ⟨a, fs, e0, ea, l, t⟩ => ⟨a, fs, e0, ea, l, mr _ _ _ _ _ (fun xs ρ2 w2 ⟨hl, t⟩ => ⟨hl, mt _ _ _ _ _ _ (fun _ _ q => k _ _ _ q) (fun _ _ q => q) t⟩) t⟩) h
theorem meth_in {t : TA} (mo : MonoT To) (mr : MonoT R) (mt : MonoC T) (hv : DflOk X.K dvs dxs) (ht : ∀ σ H Q, tWA X.K X.mg S W R σ H Q → t σ H Q) {σ : L2.St} {H : Hp} {Q : VK} (h : tWE X.K X.mg S W (wMeth C m T M dxs To R) σ H Q) : tMethE C m (spW X.K X.mg M T) dvs W (tWE X.K X.mg S W To) t σ H Q := by
  obtain ⟨B, O, ρ, w, XD, r, EX, t1⟩ := h
  refine ⟨B, O, ρ, w, XD, r, EX, mo _ _ _ _ _ (fun x ρ1 w1 z v O1 H1 r1 dx => ?_) t1⟩
  obtain ⟨a, fs, e0, ea, l, t2⟩ := z
  subst e0
  obtain rfl : v = .ref a := dx
  obtain ⟨ob, h1, dx', vs, e1, hf⟩ := r1.ob a _ ea
  subst e1
  refine ⟨a, dx', vs, rfl, h1, hf.no l, ht _ _ _ ⟨Fz O1 H1, O1, ρ1, w1, XD, r1.here, EX.base r1.fz, mr _ _ _ _ _ (fun xs ρ2 w2 ⟨hl, t3⟩ us O2 H2 r2 du => ?_) t2⟩⟩
  refine spW_in (ρ := ρ2) (Q' := fun x ρ2 w2 => ∀ v O' H', RepW X.K S B O' H' σ ρ2 w2 → WvOk X.K (Fz O' H') v x → Q v H') mt (r2.base r1.fz) EX (.cons (x := .o a) (show WvOk _ _ _ (.o a) from rfl) (du.append (WvsOk.of (hv _)))) (by rw [List.length_cons, List.length_append, List.length_map]; exact hl) (fun x w' v O' H' h r' dv => h v O' H' r' dv) t3
theorem pw_meth {pl : Sem Bool} (tk : Takes X W) (Mt : MethC X m M dxs C T) (hgd : X.A.guards = some []) (ho : PWo X S W o To) (ha : PWA X S W (e :: es) R)
    (hst : starEach (e :: es) X.env = (false, eval e X.env) :: starEach es X.env := by rfl) (hpl : (backTo pos (starEach es X.env)).any (·.1) = false := by rfl)
    (ht : eval (.Call (.Attribute o m apos) (e :: es) [] pos) X.env = (do
      let ov ← eval o X.env
      standAt apos.atName
      let (f, first) ← holding [ov] (getMethod ov m pl)
      callWith pos f first (backTo pos (starEach (e :: es) X.env)) (backToKw pos (keywordEach [] X.env))) := by rfl) : PWo X S W (.Call (.Attribute o m apos) (e :: es) [] pos) (wMeth C m T M dxs To R) := by
  obtain ⟨k, g, fd, ps, dvs, ds, c, hm, F, hr, hb, hd, hv, mt⟩ := Mt.ex
  exact ⟨(pe_methE tk ho.pe c hm F hgd hr hb hd ha.pa hst hpl ht).imp fun σ H Q h => meth_in ho.mono ha.mono mt hv (fun _ _ _ h => h) h, wMeth_mono ho.mono ha.mono mt⟩
theorem pw_meth0 {pl : Sem Bool} (tk : Takes X W) (Mt : MethC X m M dxs C T) (hgd : X.A.guards = some []) (ho : PWo X S W o To)
    (ht : eval (.Call (.Attribute o m apos) [] [] pos) X.env = (do
      let ov ← eval o X.env
      standAt apos.atName
      let (f, first) ← holding [ov] (getMethod ov m pl)
      callWith pos f first (backTo pos (starEach [] X.env)) (backToKw pos (keywordEach [] X.env))) := by rfl) : PWo X S W (.Call (.Attribute o m apos) [] [] pos) (wMeth C m T M dxs To wNil) := by
  obtain ⟨k, g, fd, ps, dvs, ds, c, hm, F, hr, hb, hd, hv, mt⟩ := Mt.ex
  have mn : MonoT wNil := fun _ _ _ _ _ k h => k _ _ _ h
  exact ⟨(pe_methE0 tk ho.pe c hm F hgd hr hb hd ht).imp fun σ H Q h => meth_in ho.mono mn mt hv (fun σ H Q ⟨B, O, ρ, w, XD, r, EX, t⟩ => t [] O H r .nil) h, wMeth_mono ho.mono mn mt⟩
/-! C(..) -/
theorem run_makeW {pins : List (Addr × Obj)} {σ : L2.St} {H : Hp} {s : Shared} {Q : VK} {us : List Value} {vs : List V} {sp : Sp} {E : XK} (Mk' : Mk X.K C f) (F : FnG X.prog X.w X.K X.mg X.base (L2.CX X.prog X.w) k f fd ps sp) (hgd : X.A.guards = some []) (hr : Room (k + 1) X.A) (hb : Binds X.K fd ps []) (hx : PassesAt (L2.CX X.prog X.w) X σ E) (I : Inv X pins σ H s) (r : Vals vs us)
    (h : ∀ x dx, H x = none → H dx = none → dx ≠ x → sp (.ref x :: vs) (upd (upd H dx (.own x)) x (.ins C dx [])) (fun v H2 => v = .non ∧ Q (.ref x) H2) E) : wpAny (model X.prog X.w) X.A (call (.ref C) us) (EP X pins σ Q) X.xe s := by
  have hq := h (s.heap.objs.size + 1) s.heap.objs.size (I.hok.fresh (Nat.le_succ _)) (I.hok.fresh (Nat.le_refl _)) (Nat.ne_of_lt (Nat.lt_succ_self _))
  have I2 := Inv.made (C := C) I
  have r2 : Vals (V.ref (s.heap.objs.size + 1) :: vs) (Value.ref (s.heap.objs.size + 1) :: us) := .cons rfl r
  have hl : (Value.ref (s.heap.objs.size + 1) :: us).length = ps.length := by
    have e := r2.length
    rw [F.len _ _ _ _ hq] at e
    exact e.symm
  have b := hb _ (Value.ref (s.heap.objs.size + 1) :: us) I2.kIn (by rw [List.append_nil]; exact hl)
  rw [List.append_nil] at b
  refine wpAny_call (make_map (f := f) I.kIn Mk'.makes Mk'.init (beq_iff_eq.mp Mk'.fn) (codeAny_mono (F.go (X.A.under (.builtin "type.__call__" ⟨.ref C :: us, []⟩)) X.stack _ _ ⟨Value.ref (s.heap.objs.size + 1) :: us, []⟩ _ _ _ E (by first | exact hgd | (simpa [Around.under, Code.isGuard] using hgd)) (hr.make C us []) (I2.env0.make C us []) b r2 hq) fun r s' hq' => ?_))
  match r, hq' with
  | .error e, hq' => exact hx pins _ _ e s' I2 hq'
  | .ok (.ret u), hq' =>
    obtain ⟨v, H', I3, rv, ev, q3⟩ := I2.after hq'
    subst ev
    exact ⟨rv, ⟨V.ref (s.heap.objs.size + 1), H', I3, rfl, q3⟩⟩
  | .ok .next, hq' => exact hq'.elim
  | .ok .brk, hq' => exact hq'.elim
  | .ok .cont, hq' => exact hq'.elim
def tMakeE (C : Addr) (sp : Sp) (W : WX) (t : TA) : TE := fun σ H Q => t σ H fun vs H1 => ∀ x dx, H1 x = none → H1 dx = none → dx ≠ x → sp (.ref x :: vs) (upd (upd H1 dx (.own x)) x (.ins C dx [])) (fun v H2 => v = .non ∧ Q (.ref x) H2) (WE W σ)
theorem pe_makeE {sp : Sp} {t : TA} (tk : Takes X W) (Mk' : Mk X.K C f) (F : FnG X.prog X.w X.K X.mg X.base (L2.CX X.prog X.w) k f fd ps sp) (hgd : X.A.guards = some []) (hr : Room (k + 1) X.A) (hg : Gl X x) (hm : X.mg x = some (.ref C)) (hb : Binds X.K fd ps [])
    (ha : PA X (e :: es) t) (hdb : (x == ("__debug__" : Str)) = false := by decide) (he : starEach (e :: es) X.env = (false, eval e X.env) :: starEach es X.env := by rfl) (hpl : (backTo pos (starEach es X.env)).any (·.1) = false := by rfl) :
    PE X (.Call (.Name x p) (e :: es) [] pos) (tMakeE C sp W t) := by
  refine ⟨fun pins s σ H Q I h => wpAny_Call_Name_kw (ld_glob I hg hm ?_ hdb)⟩
  refine PySem.W.callWith_K (h₀ := X.base) I.ok.mod.kin Mk'.kp (thn (ha.run pos pins s σ H _ I h) fun us s1 hz => ?_) he hpl
  obtain ⟨vs, H1, I1, r, q⟩ := hz
  exact ⟨I1.kIn, run_makeW Mk' F hgd hr hb (passAt tk σ) I1 r q⟩
def wMake (C : Addr) (T : TC) (M : Nat) (R : TW (List Wv)) : TW Wv := fun XD ρ w Q => R XD ρ w fun xs ρ1 w1 => xs.length + 1 = M ∧ ∀ p, w1 p = none → T (.o p :: xs) (w1.put p (.ins C [])) (fun x w2 => x = .d .none ∧ Q (.o p) ρ1 w2) fun e w2 => XD e ρ1 w2
theorem pw_make (tk : Takes X W) (mt : MonoC T) (Mk' : Mk X.K C f) (F : FnG X.prog X.w X.K X.mg X.base (L2.CX X.prog X.w) k f fd ps (spW X.K X.mg M T)) (hgd : X.A.guards = some []) (hr : Room (k + 1) X.A) (hg : Gl X x) (hm : X.mg x = some (.ref C)) (hb : Binds X.K fd ps [])
    (ha : PWA X S W (e :: es) R) (hdb : (x == ("__debug__" : Str)) = false := by decide) (he : starEach (e :: es) X.env = (false, eval e X.env) :: starEach es X.env := by rfl) (hpl : (backTo pos (starEach es X.env)).any (·.1) = false := by rfl) :
    PWo X S W (.Call (.Name x p) (e :: es) [] pos) (wMake C T M R) :=
  ⟨(pe_makeE tk Mk' F hgd hr hg hm hb ha.pa hdb he hpl).imp fun σ H Q ⟨B, O, ρ, w, XD, r, EX, t⟩ => ⟨B, O, ρ, w, XD, r, EX, ha.mono _ _ _ _ _ (fun xs ρ1 w1 ⟨hl, t⟩ vs O1 H1 r1 dx p dp np nd ne => by
    have wp : w1 p = none := Classical.byContradiction fun c => by
      have := r1.hid c
      exact absurd np (r1.al p this)
    have kp : ∀ b y, H1 b = some y → b ≠ p → upd (upd H1 dp (.own p)) p (.ins C dp []) b = some y := fun b y z nb => by
      rw [upd_ne nb, upd_ne (fun c => by rw [c, nd] at z; cases z)]
      exact z
    have r2 := r1.putO (H' := upd (upd H1 dp (.own p)) p (.ins C dp [])) (x := .ins C []) (.inr np) kp upd_same fun _ => ⟨dp, [], rfl, .nil⟩
    have f : Same (Fz O1 H1) (Fz (hidW O1 (w1.put p (.ins C []))) (upd (upd H1 dp (.own p)) p (.ins C dp []))) := (r1.here.putO (H' := upd (upd H1 dp (.own p)) p (.ins C dp [])) (x := .ins C []) (.inr np) kp upd_same fun _ => ⟨dp, [], rfl, .nil⟩).fz
    exact spW_in (ρ := ρ1) (Q' := fun x ρ2 w2 => x = .d .none ∧ ∀ v O' H', RepW X.K S B O' H' σ ρ2 w2 → WvOk X.K (Fz O' H') v (.o p) → Q v H') mt r2 EX (.cons (x := .o p) (show WvOk _ _ _ (.o p) from rfl) (dx.same f)) hl (fun x w' v O' H' h r' dv => by
      obtain ⟨e1, h⟩ := h
      subst e1
      cases (show Dx X.K _ v .none from dv)
      exact ⟨rfl, h _ O' H' r' rfl⟩) (t p wp)) t⟩, fun _ _ _ _ _ k h => ha.mono _ _ _ _ _ (fun xs ρ1 w1 ⟨hl, t⟩ => ⟨hl, fun p wp => mt _ _ _ _ _ _ (fun x w' q => ⟨q.1, k _ _ _ q.2⟩) (fun _ _ q => q) (t p wp)⟩) h⟩
end
end DS
set_option maxHeartbeats 4000000
namespace DS
open PySem PySem.Spec PyProof.Rows L2
/-! ### what calls a method by itself: properties, len, str -/
section
variable {X : Cx} {S : Wf} {W : WX} {e o : Expr} {pos p : Pos} {To : TW Wv} {k : Nat} {g C : Addr} {fd : FuncData} {ps : List Str} {T : TC} {x m y : Str} {sp : Sp}
/-- a def run at an around that lies deeper -/
theorem run_at {pins : List (Addr × Obj)} {σ : L2.St} {H : Hp} {s : Shared} {Q : VK} {R : Value → Shared → Prop} {E' : Value → Shared → Prop} {A' : Around} {us : List Value} {vs : List V} (F : FnG X.prog X.w X.K X.mg X.base (L2.CX X.prog X.w) k g fd ps sp) (hgd : A'.guards = some []) (hr : Room k A') (e0 : Env0 X.prog X.w X.K X.mg X.base A' X.stack s H)
    (hb : Binds X.K fd ps []) (I : Inv X pins σ H s) (r : Vals vs us) (h : sp vs H Q (fun _ _ _ => False)) (q : ∀ u s', EP X pins σ Q u s' → R u s') : wpAny (model X.prog X.w) A' (call (.ref g) us) R E' s := by
  have hl : us.length = ps.length := by rw [← r.length]; exact F.len _ _ _ _ h
  have b := hb s us I.kIn (by rw [List.append_nil]; exact hl)
  rw [List.append_nil] at b
  refine wpAny_call (codeAny_mono (F.go A' X.stack s H ⟨us, []⟩ us vs Q (fun _ _ _ => False) hgd hr e0 b r h) fun r s' hq => ?_)
  match r, hq with
  | .error e, hq => exact (passAt (takes_no (X := X.nox)) σ pins H s e s' (I.wish _) hq).elim
  | .ok (.ret u), hq => exact q u s' (I.after hq)
  | .ok .next, hq => exact hq.elim
  | .ok .brk, hq => exact hq.elim
  | .ok .cont, hq => exact hq.elim
def rLenO (C : Addr) (sp : Sp) : List V → Hp → VK → Prop := fun xs H Q => ∃ a dx fs, xs = [.ref a] ∧ H a = some (.ins C dx fs) ∧ sp [.ref a] H (fun v H' => ∃ n : Int, v = .int n ∧ 0 ≤ n ∧ n < 2 ^ 63 ∧ Q v H') fun _ _ _ => False
theorem call_lenO (hm : Meth X.K C "__len__" g) (F : FnG X.prog X.w X.K X.mg X.base (L2.CX X.prog X.w) k g fd ps sp) (hgd : X.A.guards = some []) (hr : Room (k + 1) X.A) (hb : Binds X.K fd ps []) : CallR X (.builtin "len") (rLenO C sp) := by
  intro pins s σ H xs us Q I r h
  obtain ⟨a, dx, fs, rfl, ea, q⟩ := h
  obtain ⟨u, rfl, ru⟩ := vals1 r
  obtain rfl : u = Value.ref a := ru
  obtain ⟨mA, O, _, _, _, _⟩ := ins_get I.hok ea
  obtain ⟨od, J, _⟩ := O.look
  obtain ⟨ml, fr⟩ := I.fr
  refine PySem.W.len_K fr I.mod.kin J hm.at_ hm.fn ?_
  refine run_at (vs := [V.ref a]) (us := [Value.ref a]) F (A' := X.A.in1) hgd hr.in1 I.env0.in1 hb I (.cons rfl .nil) q fun u s' z => ?_
  obtain ⟨v, H', I', rv, n, e1, h0, h1, z⟩ := z
  subst e1
  obtain ⟨t, rfl⟩ := (show ∃ t, u = Value.int n t from rv)
  exact ⟨⟨h0, h1⟩, .int n, H', I'.tok _, ⟨_, rfl⟩, z⟩
def rStrO (C : Addr) (sp : Sp) : List V → Hp → VK → Prop := fun xs H Q => ∃ a dx fs, xs = [.ref a] ∧ H a = some (.ins C dx fs) ∧ sp [.ref a] H (fun v H' => ∃ y : Str, v = .str y ∧ Q v H') fun _ _ _ => False
theorem call_strO (hm : Meth X.K C "__str__" g) (F : FnG X.prog X.w X.K X.mg X.base (L2.CX X.prog X.w) k g fd ps sp) (hgd : X.A.guards = some []) (hr : Room (k + 1) X.A) (hb : Binds X.K fd ps []) : CallR X (.type "str") (rStrO C sp) := by
  intro pins s σ H xs us Q I r h
  obtain ⟨a, dx, fs, rfl, ea, q⟩ := h
  obtain ⟨u, rfl, ru⟩ := vals1 r
  obtain rfl : u = Value.ref a := ru
  obtain ⟨mA, O, _, _, _, _⟩ := ins_get I.hok ea
  obtain ⟨od, J, _⟩ := O.look
  refine PySem.W.kso_call (by have := hr.un; show X.A.units + 1 + 1 < cLine; omega) I.kIn J hm.at_ hm.fn ?_
  have hr2 : Room k X.A.in1.in1 := ⟨hr.hd, by have := hr.dp; show X.A.depth + 3 * k + 5 < _; omega, by have := hr.un; show X.A.units + 1 + 1 + 16 * k + 200 < _; omega⟩
  refine run_at (vs := [V.ref a]) (us := [Value.ref a]) F (A' := X.A.in1.in1) hgd hr2 I.env0.in1.in1 hb I (.cons rfl .nil) q fun u s' z => ?_
  obtain ⟨v, H', I', rv, y, e1, z⟩ := z
  subst e1
  obtain ⟨t, rfl⟩ := (show ∃ t, u = Value.str y t from rv)
  exact ⟨.str y, H', I', ⟨_, rfl⟩, z⟩
/-- e.y, a property -/
def tPropE (C : Addr) (sp : Sp) (ta : TE) : TE := fun σ H Q => ta σ H fun x H1 => ∃ a dx fs, x = .ref a ∧ H1 a = some (.ins C dx fs) ∧ sp [.ref a] H1 Q fun _ _ _ => False
theorem pe_propE {pa : Addr} {ta : TE} (he : PE X o ta) (c : L2.Cls X.K C) (hp : PropOf X.K C y pa g) (F : FnG X.prog X.w X.K X.mg X.base (L2.CX X.prog X.w) k g fd ps sp) (hgd : X.A.guards = some []) (hr : Room (k + 1) X.A) (hb : Binds X.K fd ps []) (hab : attributeBase o y X.env (eval o X.env) = eval o X.env := by rfl) : PE X (.Attribute o y pos) (tPropE C sp ta) := by
  refine ⟨fun pins s σ H Q I h => attr_of hab (thn (he.run pins s σ H _ I h) fun u s1 hz => ?_)⟩
  obtain ⟨x, H1, I1, rx, a, dx, fs, ex, ea, q⟩ := hz
  subst ex
  obtain rfl : u = Value.ref a := rx
  obtain ⟨mA, O, _, _, _, _⟩ := ins_get I1.hok ea
  obtain ⟨od, J, _⟩ := O.look
  obtain ⟨rest, hrec⟩ := hp.rec_
  have I2 := I1.tok (s1.toks + 1)
  have hc : (PySem.W.clsIn X.K C).isSome = true := by
    obtain ⟨cd, hc, _⟩ := PySem.W.any_some c.hd
    rw [hc]
    rfl
  refine PySem.W.get_bind I1.kIn J (PySem.W.plainGet_of (c.get y)).1 (PySem.W.findObj_data hc hp.at_ hp.get hp.tak) (PySem.W.plainGet_of (c.get y)).2 (wpAny_call (PySem.W.prop_get (s := { s1 with toks := s1.toks + 1 }) I1.kIn hrec ?_))
  have hl : [Value.ref a].length = ps.length := by rw [← F.len _ _ _ _ q]; rfl
  have b := hb { s1 with toks := s1.toks + 1 } [Value.ref a] I2.kIn (by rw [List.append_nil]; exact hl)
  rw [List.append_nil] at b
  refine codeAny_mono (F.go X.A.in1 X.stack { s1 with toks := s1.toks + 1 } H1 ⟨[.ref a], []⟩ [.ref a] [.ref a] Q (fun _ _ _ => False) hgd hr.in1 I2.env0.in1 b (.cons rfl .nil) q) fun r s' hq => ?_
  match r, hq with
  | .error e, hq => exact (passAt (takes_no (X := X.nox)) σ pins H1 _ e s' (I2.wish _) hq).elim
  | .ok (.ret u), hq =>
    obtain ⟨v, H', I3, rv, q3⟩ := I2.after hq
    show wpAny _ _ (handedOut u) _ _ _
    rw [PySem.W.handedOut_of (handed_of rv)]
    exact wpAny_pure ⟨v, H', I3, rv, q3⟩
  | .ok .next, hq => exact hq.elim
  | .ok .brk, hq => exact hq.elim
  | .ok .cont, hq => exact hq.elim
/-! over a world -/
def wSelf (C : Addr) (T : TC) (To : TW Wv) (G : Wv → Prop) : TW Wv := fun XD ρ w Q => To XD ρ w fun x ρ1 w1 => ∃ a fs, x = .o a ∧ w1 a = some (.ins C fs) ∧ T [.o a] w1 (fun x w2 => G x ∧ Q x ρ1 w2) fun _ _ => False
theorem wSelf_mono {G : Wv → Prop} (mo : MonoT To) (mt : MonoC T) : MonoT (wSelf C T To G) := fun _ _ _ _ _ k h => mo _ _ _ _ _ (fun x ρ1 w1 ⟨a, fs, e0, ea, t⟩ => ⟨a, fs, e0, ea, mt _ _ _ _ _ _ (fun _ _ q => ⟨q.1, k _ _ _ q.2⟩) (fun _ _ q => q) t⟩) h
theorem self_in {G : Wv → Prop} {B H : Hp} {O : Hid} {σ : L2.St} {ρ : Dn} {w : Wd} {XD : XW} {a : Addr} {Q : VK} (mt : MonoC T) (r : RepW X.K S B O H σ ρ w) (EX : EndW X.K X.mg S B XD W)
    (t : T [.o a] w (fun x w2 => G x ∧ ∀ v O' H', RepW X.K S B O' H' σ ρ w2 → WvOk X.K (Fz O' H') v x → Q v H') fun _ _ => False) : spW X.K X.mg 1 T [.ref a] H (fun v H' => ∃ x Hf, G x ∧ WvOk X.K Hf v x ∧ Q v H') fun _ _ _ => False :=
  ⟨O, [.o a], w, r.al, .cons (x := .o a) (show WvOk _ _ _ (.o a) from rfl) .nil, rfl, fun a z => r.hid z, r.ob, mt _ _ _ _ _ _ (fun x w' h v H' af dv => ⟨x, _, h.1, dv, h.2 v _ H' (r.after af) dv⟩) (fun er w' h => h.elim) t⟩
def isLenW (x : Wv) : Prop := ∃ n : Int, x = .d (.int n) ∧ 0 ≤ n ∧ n < 2 ^ 63
def isStrW (x : Wv) : Prop := ∃ y : Str, x = .d (.str y)
theorem spW_q {m : Nat} {K : PySem.W.Frag} {mg : Str → Option Value} {vs : List V} {H : Hp} {Q Q' : VK} {E : XK} (mt : MonoC T) (h : spW K mg m T vs H Q E) (q : ∀ v H', Q v H' → Q' v H') : spW K mg m T vs H Q' E := by
  obtain ⟨O, xs, w, al, dx, hl, hid, ob, t⟩ := h
  exact ⟨O, xs, w, al, dx, hl, hid, ob, mt _ _ _ _ _ _ (fun x w' h v H' af dv => q v H' (h v H' af dv)) (fun _ _ h => h) t⟩
theorem pw_lenO (mt : MonoC T) (hm : Meth X.K C "__len__" g) (F : FnG X.prog X.w X.K X.mg X.base (L2.CX X.prog X.w) k g fd ps (spW X.K X.mg 1 T)) (hgd : X.A.guards = some []) (hr : Room (k + 1) X.A) (hb : Binds X.K fd ps []) (hg : Gl X "len") (hmg : X.mg "len" = none) (he : PWo X S W e To)
    (hs : starEach [e] X.env = (false, eval e X.env) :: starEach [] X.env := by rfl) (hpl : (backTo pos (starEach [] X.env)).any (·.1) = false := by rfl) : PWo X S W (.Call (.Name "len" p) [e] [] pos) (wSelf C T To isLenW) :=
  ⟨(pe_callB (call_lenO hm F hgd hr hb) hg hmg PySem.boot_len (pa_cons he.pe pa_nil hs) (by decide) (by decide) hs hpl).imp fun σ H Q ⟨B, O, ρ, w, XD, r, EX, t⟩ => ⟨B, O, ρ, w, XD, r, EX, he.mono _ _ _ _ _ (fun x ρ1 w1 ⟨a, fs, e0, ea, t⟩ v O1 H1 r1 dx => by
    subst e0
    obtain rfl : v = .ref a := dx
    obtain ⟨ob, h1, dx', vs, e1, hf⟩ := r1.ob a _ ea
    subst e1
    refine ⟨a, dx', vs, rfl, h1, spW_q mt (self_in mt r1 EX t) fun v H' ⟨x, Hf, ⟨n, e1, h0, h2⟩, dv, q⟩ => ?_⟩
    subst e1
    cases (show Dx X.K Hf v (.int n) from dv)
    exact ⟨n, rfl, h0, h2, q⟩) t⟩, wSelf_mono he.mono mt⟩
theorem pw_strO (mt : MonoC T) (hm : Meth X.K C "__str__" g) (F : FnG X.prog X.w X.K X.mg X.base (L2.CX X.prog X.w) k g fd ps (spW X.K X.mg 1 T)) (hgd : X.A.guards = some []) (hr : Room (k + 1) X.A) (hb : Binds X.K fd ps []) (hg : Gl X "str") (hmg : X.mg "str" = none) (he : PWo X S W e To)
    (hs : starEach [e] X.env = (false, eval e X.env) :: starEach [] X.env := by rfl) (hpl : (backTo pos (starEach [] X.env)).any (·.1) = false := by rfl) : PWo X S W (.Call (.Name "str" p) [e] [] pos) (wSelf C T To isStrW) :=
  ⟨(pe_callTy (call_strO hm F hgd hr hb) hg hmg (by decide +kernel) (pa_cons he.pe pa_nil hs) (by decide) (by decide) hs hpl).imp fun σ H Q ⟨B, O, ρ, w, XD, r, EX, t⟩ => ⟨B, O, ρ, w, XD, r, EX, he.mono _ _ _ _ _ (fun x ρ1 w1 ⟨a, fs, e0, ea, t⟩ v O1 H1 r1 dx => by
    subst e0
    obtain rfl : v = .ref a := dx
    obtain ⟨ob, h1, dx', vs, e1, hf⟩ := r1.ob a _ ea
    subst e1
    refine ⟨a, dx', vs, rfl, h1, spW_q mt (self_in mt r1 EX t) fun v H' ⟨x, Hf, ⟨n, e1⟩, dv, q⟩ => ?_⟩
    subst e1
    cases (show Dx X.K Hf v (.str n) from dv)
    exact ⟨n, rfl, q⟩) t⟩, wSelf_mono he.mono mt⟩
theorem pw_prop {pa : Addr} (mt : MonoC T) (c : L2.Cls X.K C) (hp : PropOf X.K C y pa g) (F : FnG X.prog X.w X.K X.mg X.base (L2.CX X.prog X.w) k g fd ps (spW X.K X.mg 1 T)) (hgd : X.A.guards = some []) (hr : Room (k + 1) X.A) (hb : Binds X.K fd ps []) (he : PWo X S W o To) (hab : attributeBase o y X.env (eval o X.env) = eval o X.env := by rfl) : PWo X S W (.Attribute o y pos) (wSelf C T To fun _ => True) :=
  ⟨(pe_propE he.pe c hp F hgd hr hb hab).imp fun σ H Q ⟨B, O, ρ, w, XD, r, EX, t⟩ => ⟨B, O, ρ, w, XD, r, EX, he.mono _ _ _ _ _ (fun x ρ1 w1 ⟨a, fs, e0, ea, t⟩ v O1 H1 r1 dx => by
    subst e0
    obtain rfl : v = .ref a := dx
    obtain ⟨ob, h1, dx', vs, e1, hf⟩ := r1.ob a _ ea
    subst e1
    exact ⟨a, dx', vs, rfl, h1, spW_q mt (self_in mt r1 EX t) fun v H' ⟨x, Hf, _, dv, q⟩ => q⟩) t⟩, wSelf_mono he.mono mt⟩
end
end DS
set_option maxHeartbeats 4000000
namespace DS
open PySem PySem.Spec PyProof.Rows L2
/-! ### defs by contracts, the law's def, texts of parts -/
section
variable {P : Program} {w : World} {K : PySem.W.Frag} {mg : Str → Option Value} {base : Heap}
theorem fn_Wc {x qual : Str} {st : Stmt} {N ps : List Str} {fa : Addr} {fd : FuncData} {k m : Nat} {C : TC} (F : Fun K x qual st fa fd) (Sc : FnScope N ps (defScope st)) (hn : ps.length = m)
    (hb : ∀ (cdv : Value) (A : Around) (outer : List Env) (s : Shared) (H : Hp) (E : XK) (S : Wf) (W : WX), S.Ok → (A.deeper (envOfC qual (defScope st) s.heap.objs.size fa cdv)).guards = some [] → Room k (A.deeper (envOfC qual (defScope st) s.heap.objs.size fa cdv)) → Takes (cxOf (L2.CX P w) P w K mg base N qual (defScope st) fa cdv A outer s H E) W →
      ∃ T, PWSs (cxOf (L2.CX P w) P w K mg base N qual (defScope st) fa cdv A outer s H E) S W (defBody st) T ∧ ∀ xs w Q E, xs.length = m → C xs w Q E → conW N.length T xs w Q E) : FnG P w K mg base (L2.CX P w) (k + 1) fa fd ps (spW K mg m C) := by
  refine FnG.body F Sc (fun vs H Q E h => by rw [spW_len h, hn]) (fun cdv A outer s H vs Q E hg hr h => ?_)
  obtain ⟨O, xs, wd, al, dx, hl, hid, ob, t⟩ := h
  have tk : Takes (cxOf (L2.CX P w) P w K mg base N qual (defScope st) fa cdv A outer s H E) (fun cls d _ H => E cls d H) := takes_of rfl rfl rfl rfl
  obtain ⟨T, ht, im⟩ := hb cdv A outer s H E ⟨H, O, fun a => wd a ≠ none⟩ _ al hg hr tk
  refine ⟨_, ht.pss, Fz O H, O, _, wd, _, _, repW_start al dx hid ob, ⟨fun O' σ' H' ρ' w' r q => ?_, fun _ _ _ _ _ _ q => q, fun _ _ _ _ _ _ q => q, fun v x O' H' w' r dx q => ?_⟩, fun e O' cls d σ' H' ρ' w' q r ea => ?_, im _ _ _ _ hl t⟩
  · exact q .non H' r.bare.end.1 (show Dx K _ _ _ from .non)
  · exact q v H' r.end.1 (dx.same r.end.2)
  · exact q cls d H' r.bare.end.1 (ea.shift r.bare.end.2)
theorem fn_lawW {qual : Str} {st : Stmt} {N : List Str} {xs : Str} {fa : Addr} {fd : FuncData} {k : Nat} (F : Fun K "law" qual st fa fd) (Sc : FnScope N [xs] (defScope st))
    (hb : ∀ (cdv : Value) (A : Around) (outer : List Env) (s : Shared) (H : Hp) (E : XK) (S : Wf), S.Ok → (A.deeper (envOfC qual (defScope st) s.heap.objs.size fa cdv)).guards = some [] → Room k (A.deeper (envOfC qual (defScope st) s.heap.objs.size fa cdv)) →
      ∃ T, PWSs (cxOf CX0 P w K mg base N qual (defScope st) fa cdv A outer s H E).nox S (fun _ _ _ _ => False) (defBody st) T ∧
      ∀ ns : List Int, ns.length ≤ 63 → T ⟨fun _ _ => False, fun x _ => x = .d (.bool true), fun _ _ => False, fun _ _ => False⟩ (fun _ _ _ => False) (startW N.length [.d (.list (ns.map .int))]) (fun _ => none)) : FnG P w K mg base CX0 (k + 1) fa fd [xs] (spLaw K) := by
  refine FnG.ok F Sc (fun vs H Q E h => ?_) (fun cdv A outer s H vs Q E hg hr h => ?_)
  · obtain ⟨a, ns, rfl, _⟩ := h
    rfl
  · obtain ⟨a, ns, rfl, ha, hn, q⟩ := h
    have al : Al (fun _ : Addr => False) H := fun _ z => z.elim
    have dx : WvsOk K (Fz (fun _ : Addr => False) H) [V.ref a] [Wv.d (.list (ns.map .int))] := by
      have e : Fz (fun _ : Addr => False) H = H := funext fun b => fz_out id
      rw [e]
      exact .cons (x := .d (.list (ns.map .int))) (Dx.lst ha (DxAll.ints ns)) .nil
    obtain ⟨T, ht, im⟩ := hb cdv A outer s H E ⟨H, fun _ => False, fun _ => False⟩ al hg hr
    have r := repW_start (N := N) (w := fun _ => none) al dx (fun a z => (z rfl).elim) (fun a x e => nomatch e)
    refine ⟨_, ht.pss, Fz (fun _ => False) H, fun _ => False, _, fun _ => none, _, _, ⟨⟨r.rs.al, r.rs.rep, fun b x e _ => e, fun _ z => z, fun b z => z.elim id (fun c => (c rfl).elim), r.rs.fz, fun i g og q e1 e2 e3 => ?_, r.rs.dk⟩, r.ob, fun a z => (z rfl).elim⟩, ⟨fun O' σ' H' ρ' w' r (q : False) => q.elim, fun _ _ _ _ _ _ (q : False) => q, fun _ _ _ _ _ _ (q : False) => q, fun v x O' H' w' r dx (q1 : x = .d (.bool true)) => ?_⟩, fun e O' cls d σ' H' ρ' w' q r ea => q, im ns hn⟩
    · exact ⟨(r.rs.ow i g og q e1 e2 e3).1, fun z => z.elim id fun c => c rfl, (r.rs.ow i g og q e1 e2 e3).2.2⟩
    · subst q1
      cases (show Dx K _ v (.bool true) from dx)
      exact q H'
end
/-! f'..' -/
section
variable {X : Cx} {S : Wf} {W : WX} {e : Expr} {es : List Expr} {Te : TW Wv} {pos : Pos}
def strW : PyData → Option Str
  | .str y => if y.length < lim then some y else none
  | .int i => if i.natAbs.log2 < 1920 then some (toString i) else none
  | _ => none
/-- the parts, one behind another -/
inductive PWJ (X : Cx) (S : Wf) (W : WX) : List Expr → (Str → TW Str) → Prop
  | nil : PWJ X S W [] (fun acc _ ρ w Q => Q acc ρ w)
  | str {y : Str} {p : Pos} {k : Nat} {es : List Expr} {R : Str → TW Str} (r : PWJ X S W es R) : PWJ X S W (.Constant (.str y) k p :: es) (fun acc XD ρ w Q => (acc ++ y).length < lim ∧ R (acc ++ y) XD ρ w Q)
  | cons {e : Expr} {p : Pos} {T : TW Wv} {es : List Expr} {R : Str → TW Str} (h : PWo X S W e T) (r : PWJ X S W es R) : PWJ X S W (.FormattedValue e (-1) none p :: es) (fun acc XD ρ w Q => T XD ρ w fun x ρ1 w1 => ∃ d y, x = .d d ∧ strW d = some y ∧ (acc ++ y).length < lim ∧ R (acc ++ y) XD ρ1 w1 Q)
theorem PWJ.mono {R : Str → TW Str} (h : PWJ X S W es R) : ∀ acc, MonoT (R acc) := by
  induction h with
  | nil => exact fun acc _ _ _ _ _ k q => k _ _ _ q
  | str r ih => exact fun acc _ _ _ _ _ k q => ⟨q.1, ih _ _ _ _ _ _ k q.2⟩
  | cons h r ih => exact fun acc _ _ _ _ _ k q => h.mono _ _ _ _ _ (fun x ρ1 w1 ⟨d, y, e1, e2, l, q⟩ => ⟨d, y, e1, e2, l, ih _ _ _ _ _ _ k q⟩) q
/-- .. as the library's -/
theorem PWJ.pj {R : Str → TW Str} (h : PWJ X S W es R) : ∃ ts, PJ X es ts ∧ ∀ (acc : Str) (σ : L2.St) (H : Hp) (Q : Str → Hp → Prop) (B : Hp) (O : Hid) (ρ : Dn) (w : Wd) (XD : XW), RepW X.K S B O H σ ρ w → EndW X.K X.mg S B XD W →
    R acc XD ρ w (fun out ρ' w' => ∀ O' H', RepW X.K S B O' H' σ ρ' w' → Q out H') → tJs ts acc σ H Q := by
  induction h with
  | nil => exact ⟨_, .nil, fun acc σ H Q B O ρ w XD r EX q => q O H r⟩
  | @str y p k es R r ih =>
    obtain ⟨ts, h1, h2⟩ := ih
    exact ⟨_, .cons pe_str h1, fun acc σ H Q B O ρ w XD r EX q => ⟨y, rfl, Nat.le_of_lt (lim_le q.1), h2 _ σ H Q B O ρ w XD r EX q.2⟩⟩
  | @cons e p T es R h r ih =>
    obtain ⟨ts, h1, h2⟩ := ih
    refine ⟨_, .cons (pe_fmt h.pe) h1, fun acc σ H Q B O ρ w XD rr EX q => ?_⟩
    refine ⟨B, O, ρ, w, XD, rr, EX, h.mono _ _ _ _ _ (fun x ρ1 w1 z v O1 H1 r1 dx => ?_) q⟩
    obtain ⟨d, y, e1, e2, l, z⟩ := z
    subst e1
    unfold strW at e2
    split at e2
    · rename_i y0
      split at e2
      case isFalse => cases e2
      rename_i hl
      cases e2
      cases (show Dx X.K _ v (.str _) from dx)
      exact .inl ⟨y, rfl, Nat.le_of_lt (lim_le hl), y, rfl, Nat.le_of_lt (lim_le l), h2 _ σ H1 Q B O1 ρ1 w1 XD r1 EX z⟩
    · rename_i i
      split at e2
      case isFalse => cases e2
      rename_i hl
      cases e2
      cases (show Dx X.K _ v (.int i) from dx)
      exact .inr ⟨i, rfl, hl, _, rfl, Nat.le_of_lt (lim_le l), h2 _ σ H1 Q B O1 ρ1 w1 XD r1 EX z⟩
    · cases e2
def wJoin (R : Str → TW Str) : TW Wv := fun XD ρ w Q => R Str.empty XD ρ w fun out ρ' w' => Q (.d (.str out)) ρ' w'
theorem pw_joined {e1 e2 : Expr} {R : Str → TW Str} (h : PWJ X S W (e1 :: e2 :: es) R) : PWo X S W (.JoinedStr (e1 :: e2 :: es) pos) (wJoin R) := by
  obtain ⟨ts, h1, h2⟩ := h.pj
  refine ⟨(pe_joined h1).imp fun σ H Q ⟨B, O, ρ, w, XD, r, EX, t⟩ => h2 _ σ H _ B O ρ w XD r EX (h.mono _ _ _ _ _ _ (fun out ρ' w' q O' H' r' => q _ O' H' r' (show Dx X.K _ _ _ from .str _)) t), fun _ _ _ _ _ k q => h.mono _ _ _ _ _ _ (fun _ _ _ z => k _ _ _ z) q⟩
end
/-! defaults by name -/
end DS
set_option maxHeartbeats 4000000
namespace DS
open PySem PySem.Spec PyProof.Rows L2
/-! ### defs with defaults; a new list as an object -/
section
variable {P : Program} {w : World} {K : PySem.W.Frag} {mg : Str → Option Value} {base : Heap} {CX : CXT} {k : Nat} {f : Addr} {fd : FuncData} {ps : List Str} {sp : Sp}
theorem FnG.bodyD {dvs : List V} {kws : List (Str × V)} {x qual : Str} {st : Stmt} {N : List Str} (F : FunD K x qual (defArgs st) (defBody st) (defScope st) dvs kws f fd) (S : FnScope N ps (defScope st)) (len : ∀ vs H Q E, sp vs H Q E → vs.length = ps.length)
    (hb : ∀ (cdv : Value) (A : Around) (outer : List Env) (s : Shared) (H : Hp) (vs : List V) (Q : VK) (E : XK), A.guards = some [] → Room k (A.deeper (envOfC qual (defScope st) s.heap.objs.size f cdv)) → sp vs H Q E →
      ∃ t, PSs (cxOf CX P w K mg base N qual (defScope st) f cdv A outer s H E) (defBody st) t ∧ t { nx := fun _ H' => Q .non H', rt := Q } (L2.start N vs) H) : FnG P w K mg base CX (k + 1) f fd ps sp := by
  obtain ⟨oc, od, dV, kV, doc, pm, an, cdv, ct, osl, rfl, lk, hcd, _, _⟩ := F.ex
  refine ⟨len, fun A outer s H args us vs Q E hg hr e0 bind r want => ?_⟩
  have kin : K.In s.heap := e0.mod.kin.keeps fun b o e => (e0.bs b o e).1
  have nolim : s.heap.NoLimit := e0.mod.nolimit.keeps fun b o e => (e0.bs b o e).1
  refine codeAny_call_function hr.depth (kin _ _ lk) rfl S.co S.gen rfl (PySem.W.codeRec_of kin hcd) (bind _ _ _ _ (wpAny_newFunctionEnv_cells S.kind ?kinds fun env he s1 x => ?inside))
  case kinds =>
    intro y hy
    obtain ⟨n, v⟩ := y
    rcases S.par n (List.of_mem_zip hy).1 with q | q
    · exact .inl q
    · exact .inr ⟨q, PySem.W.cellsFrom_some _ _ _ (.inl q)⟩
  case inside =>
    subst he
    refine ⟨nolim.keeps x.toInCall.keep, codeAny_func ?_⟩
    obtain ⟨t, ht, hq⟩ := hb cdv A outer s H vs Q E hg (hr.deeper _) want
    have I := inv_start (CX := CX) (E := E) S hr.hd e0 (len _ _ _ _ want) r x
    refine wpAny_mono (ht.run [] s1 (L2.start N vs) H _ I hq) (fun fl s' hs => ?_) fun _ _ h => h
    cases fl with
    | ret u =>
      obtain ⟨v, σ', H', J, rv, q⟩ := hs
      exact ⟨v, H', J.os, J.bare, J.base, J.hok, rv, q⟩
    | next =>
      obtain ⟨σ', H', J, q⟩ := hs
      exact ⟨.non, H', J.os, J.bare, J.base, J.hok, rfl, q⟩
    | brk =>
      obtain ⟨_, _, _, q⟩ := hs
      exact q.elim
    | cont =>
      obtain ⟨_, _, _, q⟩ := hs
      exact q.elim
theorem FnG.okD {dvs : List V} {kws : List (Str × V)} {x qual : Str} {st : Stmt} {N : List Str} (F : FunD K x qual (defArgs st) (defBody st) (defScope st) dvs kws f fd) (S : FnScope N ps (defScope st)) (len : ∀ vs H Q E, sp vs H Q E → vs.length = ps.length)
    (hb : ∀ (cdv : Value) (A : Around) (outer : List Env) (s : Shared) (H : Hp) (vs : List V) (Q : VK) (E : XK), (A.deeper (envOfC qual (defScope st) s.heap.objs.size f cdv)).guards = some [] → Room k (A.deeper (envOfC qual (defScope st) s.heap.objs.size f cdv)) → sp vs H Q E →
      ∃ t, PSs (cxOf CX0 P w K mg base N qual (defScope st) f cdv A outer s H E).nox (defBody st) t ∧ t { nx := fun _ H' => Q .non H', rt := Q } (L2.start N vs) H) : FnG P w K mg base CX0 (k + 1) f fd ps sp :=
  FnG.bodyD F S len fun cdv A outer s H vs Q E hg hr h => by
    obtain ⟨t, ht, q⟩ := hb cdv A outer s H vs Q E hg hr h
    exact ⟨t, ht.nox, q⟩
end
section
variable {P : Program} {w : World} {K : PySem.W.Frag} {mg : Str → Option Value} {base : Heap}
theorem fn_deckD {dvs : List V} {kws : List (Str × V)} {Fam : FamT} (fo : FamOk Fam) {x qual : Str} {st : Stmt} {N ps : List Str} {f : Addr} {fd : FuncData} {k m : Nat} {W : WD} (F : FunD K x qual (defArgs st) (defBody st) (defScope st) dvs kws f fd) (Sc : FnScope N ps (defScope st)) (hn : ps.length = m + 1) (hN : 0 < N.length)
    (hb : ∀ (cdv : Value) (A : Around) (outer : List Env) (s : Shared) (H : Hp) (E : XK) (S : Fr), S.Ok → Fam S.dv S.M S.Dk → S.H0 = H → (A.deeper (envOfC qual (defScope st) s.heap.objs.size f cdv)).guards = some [] → Room k (A.deeper (envOfC qual (defScope st) s.heap.objs.size f cdv)) →
      ∃ T, PDs (cxOf CX0 P w K mg base N qual (defScope st) f cdv A outer s H E).nox S (defBody st) T ∧ ∀ ds n Q, ds.length = m → W ds n Q → T ⟨fun _ n' => Q .none n', fun e n' => Q e n', fun _ _ => False, fun _ _ => False⟩ (startK N.length ds) n) : FnG P w K mg base CX0 (k + 1) f fd ps (spD Fam K m W) := by
  refine FnG.okD F Sc (fun vs H Q E h => ?_) (fun cdv A outer s H vs Q E hg hr h => ?_)
  · obtain ⟨dv, M, Dk, us, O, ds, n, rfl, _, _, _, _, dx, hl, _⟩ := h
    rw [List.length_cons, dx.len, hl, hn]
  · obtain ⟨dv, M, Dk, us, O, ds, n, rfl, fam, dk, al, mo, dx, hl, w⟩ := h
    obtain ⟨T, pt, want⟩ := hb cdv A outer s H E ⟨H, O, M, dv, Dk⟩ ⟨fo.dk dv M Dk fam, al⟩ fam rfl hg hr
    refine ⟨_, pt.pss, Fz O H, O, _, n, _, ⟨al, ?_, fun b y e _ => e, fun _ h => h, mo, Same.refl _, fun i g og q e1 e2 e3 => ?_, dk⟩, want ds n _ hl w, ?_⟩
    · have e1 : L2.start N (dv :: us) = some dv :: L2.start (N.tail) us := by
        unfold L2.start
        rw [List.map_cons, List.cons_append, List.length_cons, List.length_tail]
        congr 3
        omega
      rw [e1]
      have r0 := repE_start (K := K) (O := O) (H := H) (dv := dv) (N := N.tail) dx
      have e2 : N.tail.length = N.length - 1 := List.length_tail
      refine ⟨by unfold startK; rw [List.length_cons, List.length_cons, ← e2, r0.1], fun i e q => ?_⟩
      cases i with
      | zero =>
        cases q
        exact ⟨_, rfl, rfl⟩
      | succ i =>
        have q : (startD (N.length - 1) ds)[i]? = some e := q
        rw [← e2] at q
        exact r0.2 i e q
    · exfalso
      unfold startK at e1
      cases i with
      | zero => cases e1; exact e3
      | succ i =>
        have e1 : (startD (N.length - 1) ds)[i]? = some g := e1
        unfold startD at e1
        by_cases lt : i < ds.length
        · rw [List.getElem?_append_left (by rw [List.length_map]; exact lt), List.getElem?_map] at e1
          cases z : ds[i]? with
          | none => rw [z] at e1; cases e1
          | some d => rw [z] at e1; cases e1; exact e3
        · rw [List.getElem?_append_right (by rw [List.length_map]; omega), List.getElem?_replicate] at e1
          split at e1 <;> cases e1
          exact e3
    · refine ⟨fun O' σ' H' ρ' n' r e => ?_, fun O' σ' H' ρ' n' r e => e, fun O' σ' H' ρ' n' r e => e, fun v H' e n' dx kp al' dk' h => ?_⟩
      · refine e .non H' r.kp r.dk (fun a z => r.al a (r.sub a z)) .non
      · exact h v H' kp dk' al' dx
end
section
variable {X : Cx} {S : Wf} {W : WX} {e : Expr} {pos p : Pos} {es : List Expr} {R : TW (List Wv)} {k m : Nat} {f : Addr} {fd : FuncData} {ps : List Str} {x : Str}
/-- a new list that is an object from here on -/
def LstOb (ds : List PyData) : Ob → Prop
  | .lst es => es = ds
  | .stm n => ∃ (i j : Int) (k : Nat), ds = [.int i, .int j, .int k] ∧ 0 ≤ i ∧ 0 ≤ j ∧ j < 2305843009213693951 ∧ k ≤ n
  | _ => False
def wNew (R : TW (List Wv)) : TW Wv := fun XD ρ w Q => R XD ρ w fun xs ρ1 w1 => ∃ ds ob, xs = ds.map .d ∧ ds.length < lim ∧ LstOb ds ob ∧ ∀ p, w1 p = none → Q (.o p) ρ1 (w1.put p ob)
theorem pw_new (h : PWA X S W es R) : PWo X S W (.List es pos) (wNew R) := ⟨(pe_lst h.pa).imp fun σ H Q ⟨B, O, ρ, w, XD, r, EX, t⟩ =>
  ⟨B, O, ρ, w, XD, r, EX, h.mono _ _ _ _ _ (fun xs ρ1 n1 ⟨ds, ob, e, hl, lo, z⟩ vs O1 H1 r1 dx => by
    subst e
    refine ⟨Nat.le_of_lt (lim_le (by rw [dx.len, List.length_map]; exact hl)), fun p np => ?_⟩
    have wp : n1 p = none := Classical.byContradiction fun c => absurd np (r1.al p (r1.hid c))
    refine z p wp _ _ _ (r1.putO (H' := upd H1 p (.lst vs)) (x := ob) (.inr np) (fun b y z nb => by rw [upd_ne nb]; exact z) upd_same fun s => ?_) (show WvOk _ _ _ (.o p) from rfl)
    cases ob with
    | ins C fs => exact lo.elim
    | lst es =>
      have lo : es = ds := lo
      subst lo
      exact ⟨vs, rfl, dx.data.same s⟩
    | stm n =>
      obtain ⟨i, j, k, e, h1, h2, h3, h4⟩ := lo
      subst e
      refine ⟨i, j, k, ?_, h1, h2, h3, h4⟩
      cases dx.data with
      | cons a b =>
        cases b with
        | cons b c =>
          cases c with
          | cons c d =>
            cases d
            cases a
            cases b
            cases c
            rfl) t⟩, fun _ _ _ _ _ k h' => h.mono _ _ _ _ _ (fun d ρ1 n1 ⟨ds, ob, e, l, lo, z⟩ => ⟨ds, ob, e, l, lo, fun p wp => k _ _ _ (z p wp)⟩) h'⟩
/-- a def that draws, with defaults -/
def wDrawD (WD' : WD) (m : Nat) (dxs : List PyData) (R : TW (List Wv)) : TW Wv := fun XD ρ w Q => R XD ρ w fun xs ρ1 w1 => ∃ a ds n, xs = .o a :: ds.map .d ∧ w1 a = some (.stm n) ∧ (ds ++ dxs).length = m ∧ WD' (ds ++ dxs) n fun d n' => Q (.d d) ρ1 (w1.put a (.stm n'))
theorem pw_drawD {WD' : WD} {dvs : List V} {dls : List Value} {dxs : List PyData} (mw : MonoW WD') (F : FnG X.prog X.w X.K X.mg X.base CX0 k f fd ps (spD famS X.K m WD')) (hgd : X.A.guards = some []) (hr : Room k X.A) (hg : Gl X x) (hm : X.mg x = some (.ref f)) (hk : PySem.W.keepIn X.K (.ref f) = true) (hb : Binds X.K fd ps dls) (hdv : Vals dvs dls) (hv : DflOk X.K dvs dxs)
    (ha : PWA X S W (e :: es) R) (hdb : (x == ("__debug__" : Str)) = false := by decide) (he : starEach (e :: es) X.env = (false, eval e X.env) :: starEach es X.env := by rfl) (hpl : (backTo pos (starEach es X.env)).any (·.1) = false := by rfl) :
    PWo X S W (.Call (.Name x p) (e :: es) [] pos) (wDrawD WD' m dxs R) :=
  ⟨(pe_callG F hgd hr hg hm hk hb hdv pass0 (E := fun _ _ _ => False) ha.pa hdb he hpl).imp fun σ H Q ⟨B, O, ρ, w, XD, r, EX, t⟩ =>
    ⟨B, O, ρ, w, XD, r, EX, ha.mono _ _ _ _ _ (fun xs ρ1 w1 ⟨a, ds, n, e0, ea, hl, t⟩ vs O1 H1 r1 dx => by
      subst e0
      cases dx with
      | cons h1 h2 =>
        rename_i v us
        obtain rfl : v = .ref a := h1
        obtain ⟨o, ho, so⟩ := r1.ob a _ ea
        have Oa : O1 a := r1.hid (by rw [ea]; exact fun z => nomatch z)
        refine ⟨.ref a, fun b => b = a, fun H n => ∃ o, H a = some o ∧ StmOk o n, us ++ dvs, O1, ds ++ dxs, n, rfl, ⟨a, rfl, rfl, rfl⟩, ⟨o, ho, so⟩, r1.al, fun b z => by rw [z]; exact Oa, h2.data.append (hv _), hl, mw _ _ _ _ (fun d n' q v H' kp dk al dv => ?_) t⟩
        obtain ⟨o', ho', so'⟩ := dk
        have r2 := r1.putO (x := .stm n') (H' := H') (o := o') (.inl (by rw [ea]; exact fun z => nomatch z)) (fun b y z nb => kp b y z nb) ho' fun _ => so'
        exact q v _ H' r2 (dv.same (fz_less (fun b z => z.elim id fun c => by
          by_cases q : b = a
          · rw [q]; exact Oa
          · rw [Wd.put_ne q] at c
            exact r1.hid c) H'))) t⟩,
    fun _ _ _ _ _ k h => ha.mono _ _ _ _ _ (fun xs ρ1 w1 ⟨a, ds, n, e0, ea, hl, t⟩ => ⟨a, ds, n, e0, ea, hl, mw _ _ _ _ (fun _ _ q => k _ _ _ q) t⟩) h⟩
theorem dfl_int {K : PySem.W.Frag} {i : Int} : DflOk K [.int i] [.int i] := fun _ => .cons (.int i) .nil
end
section
variable {X : Cx} {S : Wf} {W : WX} {a b c : Expr} {pos : Pos} {Ta Tb Tc : TW Wv}
def w3 (g g' : PyData → PyData → Option PyData) (Ta Tb Tc : TW Wv) : TW Wv := fun XD ρ w Q => Ta XD ρ w fun x ρ1 w1 => Tb XD ρ1 w1 fun y ρ2 w2 => ∃ d e k, x = .d d ∧ y = .d e ∧ g d e = some (.bool k) ∧
  if k = true then Tc XD ρ2 w2 fun z ρ3 w3 => ∃ f r, z = .d f ∧ g' e f = some r ∧ Q (.d r) ρ3 w3 else Q (.d (.bool false)) ρ2 w2
theorem w3_mono {g g' : PyData → PyData → Option PyData} (ma : MonoT Ta) (mb : MonoT Tb) (mc : MonoT Tc) : MonoT (w3 g g' Ta Tb Tc) := fun XD ρ w Q Q' k h => ma _ _ _ _ _ (fun d ρ1 n1 h1 => mb _ _ _ _ _ (fun e ρ2 n2 ⟨d, e, b, z1, z2, e1, q⟩ => ⟨d, e, b, z1, z2, e1, by
  cases b with
  | true => exact mc _ _ _ _ _ (fun z ρ3 w3 ⟨f, r, e2, e3, q⟩ => ⟨f, r, e2, e3, k _ _ _ q⟩) q
  | false => exact k _ _ _ q⟩) h1) h
theorem tW3 (ok : S.Ok) {g g' : PyData → PyData → Option PyData} {σ : L2.St} {H : Hp} {Q : VK} (ma : MonoT Ta) (mb : MonoT Tb) (mc : MonoT Tc) (h : tWE X.K X.mg S W (w3 g g' Ta Tb Tc) σ H Q) : tChain (r2F X.K g) (r2F X.K g') (tWE X.K X.mg S W Ta) (tWE X.K X.mg S W Tb) (tWE X.K X.mg S W Tc) σ H Q := by
  obtain ⟨B, O, ρ, w, XD, r, EX, t⟩ := h
  refine tW2 mb ma r EX t fun d e ρ2 w2 O2 H2 x y r2 dx dy ⟨d', e', k, z1, z2, e1, q⟩ => ?_
  subst z1 z2
  refine ⟨O2, d', e', _, r2.al, dx, dy, e1, fun v H3 s3 dv => ?_⟩
  cases dv
  refine ⟨k, rfl, ?_⟩
  have r3 := r2.same ok s3
  have dy3 := WvOk.same (s3.fz O2) dy
  cases k with
  | true =>
    refine ⟨Fz O2 H3, O2, ρ2, w2, XD, r3.here, EX.base r3.fz, mc _ _ _ _ _ (fun z ρ4 w4 ⟨f, rr, z2, e2, q⟩ u O4 H4 r4 du => ?_) q⟩
    subst z2
    exact ⟨O4, e', f, rr, r4.al, WvOk.same r4.fz dy3, du, e2, fun t H5 s5 dt => q t O4 H5 ((r4.base r3.fz).same ok s5) dt⟩
  | false => exact q _ O2 H3 r3 (.bl _)
theorem pwt_chain (ok : S.Ok) {op op' : CmpOp} {g g' : PyData → PyData → Option PyData} (ho : OpR X (compareOp op) (r2F X.K g)) (ho' : OpR X (compareOp op') (r2F X.K g')) (ha : PWo X S W a Ta) (hb : PWo X S W b Tb) (hc : PWo X S W c Tc)
    (hm : lastMarks [op, op'] [b, c] = false := by with_unfolding_all rfl) : PWT X S W (.Compare a [op, op'] [b, c] pos) (wB (w3 g g' Ta Tb Tc)) := ⟨(pt_chain ho ho' ha.pe hb.pe hc.pe hm).imp fun _ _ _ h => tW3 ok ha.mono hb.mono hc.mono (tW_test (w3_mono ha.mono hb.mono hc.mono) h), wB_mono (w3_mono ha.mono hb.mono hc.mono)⟩
end
end DS
set_option maxHeartbeats 4000000
namespace DS
open PySem PySem.Spec PyProof.Rows L2
theorem sc_is_integer : FnScope ["value"] ["value"] (defScope s_is_integer) := ⟨rfl, rfl, rfl, by decide +kernel, rfl, by decide +kernel, by decide +kernel⟩
theorem sc_is_alternative : FnScope ["table", "value"] ["table", "value"] (defScope s_is_alternative) := ⟨rfl, rfl, rfl, by decide +kernel, rfl, by decide +kernel, by decide +kernel⟩
theorem sc_is_set : FnScope ["table", "value", "least", "one"] ["table", "value"] (defScope s_is_set) := ⟨rfl, rfl, rfl, by decide +kernel, rfl, by decide +kernel, by decide +kernel⟩
theorem sc_require_alternative : FnScope ["table", "value"] ["table", "value"] (defScope s_require_alternative) := ⟨rfl, rfl, rfl, by decide +kernel, rfl, by decide +kernel, by decide +kernel⟩
theorem sc_table_error : FnScope ["value", "error"] ["value"] (defScope s_table_error) := ⟨rfl, rfl, rfl, by decide +kernel, rfl, by decide +kernel, by decide +kernel⟩
theorem sc_row_error : FnScope ["rows", "i", "row"] ["rows"] (defScope s_row_error) := ⟨rfl, rfl, rfl, by decide +kernel, rfl, by decide +kernel, by decide +kernel⟩
theorem sc_sign_error : FnScope ["rows", "i", "row", "j", "sign"] ["rows"] (defScope s_sign_error) := ⟨rfl, rfl, rfl, by decide +kernel, rfl, by decide +kernel, by decide +kernel⟩
theorem sc_pair_error : FnScope ["rows", "i", "row", "j"] ["rows"] (defScope s_pair_error) := ⟨rfl, rfl, rfl, by decide +kernel, rfl, by decide +kernel, by decide +kernel⟩
theorem sc_outsiders : FnScope ["table", "members", "one"] ["table", "members"] (defScope s_outsiders) := ⟨rfl, rfl, rfl, by decide +kernel, rfl, by decide +kernel, by decide +kernel⟩
theorem sc_pick_table : FnScope ["table", "picked", "i", "j"] ["table", "picked"] (defScope s_pick_table) := ⟨rfl, rfl, rfl, by decide +kernel, rfl, by decide +kernel, by decide +kernel⟩
theorem sc_turn_duel : FnScope ["table", "one", "other", "rows"] ["table", "one", "other"] (defScope s_turn_duel) := ⟨rfl, rfl, rfl, by decide +kernel, rfl, by decide +kernel, by decide +kernel⟩
theorem sc_turn_sign : FnScope ["row", "at"] ["row", "at"] (defScope s_turn_sign) := ⟨rfl, rfl, rfl, by decide +kernel, rfl, by decide +kernel, by decide +kernel⟩
theorem sc_edited_table : FnScope ["table", "edit"] ["table", "edit"] (defScope s_edited_table) := ⟨rfl, rfl, rfl, by decide +kernel, rfl, by decide +kernel, by decide +kernel⟩
theorem sc_with_another : FnScope ["table", "wins", "rows", "one", "row"] ["table", "wins"] (defScope s_with_another) := ⟨rfl, rfl, rfl, by decide +kernel, rfl, by decide +kernel, by decide +kernel⟩
theorem sc_without_one : FnScope ["table", "one"] ["table", "one"] (defScope s_without_one) := ⟨rfl, rfl, rfl, by decide +kernel, rfl, by decide +kernel, by decide +kernel⟩
theorem sc__law_stream : FnScope ["_law_script", "_law_turn", "_law_cell", "_law_rest"] ["_law_script", "_law_turn"] (defScope s__law_stream) := ⟨rfl, rfl, rfl, by decide +kernel, rfl, by decide +kernel, by decide +kernel⟩
theorem sc__law_take : FnScope ["_law_stream_here", "_law_many", "_law_found", "_law_low", "_law_high", "_law_turn", "_law_mixed"] ["_law_stream_here", "_law_many"] (defScope s__law_take) := ⟨rfl, rfl, rfl, by decide +kernel, rfl, by decide +kernel, by decide +kernel⟩
theorem sc__law_from : FnScope ["_law_thing", "_law_low", "_law_high"] ["_law_thing", "_law_low", "_law_high"] (defScope s__law_from) := ⟨rfl, rfl, rfl, by decide +kernel, rfl, by decide +kernel, by decide +kernel⟩
theorem sc__law_equal : FnScope ["_law_one", "_law_other"] ["_law_one", "_law_other"] (defScope s__law_equal) := ⟨rfl, rfl, rfl, by decide +kernel, rfl, by decide +kernel, by decide +kernel⟩
theorem sc__law_table : FnScope ["_law_stream_here", "_law_most", "_law_size", "_law_way", "_law_signs", "_law_i", "_law_j", "_law_wins_here", "_law_k", "_law_row"] ["_law_stream_here", "_law_most"] (defScope s__law_table) := ⟨rfl, rfl, rfl, by decide +kernel, rfl, by decide +kernel, by decide +kernel⟩
theorem sc__law_wins : FnScope ["_law_stream_here", "_law_size", "_law_one"] ["_law_stream_here", "_law_size"] (defScope s__law_wins) := ⟨rfl, rfl, rfl, by decide +kernel, rfl, by decide +kernel, by decide +kernel⟩
theorem sc__law_is_set : FnScope ["_law_size", "_law_value", "_law_one"] ["_law_size", "_law_value"] (defScope s__law_is_set) := ⟨rfl, rfl, rfl, by decide +kernel, rfl, by decide +kernel, by decide +kernel⟩
theorem sc__law_turned : FnScope ["_law_table_here", "_law_one", "_law_other", "_law_rows", "_law_row"] ["_law_table_here", "_law_one", "_law_other"] (defScope s__law_turned) := ⟨rfl, rfl, rfl, by decide +kernel, rfl, by decide +kernel, by decide +kernel⟩
theorem sc__law_grown : FnScope ["_law_table_here", "_law_wins_here", "_law_rows", "_law_one", "_law_row"] ["_law_table_here", "_law_wins_here"] (defScope s__law_grown) := ⟨rfl, rfl, rfl, by decide +kernel, rfl, by decide +kernel, by decide +kernel⟩
theorem sc__law_shrunk : FnScope ["_law_table_here", "_law_one", "_law_rows", "_law_row"] ["_law_table_here", "_law_one"] (defScope s__law_shrunk) := ⟨rfl, rfl, rfl, by decide +kernel, rfl, by decide +kernel, by decide +kernel⟩
theorem sc__law_due : FnScope ["_law_table_here", "_law_edit", "_law_size", "_law_one"] ["_law_table_here", "_law_edit"] (defScope s__law_due) := ⟨rfl, rfl, rfl, by decide +kernel, rfl, by decide +kernel, by decide +kernel⟩
theorem sc__law_do : FnScope ["_law_bench", "_law_edit"] ["_law_bench", "_law_edit"] (defScope s__law_do) := ⟨rfl, rfl, rfl, by decide +kernel, rfl, by decide +kernel, by decide +kernel⟩
theorem sc__law_some_edit : FnScope ["_law_stream_here", "_law_table_here", "_law_most", "_law_size", "_law_way", "_law_one"] ["_law_stream_here", "_law_table_here", "_law_most"] (defScope s__law_some_edit) := ⟨rfl, rfl, rfl, by decide +kernel, rfl, by decide +kernel, by decide +kernel⟩
theorem sc__law_valid_edit : FnScope ["_law_stream_here", "_law_table_here", "_law_most", "_law_again", "_law_edit"] ["_law_stream_here", "_law_table_here", "_law_most"] (defScope s__law_valid_edit) := ⟨rfl, rfl, rfl, by decide +kernel, rfl, by decide +kernel, by decide +kernel⟩
theorem sc__law_text : FnScope ["_law_table_here", "_law_many"] ["_law_table_here", "_law_many"] (defScope s__law_text) := ⟨rfl, rfl, rfl, by decide +kernel, rfl, by decide +kernel, by decide +kernel⟩
theorem sc__law_seen : FnScope ["_law_bench"] ["_law_bench"] (defScope s__law_seen) := ⟨rfl, rfl, rfl, by decide +kernel, rfl, by decide +kernel, by decide +kernel⟩
theorem sc__law_due_seen : FnScope ["_law_table_here", "_law_done"] ["_law_table_here", "_law_done"] (defScope s__law_due_seen) := ⟨rfl, rfl, rfl, by decide +kernel, rfl, by decide +kernel, by decide +kernel⟩
theorem sc_law : FnScope ["_law_script", "_law_turn", "_law_stream_here", "_law_table_here", "_law_bench", "_law_done", "_law_k", "_law_edit", "_law_before", "_law_found"] ["_law_script"] (defScope s_law) := ⟨rfl, rfl, rfl, by decide +kernel, rfl, by decide +kernel, by decide +kernel⟩
theorem sc_Bench___init__ : FnScope ["self", "table", "error"] ["self", "table"] (defScope s_Bench___init__) := ⟨rfl, rfl, rfl, by decide +kernel, rfl, by decide +kernel, by decide +kernel⟩
theorem sc_Bench_version : FnScope ["self"] ["self"] (defScope s_Bench_version) := ⟨rfl, rfl, rfl, by decide +kernel, rfl, by decide +kernel, by decide +kernel⟩
theorem sc_Bench_size : FnScope ["self"] ["self"] (defScope s_Bench_size) := ⟨rfl, rfl, rfl, by decide +kernel, rfl, by decide +kernel, by decide +kernel⟩
theorem sc_Bench_kind : FnScope ["self"] ["self"] (defScope s_Bench_kind) := ⟨rfl, rfl, rfl, by decide +kernel, rfl, by decide +kernel, by decide +kernel⟩
theorem sc_Bench_turn : FnScope ["self", "one", "other"] ["self", "one", "other"] (defScope s_Bench_turn) := ⟨rfl, rfl, rfl, by decide +kernel, rfl, by decide +kernel, by decide +kernel⟩
theorem sc_Bench_add : FnScope ["self", "wins"] ["self", "wins"] (defScope s_Bench_add) := ⟨rfl, rfl, rfl, by decide +kernel, rfl, by decide +kernel, by decide +kernel⟩
theorem sc_Bench_remove : FnScope ["self", "one"] ["self", "one"] (defScope s_Bench_remove) := ⟨rfl, rfl, rfl, by decide +kernel, rfl, by decide +kernel, by decide +kernel⟩
theorem sc_Bench_edit_once : FnScope ["self", "edit"] ["self", "edit"] (defScope s_Bench_edit_once) := ⟨rfl, rfl, rfl, by decide +kernel, rfl, by decide +kernel, by decide +kernel⟩
theorem sc_Bench_do_edit : FnScope ["self", "edit", "table"] ["self", "edit"] (defScope s_Bench_do_edit) := ⟨rfl, rfl, rfl, by decide +kernel, rfl, by decide +kernel, by decide +kernel⟩
theorem sc_Bench_require_fit : FnScope ["self", "table"] ["self", "table"] (defScope s_Bench_require_fit) := ⟨rfl, rfl, rfl, by decide +kernel, rfl, by decide +kernel, by decide +kernel⟩
theorem sc_Bench_require_free : FnScope ["self"] ["self"] (defScope s_Bench_require_free) := ⟨rfl, rfl, rfl, by decide +kernel, rfl, by decide +kernel, by decide +kernel⟩
theorem sc_Bench_state_at : FnScope ["self", "version"] ["self", "version"] (defScope s_Bench_state_at) := ⟨rfl, rfl, rfl, by decide +kernel, rfl, by decide +kernel, by decide +kernel⟩
theorem sc_Bench_table : FnScope ["self", "version"] ["self", "version"] (defScope s_Bench_table) := ⟨rfl, rfl, rfl, by decide +kernel, rfl, by decide +kernel, by decide +kernel⟩
theorem sc_Bench_edits : FnScope ["self"] ["self"] (defScope s_Bench_edits) := ⟨rfl, rfl, rfl, by decide +kernel, rfl, by decide +kernel, by decide +kernel⟩
theorem sc_Bench___len__ : FnScope ["self"] ["self"] (defScope s_Bench___len__) := ⟨rfl, rfl, rfl, by decide +kernel, rfl, by decide +kernel, by decide +kernel⟩
theorem sc_Bench___str__ : FnScope ["self"] ["self"] (defScope s_Bench___str__) := ⟨rfl, rfl, rfl, by decide +kernel, rfl, by decide +kernel, by decide +kernel⟩
structure Ad where
  f_Bench___init__ : Addr
  d_Bench___init__ : FuncData
  f_Bench_version : Addr
  d_Bench_version : FuncData
  p_Bench_version : Addr
  f_Bench_size : Addr
  d_Bench_size : FuncData
  p_Bench_size : Addr
  f_Bench_kind : Addr
  d_Bench_kind : FuncData
  p_Bench_kind : Addr
  f_Bench_turn : Addr
  d_Bench_turn : FuncData
  f_Bench_add : Addr
  d_Bench_add : FuncData
  f_Bench_remove : Addr
  d_Bench_remove : FuncData
  f_Bench_edit_once : Addr
  d_Bench_edit_once : FuncData
  f_Bench_do_edit : Addr
  d_Bench_do_edit : FuncData
  f_Bench_require_fit : Addr
  d_Bench_require_fit : FuncData
  f_Bench_require_free : Addr
  d_Bench_require_free : FuncData
  f_Bench_state_at : Addr
  d_Bench_state_at : FuncData
  f_Bench_table : Addr
  d_Bench_table : FuncData
  f_Bench_edits : Addr
  d_Bench_edits : FuncData
  f_Bench___len__ : Addr
  d_Bench___len__ : FuncData
  f_Bench___str__ : Addr
  d_Bench___str__ : FuncData
  c_Bench : Addr
  c_TooManyEdits : Addr
  c_TooLarge : Addr
  i_TooLarge : Addr
  c_SameAlternative : Addr
  i_SameAlternative : Addr
  c_NoVersion : Addr
  i_NoVersion : Addr
  c_NoSet : Addr
  i_NoSet : Addr
  c_NoAlternative : Addr
  i_NoAlternative : Addr
  c_LastOne : Addr
  c_Busy : Addr
  c_BadTable : Addr
  i_BadTable : Addr
  f_is_integer : Addr
  d_is_integer : FuncData
  f_is_alternative : Addr
  d_is_alternative : FuncData
  f_is_set : Addr
  d_is_set : FuncData
  f_require_alternative : Addr
  d_require_alternative : FuncData
  f_table_error : Addr
  d_table_error : FuncData
  f_row_error : Addr
  d_row_error : FuncData
  f_sign_error : Addr
  d_sign_error : FuncData
  f_pair_error : Addr
  d_pair_error : FuncData
  f_outsiders : Addr
  d_outsiders : FuncData
  f_pick_table : Addr
  d_pick_table : FuncData
  f_turn_duel : Addr
  d_turn_duel : FuncData
  f_turn_sign : Addr
  d_turn_sign : FuncData
  f_edited_table : Addr
  d_edited_table : FuncData
  f_with_another : Addr
  d_with_another : FuncData
  f_without_one : Addr
  d_without_one : FuncData
  f__law_stream : Addr
  d__law_stream : FuncData
  f__law_take : Addr
  d__law_take : FuncData
  f__law_from : Addr
  d__law_from : FuncData
  f__law_equal : Addr
  d__law_equal : FuncData
  f__law_table : Addr
  d__law_table : FuncData
  f__law_wins : Addr
  d__law_wins : FuncData
  f__law_is_set : Addr
  d__law_is_set : FuncData
  f__law_turned : Addr
  d__law_turned : FuncData
  f__law_grown : Addr
  d__law_grown : FuncData
  f__law_shrunk : Addr
  d__law_shrunk : FuncData
  f__law_due : Addr
  d__law_due : FuncData
  f__law_do : Addr
  d__law_do : FuncData
  f__law_some_edit : Addr
  d__law_some_edit : FuncData
  f__law_valid_edit : Addr
  d__law_valid_edit : FuncData
  f__law_text : Addr
  d__law_text : FuncData
  f__law_seen : Addr
  d__law_seen : FuncData
  f__law_due_seen : Addr
  d__law_due_seen : FuncData
  f_law : Addr
  d_law : FuncData
structure Tx (K : PySem.W.Frag) (mg : Str → Option Value) (a : Ad) : Prop where
  F_Bench___init__ : Fun K "__init__" "Bench.__init__" s_Bench___init__ a.f_Bench___init__ a.d_Bench___init__
  b_Bench___init__ : Binds K a.d_Bench___init__ ["self", "table"] []
  F_Bench_version : Fun K "version" "Bench.version" s_Bench_version a.f_Bench_version a.d_Bench_version
  b_Bench_version : Binds K a.d_Bench_version ["self"] []
  P_Bench_version : PropOf K a.c_Bench "version" a.p_Bench_version a.f_Bench_version
  F_Bench_size : Fun K "size" "Bench.size" s_Bench_size a.f_Bench_size a.d_Bench_size
  b_Bench_size : Binds K a.d_Bench_size ["self"] []
  P_Bench_size : PropOf K a.c_Bench "size" a.p_Bench_size a.f_Bench_size
  F_Bench_kind : Fun K "kind" "Bench.kind" s_Bench_kind a.f_Bench_kind a.d_Bench_kind
  b_Bench_kind : Binds K a.d_Bench_kind ["self"] []
  P_Bench_kind : PropOf K a.c_Bench "kind" a.p_Bench_kind a.f_Bench_kind
  F_Bench_turn : Fun K "turn" "Bench.turn" s_Bench_turn a.f_Bench_turn a.d_Bench_turn
  b_Bench_turn : Binds K a.d_Bench_turn ["self", "one", "other"] []
  M_Bench_turn : Meth K a.c_Bench "turn" a.f_Bench_turn
  F_Bench_add : Fun K "add" "Bench.add" s_Bench_add a.f_Bench_add a.d_Bench_add
  b_Bench_add : Binds K a.d_Bench_add ["self", "wins"] []
  M_Bench_add : Meth K a.c_Bench "add" a.f_Bench_add
  F_Bench_remove : Fun K "remove" "Bench.remove" s_Bench_remove a.f_Bench_remove a.d_Bench_remove
  b_Bench_remove : Binds K a.d_Bench_remove ["self", "one"] []
  M_Bench_remove : Meth K a.c_Bench "remove" a.f_Bench_remove
  F_Bench_edit_once : Fun K "edit_once" "Bench.edit_once" s_Bench_edit_once a.f_Bench_edit_once a.d_Bench_edit_once
  b_Bench_edit_once : Binds K a.d_Bench_edit_once ["self", "edit"] []
  M_Bench_edit_once : Meth K a.c_Bench "edit_once" a.f_Bench_edit_once
  F_Bench_do_edit : Fun K "do_edit" "Bench.do_edit" s_Bench_do_edit a.f_Bench_do_edit a.d_Bench_do_edit
  b_Bench_do_edit : Binds K a.d_Bench_do_edit ["self", "edit"] []
  M_Bench_do_edit : Meth K a.c_Bench "do_edit" a.f_Bench_do_edit
  F_Bench_require_fit : Fun K "require_fit" "Bench.require_fit" s_Bench_require_fit a.f_Bench_require_fit a.d_Bench_require_fit
  b_Bench_require_fit : Binds K a.d_Bench_require_fit ["self", "table"] []
  M_Bench_require_fit : Meth K a.c_Bench "require_fit" a.f_Bench_require_fit
  F_Bench_require_free : Fun K "require_free" "Bench.require_free" s_Bench_require_free a.f_Bench_require_free a.d_Bench_require_free
  b_Bench_require_free : Binds K a.d_Bench_require_free ["self"] []
  M_Bench_require_free : Meth K a.c_Bench "require_free" a.f_Bench_require_free
  F_Bench_state_at : Fun K "state_at" "Bench.state_at" s_Bench_state_at a.f_Bench_state_at a.d_Bench_state_at
  b_Bench_state_at : Binds K a.d_Bench_state_at ["self", "version"] []
  M_Bench_state_at : Meth K a.c_Bench "state_at" a.f_Bench_state_at
  F_Bench_table : Fun K "table" "Bench.table" s_Bench_table a.f_Bench_table a.d_Bench_table
  b_Bench_table : ∃ ds, Vals [V.non] ds ∧ Binds K a.d_Bench_table ["self", "version"] ds
  M_Bench_table : Meth K a.c_Bench "table" a.f_Bench_table
  F_Bench_edits : Fun K "edits" "Bench.edits" s_Bench_edits a.f_Bench_edits a.d_Bench_edits
  b_Bench_edits : Binds K a.d_Bench_edits ["self"] []
  M_Bench_edits : Meth K a.c_Bench "edits" a.f_Bench_edits
  F_Bench___len__ : Fun K "__len__" "Bench.__len__" s_Bench___len__ a.f_Bench___len__ a.d_Bench___len__
  b_Bench___len__ : Binds K a.d_Bench___len__ ["self"] []
  M_Bench___len__ : Meth K a.c_Bench "__len__" a.f_Bench___len__
  F_Bench___str__ : Fun K "__str__" "Bench.__str__" s_Bench___str__ a.f_Bench___str__ a.d_Bench___str__
  b_Bench___str__ : Binds K a.d_Bench___str__ ["self"] []
  M_Bench___str__ : Meth K a.c_Bench "__str__" a.f_Bench___str__
  cl_Bench : L2.Cls K a.c_Bench
  g_Bench : mg "Bench" = some (.ref a.c_Bench)
  mk_Bench : Mk K a.c_Bench a.f_Bench___init__
  na_Bench_states : NoAttr K a.c_Bench "states"
  na_Bench_standing : NoAttr K a.c_Bench "standing"
  na_Bench_chosen : NoAttr K a.c_Bench "chosen"
  na_Bench_busy : NoAttr K a.c_Bench "busy"
  F_is_integer : Fun K "is_integer" "is_integer" s_is_integer a.f_is_integer a.d_is_integer
  b_is_integer : Binds K a.d_is_integer ["value"] []
  g_is_integer : mg "is_integer" = some (.ref a.f_is_integer)
  F_is_alternative : Fun K "is_alternative" "is_alternative" s_is_alternative a.f_is_alternative a.d_is_alternative
  b_is_alternative : Binds K a.d_is_alternative ["table", "value"] []
  g_is_alternative : mg "is_alternative" = some (.ref a.f_is_alternative)
  F_is_set : Fun K "is_set" "is_set" s_is_set a.f_is_set a.d_is_set
  b_is_set : Binds K a.d_is_set ["table", "value"] []
  g_is_set : mg "is_set" = some (.ref a.f_is_set)
  F_require_alternative : Fun K "require_alternative" "require_alternative" s_require_alternative a.f_require_alternative a.d_require_alternative
  b_require_alternative : Binds K a.d_require_alternative ["table", "value"] []
  g_require_alternative : mg "require_alternative" = some (.ref a.f_require_alternative)
  F_table_error : Fun K "table_error" "table_error" s_table_error a.f_table_error a.d_table_error
  b_table_error : Binds K a.d_table_error ["value"] []
  g_table_error : mg "table_error" = some (.ref a.f_table_error)
  F_row_error : Fun K "row_error" "row_error" s_row_error a.f_row_error a.d_row_error
  b_row_error : Binds K a.d_row_error ["rows"] []
  g_row_error : mg "row_error" = some (.ref a.f_row_error)
  F_sign_error : Fun K "sign_error" "sign_error" s_sign_error a.f_sign_error a.d_sign_error
  b_sign_error : Binds K a.d_sign_error ["rows"] []
  g_sign_error : mg "sign_error" = some (.ref a.f_sign_error)
  F_pair_error : Fun K "pair_error" "pair_error" s_pair_error a.f_pair_error a.d_pair_error
  b_pair_error : Binds K a.d_pair_error ["rows"] []
  g_pair_error : mg "pair_error" = some (.ref a.f_pair_error)
  F_outsiders : Fun K "outsiders" "outsiders" s_outsiders a.f_outsiders a.d_outsiders
  b_outsiders : Binds K a.d_outsiders ["table", "members"] []
  g_outsiders : mg "outsiders" = some (.ref a.f_outsiders)
  F_pick_table : Fun K "pick_table" "pick_table" s_pick_table a.f_pick_table a.d_pick_table
  b_pick_table : Binds K a.d_pick_table ["table", "picked"] []
  g_pick_table : mg "pick_table" = some (.ref a.f_pick_table)
  F_turn_duel : Fun K "turn_duel" "turn_duel" s_turn_duel a.f_turn_duel a.d_turn_duel
  b_turn_duel : Binds K a.d_turn_duel ["table", "one", "other"] []
  g_turn_duel : mg "turn_duel" = some (.ref a.f_turn_duel)
  F_turn_sign : Fun K "turn_sign" "turn_sign" s_turn_sign a.f_turn_sign a.d_turn_sign
  b_turn_sign : Binds K a.d_turn_sign ["row", "at"] []
  g_turn_sign : mg "turn_sign" = some (.ref a.f_turn_sign)
  F_edited_table : Fun K "edited_table" "edited_table" s_edited_table a.f_edited_table a.d_edited_table
  b_edited_table : Binds K a.d_edited_table ["table", "edit"] []
  g_edited_table : mg "edited_table" = some (.ref a.f_edited_table)
  F_with_another : Fun K "with_another" "with_another" s_with_another a.f_with_another a.d_with_another
  b_with_another : Binds K a.d_with_another ["table", "wins"] []
  g_with_another : mg "with_another" = some (.ref a.f_with_another)
  F_without_one : Fun K "without_one" "without_one" s_without_one a.f_without_one a.d_without_one
  b_without_one : Binds K a.d_without_one ["table", "one"] []
  g_without_one : mg "without_one" = some (.ref a.f_without_one)
  F__law_stream : Fun K "_law_stream" "_law_stream" s__law_stream a.f__law_stream a.d__law_stream
  b__law_stream : Binds K a.d__law_stream ["_law_script", "_law_turn"] []
  g__law_stream : mg "_law_stream" = some (.ref a.f__law_stream)
  F__law_take : Fun K "_law_take" "_law_take" s__law_take a.f__law_take a.d__law_take
  b__law_take : Binds K a.d__law_take ["_law_stream_here", "_law_many"] []
  g__law_take : mg "_law_take" = some (.ref a.f__law_take)
  F__law_from : Fun K "_law_from" "_law_from" s__law_from a.f__law_from a.d__law_from
  b__law_from : Binds K a.d__law_from ["_law_thing", "_law_low", "_law_high"] []
  g__law_from : mg "_law_from" = some (.ref a.f__law_from)
  F__law_equal : Fun K "_law_equal" "_law_equal" s__law_equal a.f__law_equal a.d__law_equal
  b__law_equal : Binds K a.d__law_equal ["_law_one", "_law_other"] []
  g__law_equal : mg "_law_equal" = some (.ref a.f__law_equal)
  F__law_table : Fun K "_law_table" "_law_table" s__law_table a.f__law_table a.d__law_table
  b__law_table : Binds K a.d__law_table ["_law_stream_here", "_law_most"] []
  g__law_table : mg "_law_table" = some (.ref a.f__law_table)
  F__law_wins : Fun K "_law_wins" "_law_wins" s__law_wins a.f__law_wins a.d__law_wins
  b__law_wins : Binds K a.d__law_wins ["_law_stream_here", "_law_size"] []
  g__law_wins : mg "_law_wins" = some (.ref a.f__law_wins)
  F__law_is_set : Fun K "_law_is_set" "_law_is_set" s__law_is_set a.f__law_is_set a.d__law_is_set
  b__law_is_set : Binds K a.d__law_is_set ["_law_size", "_law_value"] []
  g__law_is_set : mg "_law_is_set" = some (.ref a.f__law_is_set)
  F__law_turned : Fun K "_law_turned" "_law_turned" s__law_turned a.f__law_turned a.d__law_turned
  b__law_turned : Binds K a.d__law_turned ["_law_table_here", "_law_one", "_law_other"] []
  g__law_turned : mg "_law_turned" = some (.ref a.f__law_turned)
  F__law_grown : Fun K "_law_grown" "_law_grown" s__law_grown a.f__law_grown a.d__law_grown
  b__law_grown : Binds K a.d__law_grown ["_law_table_here", "_law_wins_here"] []
  g__law_grown : mg "_law_grown" = some (.ref a.f__law_grown)
  F__law_shrunk : Fun K "_law_shrunk" "_law_shrunk" s__law_shrunk a.f__law_shrunk a.d__law_shrunk
  b__law_shrunk : Binds K a.d__law_shrunk ["_law_table_here", "_law_one"] []
  g__law_shrunk : mg "_law_shrunk" = some (.ref a.f__law_shrunk)
  F__law_due : Fun K "_law_due" "_law_due" s__law_due a.f__law_due a.d__law_due
  b__law_due : Binds K a.d__law_due ["_law_table_here", "_law_edit"] []
  g__law_due : mg "_law_due" = some (.ref a.f__law_due)
  F__law_do : Fun K "_law_do" "_law_do" s__law_do a.f__law_do a.d__law_do
  b__law_do : Binds K a.d__law_do ["_law_bench", "_law_edit"] []
  g__law_do : mg "_law_do" = some (.ref a.f__law_do)
  F__law_some_edit : FunD K "_law_some_edit" "_law_some_edit" (defArgs s__law_some_edit) (defBody s__law_some_edit) (defScope s__law_some_edit) [V.int 10] [] a.f__law_some_edit a.d__law_some_edit
  b__law_some_edit : Binds K a.d__law_some_edit ["_law_stream_here", "_law_table_here", "_law_most"] []
  b1__law_some_edit : ∃ ds, Vals [V.int 10] ds ∧ Binds K a.d__law_some_edit ["_law_stream_here", "_law_table_here", "_law_most"] ds
  g__law_some_edit : mg "_law_some_edit" = some (.ref a.f__law_some_edit)
  F__law_valid_edit : FunD K "_law_valid_edit" "_law_valid_edit" (defArgs s__law_valid_edit) (defBody s__law_valid_edit) (defScope s__law_valid_edit) [V.int 10] [] a.f__law_valid_edit a.d__law_valid_edit
  b__law_valid_edit : Binds K a.d__law_valid_edit ["_law_stream_here", "_law_table_here", "_law_most"] []
  b1__law_valid_edit : ∃ ds, Vals [V.int 10] ds ∧ Binds K a.d__law_valid_edit ["_law_stream_here", "_law_table_here", "_law_most"] ds
  g__law_valid_edit : mg "_law_valid_edit" = some (.ref a.f__law_valid_edit)
  F__law_text : Fun K "_law_text" "_law_text" s__law_text a.f__law_text a.d__law_text
  b__law_text : Binds K a.d__law_text ["_law_table_here", "_law_many"] []
  g__law_text : mg "_law_text" = some (.ref a.f__law_text)
  F__law_seen : Fun K "_law_seen" "_law_seen" s__law_seen a.f__law_seen a.d__law_seen
  b__law_seen : Binds K a.d__law_seen ["_law_bench"] []
  g__law_seen : mg "_law_seen" = some (.ref a.f__law_seen)
  F__law_due_seen : Fun K "_law_due_seen" "_law_due_seen" s__law_due_seen a.f__law_due_seen a.d__law_due_seen
  b__law_due_seen : Binds K a.d__law_due_seen ["_law_table_here", "_law_done"] []
  g__law_due_seen : mg "_law_due_seen" = some (.ref a.f__law_due_seen)
  F_law : Fun K "law" "law" s_law a.f_law a.d_law
  b_law : Binds K a.d_law ["_law_script"] []
  g_law : mg "law" = some (.ref a.f_law)
  z_isinstance : mg "isinstance" = none
  z_int : mg "int" = none
  z_bool : mg "bool" = none
  z_len : mg "len" = none
  z_tuple : mg "tuple" = none
  z_enumerate : mg "enumerate" = none
  z_str : mg "str" = none
  z_range : mg "range" = none
  z_all : mg "all" = none
  z_list : mg "list" = none
  z_reversed : mg "reversed" = none
  z_any : mg "any" = none
  z_min : mg "min" = none
  z_sum : mg "sum" = none
  z_max : mg "max" = none
  z_sorted : mg "sorted" = none
  z_repr : mg "repr" = none
  z_set : mg "set" = none
  z_classmethod : mg "classmethod" = none
  z_staticmethod : mg "staticmethod" = none
  z_property : mg "property" = none
  c_MAX_SIZE : ∃ t, mg "MAX_SIZE" = some (.int (9) t)
  c_EDITS : ∃ t, mg "EDITS" = some (.int (60) t)
  c_BATCH : ∃ t, mg "BATCH" = some (.int (20) t)
  G_BadTable : mg "BadTable" = some (.ref a.c_BadTable)
  G_Busy : mg "Busy" = some (.ref a.c_Busy)
  G_LastOne : mg "LastOne" = some (.ref a.c_LastOne)
  G_NoAlternative : mg "NoAlternative" = some (.ref a.c_NoAlternative)
  G_NoSet : mg "NoSet" = some (.ref a.c_NoSet)
  G_NoVersion : mg "NoVersion" = some (.ref a.c_NoVersion)
  G_SameAlternative : mg "SameAlternative" = some (.ref a.c_SameAlternative)
  G_TooLarge : mg "TooLarge" = some (.ref a.c_TooLarge)
  G_TooManyEdits : mg "TooManyEdits" = some (.ref a.c_TooManyEdits)
  O_BadTable : OwnX_error K a.c_BadTable a.i_BadTable
  R_Busy : Own0 K a.c_Busy
  R_LastOne : Own0 K a.c_LastOne
  O_NoAlternative : OwnX K a.c_NoAlternative a.i_NoAlternative
  O_NoSet : OwnX K a.c_NoSet a.i_NoSet
  O_NoVersion : OwnX K a.c_NoVersion a.i_NoVersion
  O_SameAlternative : OwnX K a.c_SameAlternative a.i_SameAlternative
  O_TooLarge : OwnX_limit K a.c_TooLarge a.i_TooLarge
  R_TooManyEdits : Own0 K a.c_TooManyEdits
section
variable {P : Program} {w : World} {K : PySem.W.Frag} {mg : Str → Option Value} {base : Heap} {a : Ad}
theorem ok_is_integer (T : Tx K mg a) : FnG P w K mg base CX0 1 a.f_is_integer a.d_is_integer ["value"] (spF K 1 sem_is_integer) :=
  fn_z (k := 0) T.F_is_integer sc_is_integer rfl fun cdv A outer s H E O al hgd hr =>
    have nd := sc_is_integer.nd
    have ok := noDeck_ok al
    (pzs_one (pz_ret ok (pf_and (pf_isi (by rfl) T.z_isinstance kit_tInt (by rfl) T.z_int (by decide +kernel) (pf_v 0)) (pf_one (pf_not (pf_isi (by rfl) T.z_isinstance kit_tBool (by rfl) T.z_bool (by decide +kernel) (pf_v 0)))))))
theorem ok_row_error (T : Tx K mg a) : FnG P w K mg base CX0 1 a.f_row_error a.d_row_error ["rows"] (spF K 1 sem_row_error) :=
  fn_z (k := 0) T.F_row_error sc_row_error rfl fun cdv A outer s H E O al hgd hr =>
    have nd := sc_row_error.nd
    have ok := noDeck_ok al
    (pzs_cons (pz_for ok PassesOwn.never rfl (pif_enum (by rfl) T.z_enumerate (pf_v 0)) (pgf_tup rfl (pgsf_cons (i := 1) nd rfl (by first | exact Or.inl rfl | exact Or.inr rfl) (pgsf_cons (i := 2) nd rfl (by first | exact Or.inl rfl | exact Or.inr rfl) pgsf_nil))) (sets_tup [1, 2])
      (pzs_one (pz_if ok (pfw_or (pft_not (pft_val (pf_isi (by rfl) T.z_isinstance kit_tStr (by rfl) T.z_str (by decide +kernel) (pf_v 2)))) (pfw_or1 (pft_cmp (of_ne hr.units) (pf_callB cf_len (by rfl) T.z_len (by decide +kernel) (pfa_cons (pf_v 2) pfa_nil)) (pf_callB cf_len (by rfl) T.z_len (by decide +kernel) (pfa_cons (pf_v 0) pfa_nil)) (nomark _)))).pft (pzs_one (pz_ret ok (pf_tup (pfa_cons (pf_v 1) (pfa_cons pf_non (pfa_cons pf_str pfa_nil)))))) pzs_nil)))
      (pzs_one (pz_ret ok pf_non)))
theorem ok_sign_error (T : Tx K mg a) : FnG P w K mg base CX0 1 a.f_sign_error a.d_sign_error ["rows"] (spF K 1 sem_sign_error) :=
  fn_z (k := 0) T.F_sign_error sc_sign_error rfl fun cdv A outer s H E O al hgd hr =>
    have nd := sc_sign_error.nd
    have ok := noDeck_ok al
    (pzs_cons (pz_for ok PassesOwn.never rfl (pif_enum (by rfl) T.z_enumerate (pf_v 0)) (pgf_tup rfl (pgsf_cons (i := 1) nd rfl (by first | exact Or.inl rfl | exact Or.inr rfl) (pgsf_cons (i := 2) nd rfl (by first | exact Or.inl rfl | exact Or.inr rfl) pgsf_nil))) (sets_tup [1, 2])
      (pzs_one (pz_for ok PassesOwn.never rfl (pif_enum (by rfl) T.z_enumerate (pf_v 2)) (pgf_tup rfl (pgsf_cons (i := 3) nd rfl (by first | exact Or.inl rfl | exact Or.inr rfl) (pgsf_cons (i := 4) nd rfl (by first | exact Or.inl rfl | exact Or.inr rfl) pgsf_nil))) (sets_tup [3, 4])
      (pzs_one (pz_if ok (pft_cmp of_notInT (pf_v 4) (pf_ifExp (pft_cmp (of_eq hr.units) (pf_v 1) (pf_v 3) (nomark _)) pf_str pf_str) (by with_unfolding_all rfl)) (pzs_one (pz_ret ok (pf_tup (pfa_cons (pf_v 1) (pfa_cons (pf_v 3) (pfa_cons pf_str pfa_nil)))))) pzs_nil)))))
      (pzs_one (pz_ret ok pf_non)))
theorem ok_pair_error (T : Tx K mg a) : FnG P w K mg base CX0 1 a.f_pair_error a.d_pair_error ["rows"] (spF K 1 sem_pair_error) :=
  fn_z (k := 0) T.F_pair_error sc_pair_error rfl fun cdv A outer s H E O al hgd hr =>
    have nd := sc_pair_error.nd
    have ok := noDeck_ok al
    (pzs_cons (pz_for ok PassesOwn.never rfl (pif_enum (by rfl) T.z_enumerate (pf_v 0)) (pgf_tup rfl (pgsf_cons (i := 1) nd rfl (by first | exact Or.inl rfl | exact Or.inr rfl) (pgsf_cons (i := 2) nd rfl (by first | exact Or.inl rfl | exact Or.inr rfl) pgsf_nil))) (sets_tup [1, 2])
      (pzs_one (pz_for ok PassesOwn.never rfl (pif_range2 (by rfl) T.z_range (pf_op of_addA (pf_v 1) pf_int) (pf_callB cf_len (by rfl) T.z_len (by decide +kernel) (pfa_cons (pf_v 0) pfa_nil))) (pgf_name (i := 3) nd rfl (by first | exact Or.inl rfl | exact Or.inr rfl)) (sets_name 3)
      (pzs_one (pz_if ok (pft_cmp (of_eq hr.units) (pf_ix (pf_v 2) (pf_v 3)) (pf_ix (pf_ix (pf_v 0) (pf_v 3)) (pf_v 1)) (nomark _)) (pzs_one (pz_ret ok (pf_tup (pfa_cons (pf_v 1) (pfa_cons (pf_v 3) (pfa_cons pf_str pfa_nil)))))) pzs_nil)))))
      (pzs_one (pz_ret ok pf_non)))
theorem ok_outsiders (T : Tx K mg a) : FnG P w K mg base CX0 1 a.f_outsiders a.d_outsiders ["table", "members"] (spF K 2 sem_outsiders) :=
  fn_z (k := 0) T.F_outsiders sc_outsiders rfl fun cdv A outer s H E O al hgd hr =>
    have nd := sc_outsiders.nd
    have ok := noDeck_ok al
    (pzs_one (pz_ret ok (pf_callTy cf_tuple (by rfl) T.z_tuple (by decide +kernel) (pfa_cons (pfl_lc rfl nd (pif_range1 (by rfl) T.z_range (pf_callB cf_len (by rfl) T.z_len (by decide +kernel) (pfa_cons (pf_v 0) pfa_nil))) (blkOk_by (own := [("one", 2)]) (by rfl)) (fun _ _ _ _ _ => (pgf_name (i := 2) nd rfl (by first | exact Or.inl rfl | exact Or.inr rfl))) (fun _ _ _ _ _ => (ptsf_one (pft_cmp of_notIn (pf_v 2) (pf_v 1) (by with_unfolding_all rfl)))) (fun _ _ _ _ _ => (pf_v 2))).pf pfa_nil))))
theorem ok_pick_table (T : Tx K mg a) : FnG P w K mg base CX0 1 a.f_pick_table a.d_pick_table ["table", "picked"] (spF K 2 sem_pick_table) :=
  fn_z (k := 0) T.F_pick_table sc_pick_table rfl fun cdv A outer s H E O al hgd hr =>
    have nd := sc_pick_table.nd
    have ok := noDeck_ok al
    (pzs_one (pz_ret ok (pf_callTy cf_tuple (by rfl) T.z_tuple (by decide +kernel) (pfa_cons (pfl_lc rfl nd (pif_seq (pf_v 1)) (blkOk_by (own := [("i", 2)]) (by rfl)) (fun _ _ _ _ _ => (pgf_name (i := 2) nd rfl (by first | exact Or.inl rfl | exact Or.inr rfl))) (fun _ _ _ _ _ => ptsf_nil) (fun _ _ _ _ _ => (pf_join pf_str (pfl_lc rfl nd (pif_seq (pf_v 1)) (blkOk_by (own := [("j", 3)]) (by rfl)) (fun _ _ _ _ _ => (pgf_name (i := 3) nd rfl (by first | exact Or.inl rfl | exact Or.inr rfl))) (fun _ _ _ _ _ => ptsf_nil) (fun _ _ _ _ _ => (pf_ix (pf_ix (pf_v 0) (pf_v 2)) (pf_v 3)))).pf))).pf pfa_nil))))
theorem ok_turn_sign (T : Tx K mg a) : FnG P w K mg base CX0 1 a.f_turn_sign a.d_turn_sign ["row", "at"] (spF K 2 sem_turn_sign) :=
  fn_z (k := 0) T.F_turn_sign sc_turn_sign rfl fun cdv A outer s H E O al hgd hr =>
    have nd := sc_turn_sign.nd
    have ok := noDeck_ok al
    (pzs_one (pz_ret ok (pf_op of_addA (pf_op of_addA (pf_slice (pf_v 0) pfo_none (pfo_some (pf_v 1))) (pf_ifExp (pft_cmp (of_eq hr.units) (pf_ix (pf_v 0) (pf_v 1)) pf_str (nomark _)) pf_str pf_str)) (pf_slice (pf_v 0) (pfo_some (pf_op of_addA (pf_v 1) pf_int)) pfo_none))))
theorem ok__law_from (T : Tx K mg a) : FnG P w K mg base CX0 1 a.f__law_from a.d__law_from ["_law_thing", "_law_low", "_law_high"] (spF K 3 sem__law_from) :=
  fn_z (k := 0) T.F__law_from sc__law_from rfl fun cdv A outer s H E O al hgd hr =>
    have nd := sc__law_from.nd
    have ok := noDeck_ok al
    (pzs_one (pz_ret ok (pf_and (pf_isi (by rfl) T.z_isinstance kit_tInt (by rfl) T.z_int (by decide +kernel) (pf_v 0)) (pf_and (pf_not (pf_isi (by rfl) T.z_isinstance kit_tBool (by rfl) T.z_bool (by decide +kernel) (pf_v 0))) (pf_one (pf_chain of_le of_le (pf_v 1) (pf_v 0) (pf_v 2)))))))
theorem ok__law_equal (T : Tx K mg a) : FnG P w K mg base CX0 1 a.f__law_equal a.d__law_equal ["_law_one", "_law_other"] (spF K 2 sem__law_equal) :=
  fn_z (k := 0) T.F__law_equal sc__law_equal rfl fun cdv A outer s H E O al hgd hr =>
    have nd := sc__law_equal.nd
    have ok := noDeck_ok al
    (pzs_one (pz_ret ok (pf_cmp (of_eq hr.units) (pf_callB (cf_repr hgd hr.units) (by rfl) T.z_repr (by decide +kernel) (pfa_cons (pf_v 0) pfa_nil)) (pf_callB (cf_repr hgd hr.units) (by rfl) T.z_repr (by decide +kernel) (pfa_cons (pf_v 1) pfa_nil)) (nomark _))))
theorem ok__law_turned (T : Tx K mg a) : FnG P w K mg base CX0 1 a.f__law_turned a.d__law_turned ["_law_table_here", "_law_one", "_law_other"] (spF K 3 sem__law_turned) :=
  fn_z (k := 0) T.F__law_turned sc__law_turned rfl fun cdv A outer s H E O al hgd hr =>
    have nd := sc__law_turned.nd
    have ok := noDeck_ok al
    (pzs_cons (pz_of_rows (pd_rows (i := 3) ok rfl nd rfl rfl (sw_true rfl rfl rfl (by decide +kernel)) (pif_seq (pf_v 0)) (blkOk_by (own := [("_law_row", 4)]) (by rfl)) (fun _ _ _ _ _ => (pgf_name (i := 4) nd rfl (by first | exact Or.inl rfl | exact Or.inr rfl))) (fun _ _ _ _ _ => (pfl_listS rfl (by rfl) T.z_list (pf_v 4)))))
      (pzs_cons (pz_of_row2 (pd_row2T (i := 3) ok (pfa_cons (pf_ix (pf_ix (pf_v 0) (pf_v 2)) (pf_v 1)) (pfa_cons (pf_ix (pf_ix (pf_v 0) (pf_v 1)) (pf_v 2)) pfa_nil)) (pg_tup (n := 2) rfl (pgs_cons (pg_sub (pe_ix ix_list (pe_var (i := 3) rfl (by first | exact Or.inl rfl | exact Or.inr (Or.inl rfl) | exact Or.inr (Or.inr rfl))) (pf_v 1).pe (fun _ _ => rfl)) (pf_v 2).pe set_list) (pgs_cons (pg_sub (pe_ix ix_list (pe_var (i := 3) rfl (by first | exact Or.inl rfl | exact Or.inr (Or.inl rfl) | exact Or.inr (Or.inr rfl))) (pf_v 2).pe (fun _ _ => rfl)) (pf_v 1).pe set_list) pgs_nil)))))
      (pzs_freeze ok 3 (pzs_one (pz_ret ok (pf_callTy cf_tuple (by rfl) T.z_tuple (by decide +kernel) (pfa_cons (pfl_lc rfl nd (pif_seq (pf_v 3)) (blkOk_by (own := [("_law_row", 4)]) (by rfl)) (fun _ _ _ _ _ => (pgf_name (i := 4) nd rfl (by first | exact Or.inl rfl | exact Or.inr rfl))) (fun _ _ _ _ _ => ptsf_nil) (fun _ _ _ _ _ => (pf_join pf_str (pf_v 4)))).pf pfa_nil)))))))
theorem ok__law_grown (T : Tx K mg a) : FnG P w K mg base CX0 1 a.f__law_grown a.d__law_grown ["_law_table_here", "_law_wins_here"] (spF K 2 sem__law_grown) :=
  fn_z (k := 0) T.F__law_grown sc__law_grown rfl fun cdv A outer s H E O al hgd hr =>
    have nd := sc__law_grown.nd
    have ok := noDeck_ok al
    (pzs_cons (pz_of_set (pd_setLc (i := 2) ok rfl nd rfl rfl (sw_true rfl rfl rfl (by decide +kernel)) (pif_enum (by rfl) T.z_enumerate (pf_v 0)) (blkOk_by (own := [("_law_one", 3), ("_law_row", 4)]) (by rfl)) (fun _ _ _ _ _ => (pgf_tup rfl (pgsf_cons (i := 3) nd rfl (by first | exact Or.inl rfl | exact Or.inr rfl) (pgsf_cons (i := 4) nd rfl (by first | exact Or.inl rfl | exact Or.inr rfl) pgsf_nil)))) (fun _ _ _ _ _ => ptsf_nil) (fun _ _ _ _ _ => (pf_op of_addA (pf_v 4) (pf_ix pf_str (pf_callTy cf_int (by rfl) T.z_int (by decide +kernel) (pfa_cons (pf_cmp of_in (pf_v 3) (pf_v 1) (by with_unfolding_all rfl)) pfa_nil)))))))
      (pzs_one (pz_ret ok (pf_op of_addA (pf_callTy cf_tuple (by rfl) T.z_tuple (by decide +kernel) (pfa_cons (pf_v 2) pfa_nil)) (pf_tup (pfa_cons (pf_op of_addA (pf_join pf_str (pfl_lc rfl nd (pif_range1 (by rfl) T.z_range (pf_callB cf_len (by rfl) T.z_len (by decide +kernel) (pfa_cons (pf_v 0) pfa_nil))) (blkOk_by (own := [("_law_one", 3)]) (by rfl)) (fun _ _ _ _ _ => (pgf_name (i := 3) nd rfl (by first | exact Or.inl rfl | exact Or.inr rfl))) (fun _ _ _ _ _ => ptsf_nil) (fun _ _ _ _ _ => (pf_ix pf_str (pf_callTy cf_int (by rfl) T.z_int (by decide +kernel) (pfa_cons (pf_cmp of_in (pf_v 3) (pf_v 1) (by with_unfolding_all rfl)) pfa_nil))))).pf) pf_str) pfa_nil))))))
theorem ok__law_shrunk (T : Tx K mg a) : FnG P w K mg base CX0 1 a.f__law_shrunk a.d__law_shrunk ["_law_table_here", "_law_one"] (spF K 2 sem__law_shrunk) :=
  fn_z (k := 0) T.F__law_shrunk sc__law_shrunk rfl fun cdv A outer s H E O al hgd hr =>
    have nd := sc__law_shrunk.nd
    have ok := noDeck_ok al
    (pzs_cons (pz_of_set (pd_setLc (i := 2) ok rfl nd rfl rfl (sw_true rfl rfl rfl (by decide +kernel)) (pif_seq (pf_v 0)) (blkOk_by (own := [("_law_row", 3)]) (by rfl)) (fun _ _ _ _ _ => (pgf_name (i := 3) nd rfl (by first | exact Or.inl rfl | exact Or.inr rfl))) (fun _ _ _ _ _ => ptsf_nil) (fun _ _ _ _ _ => (pf_op of_addA (pf_slice (pf_v 3) pfo_none (pfo_some (pf_v 1))) (pf_slice (pf_v 3) (pfo_some (pf_op of_addA (pf_v 1) pf_int)) pfo_none)))))
      (pzs_one (pz_ret ok (pf_callTy cf_tuple (by rfl) T.z_tuple (by decide +kernel) (pfa_cons (pf_op of_addA (pf_slice (pf_v 2) pfo_none (pfo_some (pf_v 1))) (pf_slice (pf_v 2) (pfo_some (pf_op of_addA (pf_v 1) pf_int)) pfo_none)) pfa_nil)))))
theorem ok__law_text (T : Tx K mg a) : FnG P w K mg base CX0 1 a.f__law_text a.d__law_text ["_law_table_here", "_law_many"] (spF K 2 sem__law_text) :=
  fn_z (k := 0) T.F__law_text sc__law_text rfl fun cdv A outer s H E O al hgd hr =>
    have nd := sc__law_text.nd
    have ok := noDeck_ok al
    (pzs_one (pz_ret ok (pf_op of_addA (pf_op of_addA (pf_op of_addA (pf_callTy cf_str (by rfl) T.z_str (by decide +kernel) (pfa_cons (pf_callB cf_len (by rfl) T.z_len (by decide +kernel) (pfa_cons (pf_v 0) pfa_nil)) pfa_nil)) pf_str) (pf_callTy cf_str (by rfl) T.z_str (by decide +kernel) (pfa_cons (pf_v 1) pfa_nil))) pf_str)))
theorem ok_is_alternative (T : Tx K mg a) : FnG P w K mg base CX0 2 a.f_is_alternative a.d_is_alternative ["table", "value"] (spF K 2 sem_is_alternative) :=
  fn_z (k := 1) T.F_is_alternative sc_is_alternative rfl fun cdv A outer s H E O al hgd hr =>
    have nd := sc_is_alternative.nd
    have ok := noDeck_ok al
    (pzs_one (pz_ret ok (pf_and (pf_call ((ok_is_integer T).up (by first | decide | omega)) hgd hr (by rfl) T.g_is_integer T.F_is_integer.kp T.b_is_integer pass0 (pfa_cons (pf_v 1) pfa_nil)) (pf_one (pf_chain of_le of_lt pf_int (pf_v 1) (pf_callB cf_len (by rfl) T.z_len (by decide +kernel) (pfa_cons (pf_v 0) pfa_nil)))))))
theorem ok_table_error (T : Tx K mg a) : FnG P w K mg base CX0 2 a.f_table_error a.d_table_error ["value"] (spF K 1 sem_table_error) :=
  fn_z (k := 1) T.F_table_error sc_table_error rfl fun cdv A outer s H E O al hgd hr =>
    have nd := sc_table_error.nd
    have ok := noDeck_ok al
    (pzs_cons (pz_if ok (pfw_or (pft_not (pft_val (pf_isi (by rfl) T.z_isinstance kit_tTuple (by rfl) T.z_tuple (by decide +kernel) (pf_v 0)))) (pfw_or1 (pft_not (pft_chain of_le of_le pf_int (pf_callB cf_len (by rfl) T.z_len (by decide +kernel) (pfa_cons (pf_v 0) pfa_nil)) (pf_glob (v := .int (9)) (by rfl) T.c_MAX_SIZE.choose_spec ⟨_, rfl⟩ (fun _ _ => .int _)))))).pft (pzs_one (pz_ret ok (pf_tup (pfa_cons pf_non (pfa_cons pf_non (pfa_cons pf_str pfa_nil)))))) pzs_nil)
      (pzs_cons (pz_of_set (pd_set (i := 1) ok nd rfl (by first | exact Or.inl rfl | exact Or.inr rfl) (pf_call ((ok_row_error T).up (by first | decide | omega)) hgd hr (by rfl) T.g_row_error T.F_row_error.kp T.b_row_error pass0 (pfa_cons (pf_v 0) pfa_nil))))
      (pzs_cons (pz_if ok (pft_cmp of_isN (pf_v 1) pf_non (nomark _)) (pzs_one (pz_of_set (pd_set (i := 1) ok nd rfl (by first | exact Or.inl rfl | exact Or.inr rfl) (pf_call ((ok_sign_error T).up (by first | decide | omega)) hgd hr (by rfl) T.g_sign_error T.F_sign_error.kp T.b_sign_error pass0 (pfa_cons (pf_v 0) pfa_nil))))) pzs_nil)
      (pzs_cons (pz_if ok (pft_cmp of_isN (pf_v 1) pf_non (nomark _)) (pzs_one (pz_of_set (pd_set (i := 1) ok nd rfl (by first | exact Or.inl rfl | exact Or.inr rfl) (pf_call ((ok_pair_error T).up (by first | decide | omega)) hgd hr (by rfl) T.g_pair_error T.F_pair_error.kp T.b_pair_error pass0 (pfa_cons (pf_v 0) pfa_nil))))) pzs_nil)
      (pzs_one (pz_ret ok (pf_v 1)))))))
theorem ok__law_is_set (T : Tx K mg a) : FnG P w K mg base CX0 2 a.f__law_is_set a.d__law_is_set ["_law_size", "_law_value"] (spF K 2 sem__law_is_set) :=
  fn_z (k := 1) T.F__law_is_set sc__law_is_set rfl fun cdv A outer s H E O al hgd hr =>
    have nd := sc__law_is_set.nd
    have ok := noDeck_ok al
    (pzs_cons (pz_if ok (pfw_or (pft_not (pft_val (pf_isi (by rfl) T.z_isinstance kit_tTuple (by rfl) T.z_tuple (by decide +kernel) (pf_v 1)))) (pfw_or1 (pft_cmp (of_ne hr.units) (pfl_lc rfl nd (pif_seq (pf_v 1)) (blkOk_by (own := [("_law_one", 2)]) (by rfl)) (fun _ _ _ _ _ => (pgf_name (i := 2) nd rfl (by first | exact Or.inl rfl | exact Or.inr rfl))) (fun _ _ _ _ _ => (ptsf_one (pft_not (pft_val (pf_call ((ok__law_from T).up (by first | decide | omega)) hgd hr (by rfl) T.g__law_from T.F__law_from.kp T.b__law_from pass0 (pfa_cons (pf_v 2) (pfa_cons pf_int (pfa_cons (pf_op of_sub (pf_v 0) pf_int) pfa_nil)))))))) (fun _ _ _ _ _ => (pf_v 2))).pf (pfl_lst pfa_nil).pf (nomark _)))).pft (pzs_one (pz_ret ok pf_bl)) pzs_nil)
      (pzs_one (pz_ret ok (pf_cmp (of_eq hr.units) (pf_callTy cf_list (by rfl) T.z_list (by decide +kernel) (pfa_cons (pf_v 1) pfa_nil)) (pf_srtSet rfl (by rfl) T.z_sorted (by rfl) T.z_set (pf_v 1)) (nomark _)))))
theorem ok__law_due_seen (T : Tx K mg a) : FnG P w K mg base CX0 2 a.f__law_due_seen a.d__law_due_seen ["_law_table_here", "_law_done"] (spF K 2 sem__law_due_seen) :=
  fn_z (k := 1) T.F__law_due_seen sc__law_due_seen rfl fun cdv A outer s H E O al hgd hr =>
    have nd := sc__law_due_seen.nd
    have ok := noDeck_ok al
    (pzs_one (pz_ret ok (pf_tup (pfa_cons (pf_v 0) (pfa_cons (pf_v 1) (pfa_cons (pf_callB cf_len (by rfl) T.z_len (by decide +kernel) (pfa_cons (pf_v 1) pfa_nil)) (pfa_cons (pf_call ((ok__law_text T).up (by first | decide | omega)) hgd hr (by rfl) T.g__law_text T.F__law_text.kp T.b__law_text pass0 (pfa_cons (pf_v 0) (pfa_cons (pf_callB cf_len (by rfl) T.z_len (by decide +kernel) (pfa_cons (pf_v 1) pfa_nil)) pfa_nil))) (pfa_cons (pf_callB cf_len (by rfl) T.z_len (by decide +kernel) (pfa_cons (pf_v 1) pfa_nil)) (pfa_cons (pf_callB cf_len (by rfl) T.z_len (by decide +kernel) (pfa_cons (pf_v 0) pfa_nil)) pfa_nil)))))))))
theorem ok_is_set (T : Tx K mg a) : FnG P w K mg base CX0 3 a.f_is_set a.d_is_set ["table", "value"] (spF K 2 sem_is_set) :=
  fn_z (k := 2) T.F_is_set sc_is_set rfl fun cdv A outer s H E O al hgd hr =>
    have nd := sc_is_set.nd
    have ok := noDeck_ok al
    (pzs_cons (pz_if ok (pft_not (pft_val (pf_isi (by rfl) T.z_isinstance kit_tTuple (by rfl) T.z_tuple (by decide +kernel) (pf_v 1)))) (pzs_one (pz_ret ok pf_bl)) pzs_nil)
      (pzs_cons (pz_of_set (pd_set (i := 2) ok nd rfl (by first | exact Or.inl rfl | exact Or.inr rfl) pf_int))
      (pzs_cons (pz_for ok PassesOwn.never rfl (pif_seq (pf_v 1)) (pgf_name (i := 3) nd rfl (by first | exact Or.inl rfl | exact Or.inr rfl)) (sets_name 3)
      (pzs_cons (pz_if ok (pfw_or (pft_not (pft_val (pf_call ((ok_is_alternative T).up (by first | decide | omega)) hgd hr (by rfl) T.g_is_alternative T.F_is_alternative.kp T.b_is_alternative pass0 (pfa_cons (pf_v 0) (pfa_cons (pf_v 3) pfa_nil))))) (pfw_or1 (pft_cmp of_lt (pf_v 3) (pf_v 2) (nomark _)))).pft (pzs_one (pz_ret ok pf_bl)) pzs_nil)
      (pzs_one (pz_of_set (pd_set (i := 2) ok nd rfl (by first | exact Or.inl rfl | exact Or.inr rfl) (pf_op of_addA (pf_v 3) pf_int))))))
      (pzs_one (pz_ret ok pf_bl)))))
theorem okx_require_alternative (T : Tx K mg a) : FnG P w K mg base (L2.CX P w) 3 a.f_require_alternative a.d_require_alternative ["table", "value"] (spX K mg 2 semx_require_alternative) :=
  fn_zX (k := 2) T.F_require_alternative sc_require_alternative rfl fun cdv A outer s H E O W al hgd hr tk =>
    have nd := sc_require_alternative.nd
    have ok := noDeck_ok al
    (pzsx_one (pzx_if ok (pft_not (pft_val (pf_call ((ok_is_alternative T).up (by first | decide | omega)) hgd hr (by rfl) T.g_is_alternative T.F_is_alternative.kp T.b_is_alternative pass0 (pfa_cons (pf_v 0) (pfa_cons (pf_v 1) pfa_nil))))) (pzsx_one (pzx_raise ok rfl tk T.O_NoAlternative T.G_NoAlternative hr (pf_v 1) (by rfl))) (pzsx_of pzs_nil)))
theorem ok__law_due (T : Tx K mg a) : FnG P w K mg base CX0 3 a.f__law_due a.d__law_due ["_law_table_here", "_law_edit"] (spF K 2 sem__law_due) :=
  fn_z (k := 2) T.F__law_due sc__law_due rfl fun cdv A outer s H E O al hgd hr =>
    have nd := sc__law_due.nd
    have ok := noDeck_ok al
    (pzs_cons (pz_of_par (pd_par (i := 2) (j := 3) ok rfl nd rfl rfl (by decide) rfl rfl (pfa_cons (pf_callB cf_len (by rfl) T.z_len (by decide +kernel) (pfa_cons (pf_v 0) pfa_nil)) (pfa_cons (pf_ix (pf_v 1) pf_int) pfa_nil)) (by rfl)))
      (pzs_cons (pz_if ok (pft_cmp (of_eq hr.units) (pf_ix (pf_v 1) pf_int) pf_str (nomark _)) (pzs_cons (pz_if ok (pft_not (pft_val (pf_call ((ok__law_is_set T).up (by first | decide | omega)) hgd hr (by rfl) T.g__law_is_set T.F__law_is_set.kp T.b__law_is_set pass0 (pfa_cons (pf_v 2) (pfa_cons (pf_v 3) pfa_nil))))) (pzs_one (pz_ret ok (pf_tup (pfa_cons pf_str (pfa_cons (pf_v 3) pfa_nil))))) pzs_nil)
      (pzs_one (pz_ret ok (pf_ix (pfl_lst (pfa_cons (pf_tup (pfa_cons pf_str (pfa_cons (pf_call ((ok__law_grown T).up (by first | decide | omega)) hgd hr (by rfl) T.g__law_grown T.F__law_grown.kp T.b__law_grown pass0 (pfa_cons (pf_v 0) (pfa_cons (pf_v 3) pfa_nil))) pfa_nil))) (pfa_cons (pf_tup (pfa_cons pf_str (pfa_cons pf_int pfa_nil))) pfa_nil))).pf (pf_callTy cf_int (by rfl) T.z_int (by decide +kernel) (pfa_cons (pf_cmp of_gt (pf_v 2) pf_int (nomark _)) pfa_nil)))))) pzs_nil)
      (pzs_cons (pz_if ok (pft_not (pft_val (pf_call ((ok__law_from T).up (by first | decide | omega)) hgd hr (by rfl) T.g__law_from T.F__law_from.kp T.b__law_from pass0 (pfa_cons (pf_v 3) (pfa_cons pf_int (pfa_cons (pf_op of_sub (pf_v 2) pf_int) pfa_nil)))))) (pzs_one (pz_ret ok (pf_tup (pfa_cons pf_str (pfa_cons (pf_v 3) pfa_nil))))) pzs_nil)
      (pzs_cons (pz_if ok (pft_cmp (of_eq hr.units) (pf_ix (pf_v 1) pf_int) pf_str (nomark _)) (pzs_one (pz_ret ok (pf_ix (pfl_lst (pfa_cons (pf_tup (pfa_cons pf_str (pfa_cons (pf_call ((ok__law_shrunk T).up (by first | decide | omega)) hgd hr (by rfl) T.g__law_shrunk T.F__law_shrunk.kp T.b__law_shrunk pass0 (pfa_cons (pf_v 0) (pfa_cons (pf_v 3) pfa_nil))) pfa_nil))) (pfa_cons (pf_tup (pfa_cons pf_str pfa_nil)) pfa_nil))).pf (pf_callTy cf_int (by rfl) T.z_int (by decide +kernel) (pfa_cons (pf_cmp (of_eq hr.units) (pf_v 2) pf_int (nomark _)) pfa_nil))))) pzs_nil)
      (pzs_cons (pz_if ok (pft_not (pft_val (pf_call ((ok__law_from T).up (by first | decide | omega)) hgd hr (by rfl) T.g__law_from T.F__law_from.kp T.b__law_from pass0 (pfa_cons (pf_ix (pf_v 1) pf_int) (pfa_cons pf_int (pfa_cons (pf_op of_sub (pf_v 2) pf_int) pfa_nil)))))) (pzs_one (pz_ret ok (pf_tup (pfa_cons pf_str (pfa_cons (pf_ix (pf_v 1) pf_int) pfa_nil))))) pzs_nil)
      (pzs_one (pz_ret ok (pf_ix (pfl_lst (pfa_cons (pf_tup (pfa_cons pf_str (pfa_cons (pf_call ((ok__law_turned T).up (by first | decide | omega)) hgd hr (by rfl) T.g__law_turned T.F__law_turned.kp T.b__law_turned pass0 (pfa_cons (pf_v 0) (pfa_cons (pf_v 3) (pfa_cons (pf_ix (pf_v 1) pf_int) pfa_nil)))) pfa_nil))) (pfa_cons (pf_tup (pfa_cons pf_str (pfa_cons (pf_v 3) pfa_nil))) pfa_nil))).pf (pf_callTy cf_int (by rfl) T.z_int (by decide +kernel) (pfa_cons (pf_cmp (of_eq hr.units) (pf_v 3) (pf_ix (pf_v 1) pf_int) (nomark _)) pfa_nil))))))))))
theorem okx_turn_duel (T : Tx K mg a) : FnG P w K mg base (L2.CX P w) 4 a.f_turn_duel a.d_turn_duel ["table", "one", "other"] (spX K mg 3 semx_turn_duel) :=
  fn_zX (k := 3) T.F_turn_duel sc_turn_duel rfl fun cdv A outer s H E O W al hgd hr tk =>
    have nd := sc_turn_duel.nd
    have ok := noDeck_ok al
    (pzsx_cons (pzx_expr ok (pfx_call tk ((okx_require_alternative T).up (by first | decide | omega)) hgd hr (by rfl) T.g_require_alternative T.F_require_alternative.kp T.b_require_alternative (pfa_cons (pf_v 0) (pfa_cons (pf_v 1) pfa_nil))))
      (pzsx_cons (pzx_expr ok (pfx_call tk ((okx_require_alternative T).up (by first | decide | omega)) hgd hr (by rfl) T.g_require_alternative T.F_require_alternative.kp T.b_require_alternative (pfa_cons (pf_v 0) (pfa_cons (pf_v 2) pfa_nil))))
      (pzsx_cons (pzx_if ok (pft_cmp (of_eq hr.units) (pf_v 1) (pf_v 2) (nomark _)) (pzsx_one (pzx_raise ok rfl tk T.O_SameAlternative T.G_SameAlternative hr (pf_v 1) (by rfl))) (pzsx_of pzs_nil))
      (pzsx_of (pzs_cons (pz_of_own (pd_own (i := 3) ok nd rfl (by first | exact Or.inl rfl | exact Or.inr rfl) (pfl_list (by rfl) T.z_list (pf_v 0))))
      (pzs_cons (pz_of_putO (pd_lset ok 3 (pf_v 1) (pf_call ((ok_turn_sign T).up (by first | decide | omega)) hgd hr (by rfl) T.g_turn_sign T.F_turn_sign.kp T.b_turn_sign pass0 (pfa_cons (pf_ixO 3 (pf_v 1)) (pfa_cons (pf_v 2) pfa_nil)))))
      (pzs_cons (pz_of_putO (pd_lset ok 3 (pf_v 2) (pf_call ((ok_turn_sign T).up (by first | decide | omega)) hgd hr (by rfl) T.g_turn_sign T.F_turn_sign.kp T.b_turn_sign pass0 (pfa_cons (pf_ixO 3 (pf_v 2)) (pfa_cons (pf_v 1) pfa_nil)))))
      (pzs_freeze ok 3 (pzs_one (pz_ret ok (pf_callTy cf_tuple (by rfl) T.z_tuple (by decide +kernel) (pfa_cons (pf_v 3) pfa_nil))))))))))))
theorem okx_with_another (T : Tx K mg a) : FnG P w K mg base (L2.CX P w) 4 a.f_with_another a.d_with_another ["table", "wins"] (spX K mg 2 semx_with_another) :=
  fn_zX (k := 3) T.F_with_another sc_with_another rfl fun cdv A outer s H E O W al hgd hr tk =>
    have nd := sc_with_another.nd
    have ok := noDeck_ok al
    (pzsx_cons (pzx_if ok (pft_not (pft_val (pf_call ((ok_is_set T).up (by first | decide | omega)) hgd hr (by rfl) T.g_is_set T.F_is_set.kp T.b_is_set pass0 (pfa_cons (pf_v 0) (pfa_cons (pf_v 1) pfa_nil))))) (pzsx_one (pzx_raise ok rfl tk T.O_NoSet T.G_NoSet hr (pf_v 1) (by rfl))) (pzsx_of pzs_nil))
      (pzsx_cons (pzx_if ok (pft_cmp of_ge (pf_callB cf_len (by rfl) T.z_len (by decide +kernel) (pfa_cons (pf_v 0) pfa_nil)) (pf_glob (v := .int (9)) (by rfl) T.c_MAX_SIZE.choose_spec ⟨_, rfl⟩ (fun _ _ => .int _)) (nomark _)) (pzsx_one (pzx_raise_limit ok rfl tk T.O_TooLarge T.G_TooLarge hr (pf_glob (v := .int (9)) (by rfl) T.c_MAX_SIZE.choose_spec ⟨_, rfl⟩ (fun _ _ => .int _)) (by rfl))) (pzsx_of pzs_nil))
      (pzsx_of (pzs_cons (pz_of_own (pd_ownLc (i := 2) ok rfl nd rfl rfl (sw_true rfl rfl rfl (by decide +kernel)) (pif_enum (by rfl) T.z_enumerate (pf_v 0)) (blkOk_by (own := [("one", 3), ("row", 4)]) (by rfl)) (fun _ _ _ _ _ => (pgf_tup rfl (pgsf_cons (i := 3) nd rfl (by first | exact Or.inl rfl | exact Or.inr rfl) (pgsf_cons (i := 4) nd rfl (by first | exact Or.inl rfl | exact Or.inr rfl) pgsf_nil)))) (fun _ _ _ _ _ => ptsf_nil) (fun _ _ _ _ _ => (pf_op of_addA (pf_v 4) (pf_ifExp (pft_cmp of_in (pf_v 3) (pf_v 1) (by with_unfolding_all rfl)) pf_str pf_str)))))
      (pzs_cons (pz_of_app (pd_append (i := 2) ok rfl (by first | exact Or.inl rfl | exact Or.inr (Or.inl rfl) | exact Or.inr (Or.inr rfl)) (pf_op of_addA (pf_join pf_str (pfl_lc rfl nd (pif_range1 (by rfl) T.z_range (pf_callB cf_len (by rfl) T.z_len (by decide +kernel) (pfa_cons (pf_v 0) pfa_nil))) (blkOk_by (own := [("one", 3)]) (by rfl)) (fun _ _ _ _ _ => (pgf_name (i := 3) nd rfl (by first | exact Or.inl rfl | exact Or.inr rfl))) (fun _ _ _ _ _ => ptsf_nil) (fun _ _ _ _ _ => (pf_ifExp (pft_cmp of_in (pf_v 3) (pf_v 1) (by with_unfolding_all rfl)) pf_str pf_str))).pf) pf_str)))
      (pzs_freeze ok 2 (pzs_one (pz_ret ok (pf_callTy cf_tuple (by rfl) T.z_tuple (by decide +kernel) (pfa_cons (pf_v 2) pfa_nil))))))))))
theorem okx_without_one (T : Tx K mg a) : FnG P w K mg base (L2.CX P w) 4 a.f_without_one a.d_without_one ["table", "one"] (spX K mg 2 semx_without_one) :=
  fn_zX (k := 3) T.F_without_one sc_without_one rfl fun cdv A outer s H E O W al hgd hr tk =>
    have nd := sc_without_one.nd
    have ok := noDeck_ok al
    (pzsx_cons (pzx_expr ok (pfx_call tk ((okx_require_alternative T).up (by first | decide | omega)) hgd hr (by rfl) T.g_require_alternative T.F_require_alternative.kp T.b_require_alternative (pfa_cons (pf_v 0) (pfa_cons (pf_v 1) pfa_nil))))
      (pzsx_cons (pzx_if ok (pft_cmp (of_eq hr.units) (pf_callB cf_len (by rfl) T.z_len (by decide +kernel) (pfa_cons (pf_v 0) pfa_nil)) pf_int (nomark _)) (pzsx_one (pzx_raise0 ok rfl tk T.R_LastOne T.G_LastOne hr (by rfl))) (pzsx_of pzs_nil))
      (pzsx_of (pzs_one (pz_ret ok (pf_call ((ok_pick_table T).up (by first | decide | omega)) hgd hr (by rfl) T.g_pick_table T.F_pick_table.kp T.b_pick_table pass0 (pfa_cons (pf_v 0) (pfa_cons (pf_call ((ok_outsiders T).up (by first | decide | omega)) hgd hr (by rfl) T.g_outsiders T.F_outsiders.kp T.b_outsiders pass0 (pfa_cons (pf_v 0) (pfa_cons (pf_tup (pfa_cons (pf_v 1) pfa_nil)) pfa_nil))) pfa_nil))))))))
theorem okx_edited_table (T : Tx K mg a) : FnG P w K mg base (L2.CX P w) 5 a.f_edited_table a.d_edited_table ["table", "edit"] (spX K mg 2 semx_edited_table) :=
  fn_zX (k := 4) T.F_edited_table sc_edited_table rfl fun cdv A outer s H E O W al hgd hr tk =>
    have nd := sc_edited_table.nd
    have ok := noDeck_ok al
    (pzsx_cons (pzx_if ok (pft_cmp (of_eq hr.units) (pf_ix (pf_v 1) pf_int) pf_str (nomark _)) (pzsx_one (pzx_ret ok (pfx_call tk ((okx_turn_duel T).up (by first | decide | omega)) hgd hr (by rfl) T.g_turn_duel T.F_turn_duel.kp T.b_turn_duel (pfa_cons (pf_v 0) (pfa_cons (pf_ix (pf_v 1) pf_int) (pfa_cons (pf_ix (pf_v 1) pf_int) pfa_nil)))))) (pzsx_of pzs_nil))
      (pzsx_cons (pzx_if ok (pft_cmp (of_eq hr.units) (pf_ix (pf_v 1) pf_int) pf_str (nomark _)) (pzsx_one (pzx_ret ok (pfx_call tk ((okx_with_another T).up (by first | decide | omega)) hgd hr (by rfl) T.g_with_another T.F_with_another.kp T.b_with_another (pfa_cons (pf_v 0) (pfa_cons (pf_ix (pf_v 1) pf_int) pfa_nil))))) (pzsx_of pzs_nil))
      (pzsx_one (pzx_ret ok (pfx_call tk ((okx_without_one T).up (by first | decide | omega)) hgd hr (by rfl) T.g_without_one T.F_without_one.kp T.b_without_one (pfa_cons (pf_v 0) (pfa_cons (pf_ix (pf_v 1) pf_int) pfa_nil)))))))
end
end DS
set_option maxHeartbeats 4000000
namespace DS
open PySem PySem.Spec PyProof.Rows L2
section
variable {P : Program} {w : World} {K : PySem.W.Frag} {mg : Str → Option Value} {base : Heap} {a : Ad}
def spTk (B : Nat) : Sp := fun vs H Q _ => ∃ (a : Addr) (n : Nat) (m : Int) (o : HO), vs = [.ref a, .int m] ∧ H a = some o ∧ StmOk o n ∧ n < B ∧ 0 < m ∧ m < 1000000000 ∧
  ∀ (H' : Hp) (k : Int) (o' : HO), 0 ≤ k → k < m → H' a = some o' → StmOk o' (n + 1) → (∀ b x, H b = some x → b ≠ a → H' b = some x) → Q (.int k) H'
theorem tk_of {B : Nat} {P : Program} {w : World} {K : PySem.W.Frag} {mg : Str → Option Value} {base : Heap} {k : Nat} {f : Addr} {fd : FuncData} {ps : List Str} (F : FnOk P w K mg base CX0 k f fd ps (spTk B)) : FnG P w K mg base CX0 k f fd ps (spD famS K 1 (wDrG B)) :=
  FnG.of (F.imp fun vs H Q E ⟨dv, M, Dk, us, O, ds, n, e1, ⟨a, e2, e3, e4⟩, dk, al, mo, dx, hl, m, e5, h1, h2, h3, q⟩ => by
    subst e1 e2 e3 e4 e5
    obtain ⟨o, ho, so⟩ := dk
    cases dx with
    | cons x1 x2 =>
      cases x1
      cases x2
      refine ⟨a, n, m, o, rfl, ho, so, h3, h1, h2, fun H' k o' g1 g2 g3 g4 g5 => q k g1 g2 _ H' (fun b x e nm => g5 b x e nm) ⟨o', g3, g4⟩ (fun b z => ?_) (.int _)⟩
      by_cases e1 : b = a
      · rw [e1, g3]
        exact fun w => nomatch w
      · cases e : H b with
        | none => exact absurd e (al b z)
        | some o2 =>
          rw [g5 b o2 e e1]
          exact fun w => nomatch w)
theorem ok0__law_take (T : Tx K mg a) : FnOk P w K mg base CX0 1 a.f__law_take a.d__law_take ["_law_stream_here", "_law_many"] (spTk (2 ^ 20)) := by
  refine T.F__law_take.ok (k := 0) sc__law_take (fun vs H Q E h => ?_) (fun cdv A outer s H vs Q E hr h => ?_)
  · obtain ⟨d, n, m, o, rfl, _⟩ := h
    rfl
  · obtain ⟨d, n, m, o, rfl, hd0, ⟨i, j, k, rfl, hi, hj, hj2, hk⟩, hn, m0, m1, q⟩ := h
    have nd := sc__law_take.nd
    refine ⟨_, pss_cons (ps_if (pt_cmpR op_gt (pe_ix ix_list (pv 0) pe_int (fun _ _ => rfl)) pe_int (nomark _))
        (pss_cons (ps_set (i := 2) nd rfl (.inl rfl) (pe_op op_mod (pe_ix ix_list (pv 0) pe_int (fun _ _ => rfl)) (pv 1)))
        (pss_cons (ps_asg (pe_op op_fdiv (pe_ix ix_list (pv 0) pe_int (fun _ _ => rfl)) (pv 1)) (pg_sub (pv 0) pe_int set_list))
        (pss_one (ps_ret (pv 2))))) pss_nil)
      (pss_cons (ps_asg (pe_op op_add (pe_ix ix_list (pv 0) pe_int (fun _ _ => rfl)) pe_int) (pg_sub (pv 0) pe_int set_list))
      (pss_cons (ps_par (i := 3) (j := 4) (by rfl) nd rfl rfl (by decide) rfl rfl (pa_cons (pe_op op_mod (pe_ix ix_list (pv 0) pe_int (fun _ _ => rfl)) pe_int) (pa_cons (pe_op op_fdivW (pe_ix ix_list (pv 0) pe_int (fun _ _ => rfl)) pe_int) pa_nil)) (by rfl))
      (pss_cons (ps_set (i := 5) nd rfl (.inl rfl) (pe_ix ix_list (pv 0) pe_int (fun _ _ => rfl)))
      (pss_cons (ps_set (i := 6) nd rfl (.inl rfl) (pe_op op_add (pe_op op_mul (pv 3) (pe_op op_add pe_int (pe_op op_mul pe_int (pv 5)))) (pe_op op_mul (pv 4) pe_int)))
      (pss_cons (ps_set (i := 6) nd rfl (.inl rfl) (pe_op op_mod (pe_op op_add (pv 6) (pe_op op_mul (pe_op op_mul (pv 5) (pv 5)) pe_int)) pe_int))
      (pss_cons (ps_set (i := 6) nd rfl (.inl rfl) (pe_op op_mod (pe_op op_mul (pe_op op_mod (pe_op op_mul (pv 6) (pv 6)) pe_int) (pe_op op_add (pv 6) pe_int)) pe_int))
      (pss_one (ps_ret (pe_op op_mod (pe_op op_fdiv (pe_op op_add (pe_op op_mul (pv 6) pe_int) (pe_op op_mod (pe_op op_mul (pv 6) (pv 6)) pe_int)) pe_int) (pv 1)))))))))), ?_⟩
    have seq : ∀ {H1 : Hp} {i j k : V}, H1 d = some (.lst [i, j, k]) → SqL K H1 d [i, j, k] := fun h => .inl (.inl h)
    refine ⟨.ref d, rfl, d, _, _, _, rfl, rfl, seq hd0, (show atI [V.int i, V.int j, V.int k] 0 = some (.int i) from rfl), _, _, rfl, rfl, _, rfl, ite2 (fun h => ?_) (fun h => ?_)⟩
    · refine ⟨.ref d, rfl, d, _, _, _, rfl, rfl, seq hd0, (show atI [V.int i, V.int j, V.int k] 0 = some (.int i) from rfl), .int m, rfl, _, _, rfl, rfl, m0, ?_⟩
      refine ⟨.ref d, rfl, d, _, _, _, rfl, rfl, seq hd0, (show atI [V.int i, V.int j, V.int k] 0 = some (.int i) from rfl), .int m, rfl, _, _, rfl, rfl, ⟨m0, by omega⟩, ?_⟩
      refine ⟨.ref d, rfl, d, _, _, 0, rfl, rfl, hd0, rfl, ?_⟩
      refine ⟨_, rfl, q _ _ _ (Int.emod_nonneg _ (by omega)) (Int.emod_lt_of_pos _ m0) upd_same ⟨i / m, j, k, rfl, Int.ediv_nonneg hi (by omega), hj, hj2, by omega⟩ fun b x e nb => ?_⟩
      rw [upd_ne nb]
      exact e
    · refine ⟨.ref d, rfl, d, _, _, _, rfl, rfl, seq hd0, (show atI [V.int i, V.int j, V.int k] 2 = some (.int k) from rfl), _, _, rfl, rfl, .ref d, rfl, d, _, _, 2, rfl, rfl, hd0, rfl, ?_⟩
      show tSeq _ _ _ _ (upd H d (.lst [.int i, .int j, .int ((k : Int) + 1)]))
      have hd1 : (upd H d (.lst [.int i, .int j, .int ((k : Int) + 1)])) d = some (.lst [.int i, .int j, .int ((k + 1 : Nat) : Int)]) := upd_same
      have fr1 : ∀ b x, H b = some x → b ≠ d → (upd H d (.lst [.int i, .int j, .int ((k : Int) + 1)])) b = some x := fun b x e nb => by
        rw [upd_ne nb]
        exact e
      generalize upd H d (.lst [.int i, .int j, .int ((k : Int) + 1)]) = H1 at hd1 fr1 ⊢
      have g1 : atI [V.int i, V.int j, V.int ((k + 1 : Nat) : Int)] 1 = some (.int j) := rfl
      have g2 : atI [V.int i, V.int j, V.int ((k + 1 : Nat) : Int)] 2 = some (.int ((k + 1 : Nat) : Int)) := rfl
      have hk20 : k + 1 ≤ 2 ^ 20 := by omega
      have hkn : k + 1 ≤ n + 1 := by omega
      generalize (k + 1 : Nat) = t at hd1 g1 g2 hk20 hkn ⊢
      have lo : 0 ≤ j % 2147483647 ∧ j % 2147483647 < 2147483647 := ⟨Int.emod_nonneg _ (by decide), Int.emod_lt_of_pos _ (by decide)⟩
      have hi2 : 0 ≤ j / 2147483647 ∧ j / 2147483647 < 2147483647 := ⟨Int.ediv_nonneg hj (by decide), by omega⟩
      refine ⟨.ref d, rfl, d, _, _, _, rfl, rfl, seq hd1, g1, _, _, rfl, rfl, (show (0 : Int) < 2147483647 by decide), .ref d, rfl, d, _, _, _, rfl, rfl, seq hd1, g1, _, _, rfl, rfl, wide_div (show (0 : Int) < 2147483647 by decide) (b := 31) (by decide) (by decide) (by decide), _, _, rfl, ?_⟩
      refine ⟨.ref d, rfl, d, _, _, _, rfl, rfl, seq hd1, g2, ?_⟩
      dsimp only
      generalize j % 2147483647 = lw at lo ⊢
      generalize j / 2147483647 = hg at hi2 ⊢
      have t2 : (t : Int) ≤ 1048576 := by omega
      have tt0 : (0 : Int) ≤ (t : Int) * t := Int.mul_nonneg (by omega) (by omega)
      have tt : (t : Int) * t ≤ 1048576 * 1048576 := Int.mul_le_mul t2 t2 (by omega) (by omega)
      refine ⟨.int lw, rfl, .int t, rfl, _, _, rfl, rfl, .inl ⟨by decide, by decide⟩, _, _, rfl, rfl, _, _, rfl, rfl, .inl ⟨by omega, by omega⟩, .int hg, rfl, _, _, rfl, rfl, .inl ⟨by omega, by omega⟩, _, _, rfl, rfl, ?_⟩
      dsimp only
      generalize lw * (48271 + 16807 * (t : Int)) + hg * 69621 = mx
      refine ⟨.int mx, rfl, .int t, rfl, .int t, rfl, _, _, rfl, rfl, .inl ⟨by omega, by omega⟩, _, _, rfl, rfl, .inl ⟨by omega, by omega⟩, _, _, rfl, rfl, _, _, rfl, rfl, (show (0 : Int) < 2147483647 by decide), ?_⟩
      dsimp only
      have my : 0 ≤ (mx + (t : Int) * t * 40692) % 2147483647 ∧ (mx + (t : Int) * t * 40692) % 2147483647 < 2147483647 := ⟨Int.emod_nonneg _ (by decide), Int.emod_lt_of_pos _ (by decide)⟩
      generalize (mx + (t : Int) * t * 40692) % 2147483647 = y at my ⊢
      have mz : 0 ≤ y * y % 2147483647 ∧ y * y % 2147483647 < 2147483647 := ⟨Int.emod_nonneg _ (by decide), Int.emod_lt_of_pos _ (by decide)⟩
      refine ⟨.int y, rfl, .int y, rfl, _, _, rfl, rfl, .inl ⟨by omega, by omega⟩, _, _, rfl, rfl, (show (0 : Int) < 2147483647 by decide), .int y, rfl, _, _, rfl, rfl, _, _, rfl, rfl, .inl ⟨by omega, by omega⟩, _, _, rfl, rfl, (show (0 : Int) < 2147483647 by decide), ?_⟩
      generalize y * y % 2147483647 = y2 at mz ⊢
      dsimp only
      have mw : 0 ≤ y2 * (y + 1618033) % 2147483647 ∧ y2 * (y + 1618033) % 2147483647 < 2147483647 := ⟨Int.emod_nonneg _ (by decide), Int.emod_lt_of_pos _ (by decide)⟩
      generalize y2 * (y + 1618033) % 2147483647 = z at mw ⊢
      refine ⟨.int z, rfl, _, _, rfl, rfl, .inl ⟨by omega, by omega⟩, .int z, rfl, .int z, rfl, _, _, rfl, rfl, .inl ⟨by omega, by omega⟩, _, _, rfl, rfl, (show (0 : Int) < 1073741789 by decide), _, _, rfl, rfl, _, _, rfl, rfl, ⟨by decide, by decide⟩, .int m, rfl, _, _, rfl, rfl, m0, ?_⟩
      exact q _ _ _ (Int.emod_nonneg _ (by omega)) (Int.emod_lt_of_pos _ m0) hd1 ⟨i, j, t, rfl, hi, hj, hj2, by omega⟩ fr1
theorem ok__law_take (T : Tx K mg a) : FnG P w K mg base CX0 1 a.f__law_take a.d__law_take ["_law_stream_here", "_law_many"] (spD famS K 1 (wDrG (2 ^ 20))) := tk_of (ok0__law_take T)
theorem mono__law_take : MonoW (wDrG (2 ^ 20)) := wDrG_mono _
end
end DS
namespace DS
open PySem PySem.Spec PyProof.Rows L2
/-! ### lists of tuples that are told of as tuples; walked, and the items as keys -/
def tSd (K : PySem.W.Frag) (f : DF) : TE := fun σ H Q => ∃ O dv ρ d, Al O H ∧ RepE K O H dv σ ρ ∧ f ρ = some d ∧ ∀ v H', Same H H' → SdL K (Fz O H') v d → Q v H'
structure PSD (X : Cx) (e : Expr) (f : DF) : Prop where
  pe : PE X e (tSd X.K f)
def ItS (K : PySem.W.Frag) (O : Hid) (H1 : Hp) (J : It) (xs : List PyData) : Prop := ∀ O' H, Same (Fz O H1) (Fz O' H) → Al O' H →
  (∀ i, i < xs.length → J.go i H) ∧ J.stop xs.length H ∧ ∀ i x H2 d, xs[i]? = some d → J.yld i H x H2 → Same H H2 ∧ SdT K (Fz O' H2) x d
def iSd (K : PySem.W.Frag) (f : Dn → Option (List PyData)) : L2.TI := fun σ H R => ∃ O dv ρ xs, Al O H ∧ RepE K O H dv σ ρ ∧ f ρ = some xs ∧ ∀ J H', Same H H' → ItS K O H' J xs → R J H'
structure PISD (X : Cx) (tg e : Expr) (f : Dn → Option (List PyData)) : Prop where
  pi : PI X tg e (iSd X.K f)
section
variable {K : PySem.W.Frag} {O : Hid} {H : Hp} {a : Addr} {vs : List V} {ds : List PyData}
end
section
variable {X : Cx} {S : Fr} {tg e : Expr} {f : DF} {i : Nat} {x : Str} {pos pos' : Pos}
end
end DS
namespace DS
open PySem PySem.Spec PyProof.Rows L2
/-! ### expressions that give such lists -/
section
variable {X : Cx} {a b e : Expr} {f fa fb : DF} {i : Nat} {x : Str} {pos : Pos}
end
section
variable {X : Cx} {e : Expr} {es : List Expr} {f : DF} {fa : Dn → Option (List PyData)} {x : Str} {p pos : Pos}
end
end DS
namespace DS
open PySem PySem.Spec PyProof.Rows L2
section
variable {X : Cx} {S : Fr} {st : Stmt} {e : Expr} {f : DF} {i : Nat} {x : Str} {p pos pos' : Pos}
/-! ### name = such a list; tuple(l); [()] -/
end
end DS
namespace DS
open PySem PySem.Spec PyProof.Rows L2
/-! ### comprehensions whose items are tuples told of as tuples -/
def tSt (K : PySem.W.Frag) (f : DF) : TE := fun σ H Q => ∃ O dv ρ d, Al O H ∧ RepE K O H dv σ ρ ∧ f ρ = some d ∧ ∀ v H', Same H H' → SdT K (Fz O H') v d → Q v H'
structure PST (X : Cx) (e : Expr) (f : DF) : Prop where
  pe : PE X e (tSt X.K f)
end DS
namespace DS
open PySem PySem.Spec PyProof.Rows L2
/-! ### a def that gives a list of tuples told of as tuples -/
structure EndsS (K : PySem.W.Frag) (S : Fr) (B : Hp) (DD : EnD) (D : Ends) : Prop where
  nx : ∀ O' σ' H' ρ' n', RepS K S B O' H' σ' ρ' n' → DD.nx ρ' n' → D.nx σ' H'
  bk : ∀ O' σ' H' ρ' n', RepS K S B O' H' σ' ρ' n' → DD.bk ρ' n' → D.bk σ' H'
  ct : ∀ O' σ' H' ρ' n', RepS K S B O' H' σ' ρ' n' → DD.ct ρ' n' → D.ct σ' H'
  rt : ∀ v H' d n', SdL K (Fz S.O0 H') v d → (∀ b x, S.H0 b = some x → ¬ S.M b → H' b = some x) → DD.rt d n' → D.rt v H'
def tSS (K : PySem.W.Frag) (S : Fr) (T : TD) : TS := fun D σ H => ∃ B O ρ n DD, RepS K S B O H σ ρ n ∧ T DD ρ n ∧ EndsS K S B DD D
structure PDsS (X : Cx) (S : Fr) (st : List Stmt) (T : TD) : Prop where
  pss : PSs X st (tSS X.K S T)
section
variable {X : Cx} {S : Fr} {st : Stmt} {rest : List Stmt} {T U : TD} {e : Expr} {f : DF} {pos : Pos}
end
section
variable {P : Program} {w : World} {K : PySem.W.Frag} {mg : Str → Option Value} {base : Heap}
end
end DS
namespace DS
open PySem PySem.Spec PyProof.Rows L2
/-! ### d[k] = f(.., d, ..): a dict of one's own, lent to what it then takes in -/
section
variable {K : PySem.W.Frag} {S : Fr} {B H : Hp} {O O' : Hid} {σ : L2.St} {ρ : Dn} {n : Nat}
end
section
variable {X : Cx} {S : Fr} {b e : Expr} {gk : Dn → Option KeyD} {fc : DF} {pos : Pos}
end
end DS
set_option maxHeartbeats 2000000
namespace DS
open PySem PySem.Spec PyProof.Rows L2
/-! ### sorted(l), l any list of data that can be compared -/
section
variable {X : Cx}
/-! tuples of ints -/
/-! ### sorted(set(l)), l a list of tuples of ints, none empty -/
def ddL : List (List Int) → List (List Int)
  | [] => []
  | s :: ss => if (ddL ss).contains s = true then ddL ss else s :: ddL ss
theorem ddL_mem (s : List Int) : ∀ ss : List (List Int), s ∈ ddL ss ↔ s ∈ ss
  | [] => Iff.rfl
  | t :: ss => by
    unfold ddL
    by_cases h : (ddL ss).contains t = true
    · rw [if_pos h, ddL_mem s ss, List.mem_cons]
      exact ⟨.inr, fun z => z.elim (fun e => by rw [e]; exact (ddL_mem t ss).mp (List.contains_iff_mem.mp h)) id⟩
    · rw [if_neg h, List.mem_cons, List.mem_cons, ddL_mem s ss]
def usortL (ss : List (List Int)) : List (List Int) := sortL (ddL ss)
section
variable {P : Program} {w : World} {A : Around} {E : Value → Shared → Prop} {s : Shared}
end
/-! ### sorted(t), t a tuple of tuples of ints -/
/-! ### max(l, key=len), l a list of tuples -/
def most (ls : Nat → Nat) (n : Nat) : Nat := argBest (fun i j => decide (((ls i : Nat) : Int) > ((ls j : Nat) : Int))) (n - 1)
/-! ### max(l), l a list of data that can be compared -/
end
end DS
namespace DS
open PySem PySem.Spec PyProof.Rows L2
/-! ### tuples told of as tuples: names, slices, joined, as keys -/
def getT (i : Nat) : DF := fun ρ => match ρ[i]? with | some (.sd false d) => some d | _ => none
section
variable {X : Cx} {S : Fr} {st : Stmt} {a b e : Expr} {f fa fb : DF} {i : Nat} {x : Str} {p pos pos' : Pos}
end
/-! ### a def with parameters that are such tuples -/
section
variable {P : Program} {w : World} {K : PySem.W.Frag} {mg : Str → Option Value} {base : Heap}
end
/-- the arguments of such a def: each data, or such a tuple -/
def tAM (K : PySem.W.Frag) (mk : List Bool) (g : Dn → Option (List PyData)) : TA := fun σ H Q => ∃ O dv ρ ds, Al O H ∧ RepE K O H dv σ ρ ∧ g ρ = some ds ∧ ∀ vs H', Same H H' → DxAll K (Fz O H') vs ds → (∀ (i : Nat) v d, mk[i]? = some true → vs[i]? = some v → ds[i]? = some d → SdT K (Fz O H') v d) → Q vs H'
structure PFM (X : Cx) (es : List Expr) (mk : List Bool) (g : Dn → Option (List PyData)) : Prop where
  pa : PA X es (tAM X.K mk g)
section
variable {X : Cx} {e : Expr} {es : List Expr} {f : DF} {g : Dn → Option (List PyData)} {mk : List Bool} {x : Str} {p pos : Pos}
end
end DS
namespace DS
open PySem PySem.Spec PyProof.Rows L2
/-! ### sorted(t, key=len), t a tuple of tuples -/
section
variable {X : Cx}
end
end DS
namespace DS
open PySem PySem.Spec PyProof.Rows L2
/-! ### {k: v}, the key a tuple told of as one -/
end DS
namespace DS
open PySem PySem.Spec PyProof.Rows L2
/-! ### a def that gives a list of tuples, by its statements as functions -/
structure PZsS (X : Cx) (S : Fr) (st : List Stmt) (h : SF) : Prop where
  pds : PDsS X S st (dFun h)
theorem PDsS.imp {X : Cx} {S : Fr} {st : List Stmt} {T T' : TD} (h : PDsS X S st T) (k : ∀ DD ρ n, T' DD ρ n → T DD ρ n) : PDsS X S st T' := ⟨h.pss.imp fun D σ H ⟨B, O, ρ, n, DD, r, t, E⟩ => ⟨B, O, ρ, n, DD, r, k _ _ _ t, E⟩⟩
section
variable {X : Cx} {S : Fr} {st : Stmt} {rest : List Stmt} {f g h : SF} {e : Expr} {fe : DF} {pos : Pos}
end
/-! ### for over a list of such tuples; min of a list of ints -/
/-! ### tuple(range(..)) told of as a tuple -/
end DS
namespace DS
open PySem PySem.Spec PyProof.Rows L2
/-! ### max of a tuple, min of a list or of a tuple, of data that can be compared -/
section
variable {X : Cx}
end
end DS
namespace DS
open PySem PySem.Spec PyProof.Rows L2
section
variable {X : Cx} {S : Fr}
/-! ### comprehensions with two fors -/
theorem RepE.but {K : PySem.W.Frag} {O O' : Hid} {H H' : Hp} {dv : V} {σ : L2.St} {ρ : Dn} {D : Addr} (h : RepE K O H dv σ ρ) (s : ∀ b o, b ≠ D → H b = some o → H' b = some o) (nD : ∀ (i : Nat) (e : Ent) (ov : Option V) (q : Addr), ρ[i]? = some e → σ[i]? = some ov → Hd H ov e q → q ≠ D) (f : Same (Fz O H) (Fz O' H')) (o : ∀ p, O p → O' p) : RepE K O' H' dv σ ρ := ⟨h.1, fun i e q => by
  obtain ⟨ov, h1, h2⟩ := h.2 i e q
  refine ⟨ov, h1, h2.shift o f fun q' k => ?_⟩
  obtain ⟨oq, x, z⟩ := h2.hd k
  rw [z]
  exact s q' x (nD i e ov q' q h1 k) z⟩
end
end DS
namespace DS
open PySem PySem.Spec PyProof.Rows L2
/-! ### defs with *v alone: f(a, ..), which may raise -/
structure FnV (P : Program) (w : World) (K : PySem.W.Frag) (mg : Str → Option Value) (base : Heap) (CX : CXT) (k : Nat) (f : Addr) (sp : Sp) : Prop where
  go : ∀ (A : Around) (outer : List Env) (s : Shared) (H : Hp) (us : List Value) (vs : List V) (Q : VK) (E : XK), A.guards = some [] → Room k A → Env0 P w K mg base A outer s H → Vals vs us → sp vs H Q E →
    codeAny (model P w) A (.call (.ref f) ⟨us, []⟩) (CR CX outer P w H s Q E) s
theorem FnV.up {P : Program} {w : World} {K : PySem.W.Frag} {mg : Str → Option Value} {base : Heap} {CX : CXT} {k j : Nat} {f : Addr} {sp : Sp} (F : FnV P w K mg base CX j f sp) (h : j ≤ k) : FnV P w K mg base CX k f sp := ⟨fun A outer s H us vs Q E hg hr => F.go A outer s H us vs Q E hg (hr.mono h)⟩
section
variable {P : Program} {w : World} {K : PySem.W.Frag} {mg : Str → Option Value} {base : Heap}
end
section
variable {X : Cx} {S : Fr} {W : WX} {e : Expr} {es : List Expr} {p pos : Pos} {k : Nat} {f : Addr} {x : Str} {sem : List PyData → Option RX} {fs : Dn → Option (List PyData)}
end
end DS
namespace DS
open PySem PySem.Spec PyProof.Rows L2
/-! ### x += l, x a list of one's own -/
section
variable {M : Model} {A : Around} {E : Value → Shared → Prop} {s : Shared}
end
section
variable {X : Cx}
variable {S : Fr} {pos : Pos}
/-! ### a, b, c, d = l, l a list -/
end
end DS
namespace DS
open PySem PySem.Spec PyProof.Rows L2
/-! ### a call with a list of one's own among its arguments, and a plain result -/
def tV (K : PySem.W.Frag) (f : DF) : TE := fun σ H Q => ∃ O dv ρ d, Al O H ∧ RepE K O H dv σ ρ ∧ f ρ = some d ∧ ∀ v H', Same H H' → Dx K H' v d → Q v H'
structure PV (X : Cx) (e : Expr) (f : DF) : Prop where
  pe : PE X e (tV X.K f)
def tVA (K : PySem.W.Frag) (f : Dn → Option (List PyData)) : TA := fun σ H Q => ∃ O dv ρ ds, Al O H ∧ RepE K O H dv σ ρ ∧ f ρ = some ds ∧ ∀ vs H', Same H H' → DxAll K H' vs ds → Q vs H'
structure PVA (X : Cx) (es : List Expr) (f : Dn → Option (List PyData)) : Prop where
  pa : PA X es (tVA X.K f)
section
variable {X : Cx} {e : Expr} {es : List Expr} {f : DF} {fa : Dn → Option (List PyData)} {p pos : Pos} {x : Str}
theorem PF.pv (h : PF X e f) : PV X e f := ⟨h.pe.imp fun σ H Q ⟨O, dv, ρ, d, al, r, ed, q⟩ => ⟨O, dv, ρ, d, al, r, ed, fun v H' s dx => q v H' s (dx.same (fz_sub O H'))⟩⟩
/-! their meanings, by simp -/
end
end DS
namespace DS
open PySem PySem.Spec PyProof.Rows L2
/-! ### x += e, of numbers -/
section
variable {X : Cx} {S : Fr} {pos : Pos}
end
end DS
set_option maxHeartbeats 4000000
namespace DS
open PySem PySem.Spec PyProof.Rows L2
end DS
set_option maxHeartbeats 4000000
namespace DS
open PySem PySem.Spec PyProof.Rows L2
/-! ### middles: certificates of any kind that one is uncovered -/
section
variable {n : Nat} {b : Nat → Nat → Bool} {i j : Nat}
/-! what the package hands out -/
end
end DS
set_option maxHeartbeats 4000000
namespace DS
open PySem PySem.Spec PyProof.Rows L2
/-! ### witnesses of any kind -/
section
variable {n : Nat} {b : Nat → Nat → Bool} {i j : Nat} {M : List Nat}
theorem srt_any (M : List Nat) (hl : M.length < 60) {f : DF} {ρ : Dn} (e : f ρ = some (tupN M)) : srtSetF f ρ = some (.list ((usort (M.map fun k : Nat => (k : Int))).map .int)) := by
  unfold srtSetF
  rw [e]
  show ((intsD (M.map ni)).bind _) = _
  rw [ints_ni, intsD_map]
  show (if (M.map fun k : Nat => (k : Int)).length < 60 then _ else none) = _
  rw [if_pos (by rw [List.length_map]; exact hl)]
theorem eq_ints (as bs : List Int) : gEq (.list (as.map .int)) (.list (bs.map .int)) = some (.bool (decide (as = bs))) := by
  have sh : ∀ l : List Int, SeqAt.shaped (.list (l.map .int)) = true := fun l => by
    have : PyData.canLayAll0 (l.map .int) = true ∧ PyData.depthAll (l.map .int) = 0 := by
      induction l with
      | nil => exact ⟨by simp [PyData.canLayAll0], by simp [PyData.depthAll]⟩
      | cons x l ih => exact ⟨by simp [PyData.canLayAll0, PyData.canLay0, ih.1], by simp [PyData.depthAll, PyData.depth, ih.2]⟩
    simp [SeqAt.shaped, PyData.canLay0, PyData.depth, this.1, this.2]
  exact gEq_of (by rw [sh, sh]; rfl) (eqv_ints as bs)
theorem int_up {M : List Nat} (h : (M.map fun k : Nat => (k : Int)).Pairwise (· < ·)) : M.Pairwise (· < ·) := (List.pairwise_map.mp h).imp fun {a b} q => by omega
/-- a list of numbers is sorted(set(..)) of itself exactly if it ascends -/
theorem srt_eq (M : List Nat) (hl : M.length < 60) {f : DF} {ρ : Dn} (e : f ρ = some (tupN M)) : ∃ r : Bool, (srtSetF f ρ).bind (fun y => gEq (.list (M.map ni)) y) = some (.bool r) ∧ (r = true ↔ M.Pairwise (· < ·)) := by
  refine ⟨decide ((M.map fun k : Nat => (k : Int)) = usort (M.map fun k : Nat => (k : Int))), ?_, ?_⟩
  · rw [srt_any M hl e, Option.bind_some, ints_ni, eq_ints]
  · rw [decide_eq_true_iff]
    constructor
    · intro h
      exact int_up (by rw [h]; exact usort_up _)
    · intro h
      have up : (M.map fun k : Nat => (k : Int)).Pairwise (· < ·) := List.pairwise_map.mpr (h.imp fun {a b} q => by omega)
      rw [usort_one up fun _ => Iff.rfl]
end
end DS
set_option maxHeartbeats 4000000
namespace DS
open PySem PySem.Spec PyProof.Rows L2
/-! ### components -/
section
variable {n : Nat} {b : Nat → Nat → Bool} {o : Nat} {M : List Nat}
end
end DS
set_option maxHeartbeats 4000000
namespace DS
open PySem PySem.Spec PyProof.Rows L2
/-! ### winners by the keys of a dict -/
def wn (kds : List (List Key × PyData)) (x y : Nat) : Bool := (valD kds (kk x y)).isSome
/-- what the dict holds when the places p, q with p < i, or p = i and q < i + 1 + c, are done -/
structure Wn (os : List Nat) (i c : Nat) (kds : List (List Key × PyData)) : Prop where
  diag : ∀ x, wn kds x x = false
  done : ∀ p q, p < q → q < os.length → (p < i ∨ (p = i ∧ q < i + 1 + c)) → wn kds (nthL os p) (nthL os q) = !wn kds (nthL os q) (nthL os p)
  rest : ∀ p q, p < q → q < os.length → ¬ (p < i ∨ (p = i ∧ q < i + 1 + c)) → wn kds (nthL os p) (nthL os q) = false ∧ wn kds (nthL os q) (nthL os p) = false
theorem Wn.start {os : List Nat} : Wn os 0 0 [] := ⟨fun x => rfl, fun p q h1 h2 h3 => by omega, fun p q _ _ _ => ⟨rfl, rfl⟩⟩
theorem wn_put {kds : List (List Key × PyData)} {x y p q : Nat} (d : PyData) : wn (putD kds (kk x y) d) p q = (decide (p = x ∧ q = y) || wn kds p q) := by
  unfold wn
  rw [valD_put]
  by_cases h : kk p q = kk x y
  · rw [if_pos h]
    obtain ⟨rfl, rfl⟩ := kk_inj h
    simp
  · rw [if_neg h]
    have : ¬ (p = x ∧ q = y) := fun ⟨e1, e2⟩ => h (by rw [e1, e2])
    simp [this]
theorem Wn.put {os : List Nat} {i c j : Nat} {kds : List (List Key × PyData)} (nd : os.Nodup) (h : Wn os i c kds) (hj : j < os.length) (ej : i + 1 + c = j) (t : Bool) (d : PyData) :
    Wn os i (c + 1) (putD kds (if t = true then kk (nthL os j) (nthL os i) else kk (nthL os i) (nthL os j)) d) := by
  have hi : i < os.length := by omega
  have inj : ∀ {p q : Nat}, p < os.length → q < os.length → nthL os p = nthL os q → p = q := fun {p q} hp hq e => by
    by_cases k : p = q
    · exact k
    · exact absurd e (nthL_ne nd hp hq k)
  obtain ⟨r1, r2⟩ := h.rest i j (by omega) hj (by omega)
  have ne : nthL os i ≠ nthL os j := nthL_ne nd hi hj (by omega)
  have key : ∀ p q, p < q → q < os.length → ¬ (p = i ∧ q = j) → ∀ (t : Bool), wn (putD kds (if t = true then kk (nthL os j) (nthL os i) else kk (nthL os i) (nthL os j)) d) (nthL os p) (nthL os q) = wn kds (nthL os p) (nthL os q) ∧ wn (putD kds (if t = true then kk (nthL os j) (nthL os i) else kk (nthL os i) (nthL os j)) d) (nthL os q) (nthL os p) = wn kds (nthL os q) (nthL os p) := fun p q lt hq no t => by
    have n1 : ¬ (nthL os p = nthL os i ∧ nthL os q = nthL os j) := fun ⟨e1, e2⟩ => no ⟨inj (by omega) hi e1, inj hq hj e2⟩
    have n2 : ¬ (nthL os p = nthL os j ∧ nthL os q = nthL os i) := fun ⟨e1, e2⟩ => by
      have := inj (by omega) hj e1
      have := inj hq hi e2
      omega
    cases t
    · rw [if_neg Bool.false_ne_true, wn_put, wn_put, decide_eq_false n1, decide_eq_false (fun e => n2 ⟨e.2, e.1⟩)]
      simp
    · rw [if_pos rfl, wn_put, wn_put, decide_eq_false n2, decide_eq_false (fun e => n1 ⟨e.2, e.1⟩)]
      simp
  refine ⟨fun x => ?_, fun p q lt hq hd => ?_, fun p q lt hq hd => ?_⟩
  · cases t
    · rw [if_neg Bool.false_ne_true, wn_put, decide_eq_false (fun e => ne (e.1.symm.trans e.2)), h.diag]
      rfl
    · rw [if_pos rfl, wn_put, decide_eq_false (fun e => ne (e.2.symm.trans e.1)), h.diag]
      rfl
  · by_cases e : p = i ∧ q = j
    · obtain ⟨rfl, rfl⟩ := e
      cases t
      · rw [if_neg Bool.false_ne_true, wn_put, wn_put, decide_eq_true ⟨rfl, rfl⟩, decide_eq_false (fun e => ne e.2), r2]
        rfl
      · rw [if_pos rfl, wn_put, wn_put, decide_eq_false (fun e => ne e.1), decide_eq_true ⟨rfl, rfl⟩, r1]
        rfl
    · obtain ⟨k1, k2⟩ := key p q lt hq e t
      rw [k1, k2]
      exact h.done p q lt hq (by omega)
  · obtain ⟨k1, k2⟩ := key p q lt hq (by omega) t
    rw [k1, k2]
    exact h.rest p q lt hq (by omega)
theorem Wn.next {os : List Nat} {i c : Nat} {kds : List (List Key × PyData)} (h : Wn os i c kds) (hl : os.length ≤ i + 1 + c) : Wn os (i + 1) 0 kds :=
  ⟨h.diag, fun p q lt hq hd => h.done p q lt hq (by omega), fun p q lt hq hd => h.rest p q lt hq (by omega)⟩
theorem Wn.tour {os : List Nat} {m : Nat} {kds : List (List Key × PyData)} (h1 : 1 ≤ m) (h9 : m ≤ 9) (hp : os.Perm (List.range m)) (h : Wn os m 0 kds) : Tour m (wn kds) := by
  have hl : os.length = m := by rw [hp.length_eq, List.length_range]
  have at_ : ∀ x, x < m → ∃ p, p < os.length ∧ nthL os p = x := fun x hx => by
    have : x ∈ os := hp.mem_iff.mpr (List.mem_range.mpr hx)
    obtain ⟨p, hp, e⟩ := List.getElem_of_mem this
    exact ⟨p, hp, by unfold nthL; simp [hp, e]⟩
  refine ⟨h1, h9, fun x y hx hy ne => ?_, h.diag⟩
  obtain ⟨p, hp1, rfl⟩ := at_ x hx
  obtain ⟨q, hq1, rfl⟩ := at_ y hy
  have : p ≠ q := fun e => ne (by rw [e])
  by_cases lt : p < q
  · exact h.done p q lt hq1 (by omega)
  · rw [h.done q p (by omega) hp1 (by omega), Bool.not_not]
end DS
set_option maxHeartbeats 4000000
namespace DS
open PySem PySem.Spec PyProof.Rows L2
/-! ### tables made of tables -/
abbrev T2 := Nat × (Nat → Nat → Bool)
def AllT (ts : List T2) : Prop := ∀ t ∈ ts, Tour t.1 t.2
theorem AllT.nil : AllT [] := fun t h => by cases h
theorem AllT.snoc {ts : List T2} {m : Nat} {b : Nat → Nat → Bool} (h : AllT ts) (t : Tour m b) : AllT (ts ++ [(m, b)]) := fun t' ht' => by
  rcases List.mem_append.mp ht' with k | k
  · exact h t' k
  · rw [List.mem_singleton.mp k]
    exact t
end DS
set_option maxHeartbeats 4000000
namespace DS
open PySem PySem.Spec PyProof.Rows L2
/-! ### texts that are changed -/
section
variable {ρ : Dn} {f : DF} {c k B : Nat}
@[simp] theorem e_sliceS {x : Str} {l h : Option Int} : sliceD (.str x) l h = if x.length < 1000000 then some (.str (cutS x l h)) else none := rfl
@[simp] theorem e_gAddS {x y : Str} : gAdd (.str x) (.str y) = if x.length + y.length < 1000000 then some (.str (x ++ y)) else none := rfl
@[simp] theorem e_addBS {x y : Str} : gAddB (.str x) (.str y) = if x.length + y.length < 1000000 then some (.str (x ++ y)) else none := rfl
@[simp] theorem e_addBL {xs ys : List PyData} : gAddB (.list xs) (.list ys) = if xs.length + ys.length < 1000000 then some (.list (xs ++ ys)) else none := rfl
@[simp] theorem e_addBNT {M : List Nat} {ys : List PyData} : gAddB (tupN M) (.tuple ys) = if M.length + ys.length < 1000000 then some (.tuple (M.map ni ++ ys)) else none := e_gAddNT
@[simp] theorem e_addBNN {M N : List Nat} : gAddB (tupN M) (tupN N) = if M.length + N.length < 1000000 then some (tupN (M ++ N)) else none := e_gAddNN
theorem av_str {x : Str} : AV c k B (.str x) ↔ (∀ q ∈ x.cps.toList, q < 0x110000) ∧ x.cps.toList.length ≤ B := by
  constructor
  · rintro ⟨h1, _, h3⟩
    exact ⟨fun q hq => by simpa using List.all_eq_true.mp (show (x.cps.toList.all fun q => decide (q < 0x110000)) = true by simpa only [okI] using h1) q hq, by simpa [PyData.bulk] using h3⟩
  · rintro ⟨h1, h2⟩
    exact ⟨by simpa only [okI] using List.all_eq_true.mpr fun q hq => decide_eq_true (h1 q hq), by simp [PyData.depth], by simpa [PyData.bulk] using h2⟩
theorem len_str (x : Str) : x.cps.toList.length = x.length := by
  rw [Array.length_toList]
  rfl
theorem app_list (x y : Str) : (x ++ y).cps.toList = x.cps.toList ++ y.cps.toList := by
  show (x.cps ++ y.cps).toList = _
  rw [Array.toList_append]
theorem av_cat {B' : Nat} {x y : Str} (h : AV c k B (.str x)) (h' : AV c k B' (.str y)) : AV c k (B + B') (.str (x ++ y)) := by
  obtain ⟨h1, h2⟩ := av_str.mp h
  obtain ⟨h3, h4⟩ := av_str.mp h'
  refine av_str.mpr ⟨fun q hq => ?_, ?_⟩
  · rw [app_list] at hq
    rcases List.mem_append.mp hq with e | e
    · exact h1 q e
    · exact h3 q e
  · rw [app_list, List.length_append]
    omega
end
end DS
namespace DS
/-! ### sums of numbers, and the Pfaffian of a list -/
def sm : Nat → (Nat → Int) → Int
  | 0, _ => 0
  | n + 1, f => sm n f + f n
theorem sm_congr {f g : Nat → Int} : ∀ {n : Nat}, (∀ i, i < n → f i = g i) → sm n f = sm n g
  | 0, _ => rfl
  | n + 1, h => by
    show sm n f + f n = sm n g + g n
    rw [sm_congr fun i hi => h i (by omega), h n (by omega)]
theorem sm_zero : ∀ n : Nat, sm n (fun _ => 0) = 0
  | 0 => rfl
  | n + 1 => by
    show sm n (fun _ => 0) + 0 = 0
    rw [sm_zero n]
    rfl
theorem sm_add (f g : Nat → Int) : ∀ n : Nat, sm n (fun i => f i + g i) = sm n f + sm n g
  | 0 => rfl
  | n + 1 => by
    show sm n (fun i => f i + g i) + (f n + g n) = sm n f + f n + (sm n g + g n)
    rw [sm_add f g n]
    omega
theorem sm_neg (f : Nat → Int) : ∀ n : Nat, sm n (fun i => - f i) = - sm n f
  | 0 => rfl
  | n + 1 => by
    show sm n (fun i => - f i) + - f n = -(sm n f + f n)
    rw [sm_neg f n]
    omega
theorem sm_mul (c : Int) (f : Nat → Int) : ∀ n : Nat, sm n (fun i => c * f i) = c * sm n f
  | 0 => by show (0 : Int) = c * 0; rw [Int.mul_zero]
  | n + 1 => by
    show sm n (fun i => c * f i) + c * f n = c * (sm n f + f n)
    rw [sm_mul c f n, Int.mul_add]
theorem sm_swap (f : Nat → Nat → Int) (m : Nat) : ∀ n : Nat, sm n (fun i => sm m (fun j => f i j)) = sm m (fun j => sm n (fun i => f i j))
  | 0 => (sm_zero m).symm
  | n + 1 => by
    show sm n (fun i => sm m (fun j => f i j)) + sm m (fun j => f n j) = sm m (fun j => sm n (fun i => f i j) + f n j)
    rw [sm_swap f m n, sm_add]
theorem sm_front (f : Nat → Int) : ∀ n : Nat, sm (n + 1) f = f 0 + sm n (fun i => f (i + 1))
  | 0 => by show 0 + f 0 = f 0 + 0; omega
  | n + 1 => by
    show sm (n + 1) f + f (n + 1) = f 0 + (sm n (fun i => f (i + 1)) + f (n + 1))
    rw [sm_front f n]
    omega
theorem sm_le0 {f : Nat → Int} : ∀ {n : Nat}, (∀ i, i < n → f i ≤ 0) → sm n f ≤ 0
  | 0, _ => Int.le_refl 0
  | n + 1, h => by
    show sm n f + f n ≤ 0
    have := sm_le0 (f := f) (n := n) fun i hi => h i (by omega)
    have := h n (by omega)
    omega
/-- a sum of numbers that are not positive is 0 only if all are -/
theorem sm_all0 {f : Nat → Int} : ∀ n : Nat, (∀ i, i < n → f i ≤ 0) → 0 ≤ sm n f → ∀ i, i < n → f i = 0 := by
  intro n
  induction n with
  | zero => exact fun _ _ i hi => absurd hi (Nat.not_lt_zero i)
  | succ n ih =>
    intro h e i hi
    have e : 0 ≤ sm n f + f n := e
    have h1 := sm_le0 (f := f) (n := n) fun i hi => h i (by omega)
    have h2 := h n (by omega)
    by_cases k : i = n
    · subst k
      omega
    · exact ih (fun j hj => h j (by omega)) (by omega) i (by omega)
/-- all but one index -/
theorem sm_skip (f : Nat → Int) (i : Nat) : ∀ n : Nat, i ≤ n → f i = 0 → sm (n + 1) f = sm n (fun j => f (if j < i then j else j + 1))
  | 0, h, z => by
    have : i = 0 := by omega
    subst this
    show 0 + f 0 = 0
    omega
  | n + 1, h, z => by
    by_cases k : i = n + 1
    · subst k
      show sm (n + 1) f + f (n + 1) = _
      rw [z, Int.add_zero]
      exact sm_congr fun j hj => by rw [if_pos hj]
    · show sm (n + 1) f + f (n + 1) = sm n (fun j => f (if j < i then j else j + 1)) + f (if n < i then n else n + 1)
      rw [sm_skip f i n (by omega) z, if_neg (by omega)]
/-- two neighbours exchanged -/
theorem sm_exch {F G : Nat → Int} {p : Nat} (h1 : F p = - G (p + 1)) (h2 : F (p + 1) = - G p) {M : Nat} (h : ∀ i, i < M → i ≠ p → i ≠ p + 1 → F i = - G i) : ∀ m : Nat, m ≤ M → p + 2 ≤ m → sm m F = - sm m G
  | 0, _, k => absurd k (by omega)
  | m + 1, hM, k => by
    by_cases e : p + 2 = m + 1
    · have : m = p + 1 := by omega
      subst this
      show sm p F + F p + F (p + 1) = -(sm p G + G p + G (p + 1))
      have : sm p F = - sm p G := by
        rw [← sm_neg]
        exact sm_congr fun i hi => h i (by omega) (by omega) (by omega)
      omega
    · show sm m F + F m = -(sm m G + G m)
      rw [sm_exch h1 h2 h m (by omega) (by omega), h m (by omega) (by omega) (by omega)]
      omega
def sgP (i : Nat) : Int := if i % 2 = 0 then 1 else -1
theorem sg_succ (i : Nat) : sgP (i + 1) = - sgP i := by
  unfold sgP
  split <;> split <;> omega
section
variable (a : Nat → Nat → Int)
def pf : Nat → List Nat → Int
  | 0, _ => 1
  | _ + 1, [] => 1
  | k + 1, x :: r => sm r.length fun i => sgP i * a x (r.getD i 0) * pf k (r.eraseIdx i)
variable {a}
theorem pf_cons {k x : Nat} {r : List Nat} : pf a (k + 1) (x :: r) = sm r.length fun i => sgP i * a x (r.getD i 0) * pf a k (r.eraseIdx i) := rfl
theorem er_lt : ∀ {l : List Nat} {i j : Nat}, j < i → (l.eraseIdx i).getD j 0 = l.getD j 0
  | [], _, _, _ => by simp
  | x :: l, 0, j, h => absurd h (Nat.not_lt_zero j)
  | x :: l, i + 1, 0, h => by simp
  | x :: l, i + 1, j + 1, h => by
    rw [List.eraseIdx_cons_succ, List.getD_cons_succ, List.getD_cons_succ]
    exact er_lt (by omega)
theorem er_ge : ∀ {l : List Nat} {i j : Nat}, i ≤ j → (l.eraseIdx i).getD j 0 = l.getD (j + 1) 0
  | [], _, _, _ => by simp
  | x :: l, 0, j, h => by simp
  | x :: l, i + 1, 0, h => absurd h (by omega)
  | x :: l, i + 1, j + 1, h => by
    rw [List.eraseIdx_cons_succ, List.getD_cons_succ, List.getD_cons_succ]
    exact er_ge (by omega)
theorem er_er : ∀ {l : List Nat} {i j : Nat}, i ≤ j → (l.eraseIdx i).eraseIdx j = (l.eraseIdx (j + 1)).eraseIdx i
  | [], _, _, _ => by simp
  | x :: l, 0, j, h => by simp
  | x :: l, i + 1, 0, h => absurd h (by omega)
  | x :: l, i + 1, j + 1, h => by
    rw [List.eraseIdx_cons_succ, List.eraseIdx_cons_succ, List.eraseIdx_cons_succ, List.eraseIdx_cons_succ, er_er (by omega)]
theorem er_len {l : List Nat} {i : Nat} (h : i < l.length) : (l.eraseIdx i).length + 1 = l.length := by
  rw [List.length_eraseIdx, if_pos h]
  omega
theorem pf_swap0 (sk : ∀ x y, a y x = - a x y) {k : Nat} {x y : Nat} {l : List Nat} (hl : l.length = 2 * k) : pf a (k + 1) (x :: y :: l) = - pf a (k + 1) (y :: x :: l) := by
  have e1 : ∀ x y, pf a (k + 1) (x :: y :: l) = a x y * pf a k l + sm l.length (fun i => - (sgP i * a x (l.getD i 0) * pf a k (y :: l.eraseIdx i))) := fun x y => by
    show sm (l.length + 1) _ = _
    rw [sm_front]
    congr 1
    · simp [sgP]
    · refine sm_congr fun i _ => ?_
      rw [sg_succ, List.getD_cons_succ, List.eraseIdx_cons_succ, Int.neg_mul, Int.neg_mul]
  rw [e1 x y, e1 y x, sk x y]
  cases k with
  | zero =>
    have : l = [] := List.length_eq_zero_iff.mp (by omega)
    subst this
    show a x y * 1 + 0 = -(-a x y * 1 + 0)
    omega
  | succ k =>
    let R : Nat → Nat → Int := fun i j => if i < j then sgP i * sgP (j - 1) * pf a k ((l.eraseIdx j).eraseIdx i) else if j < i then sgP i * sgP j * pf a k ((l.eraseIdx i).eraseIdx j) else 0
    have hR : ∀ i j, R j i = - R i j := fun i j => by
      show (if j < i then sgP j * sgP (i - 1) * pf a k ((l.eraseIdx i).eraseIdx j) else if i < j then sgP j * sgP i * pf a k ((l.eraseIdx j).eraseIdx i) else 0) = - (if i < j then sgP i * sgP (j - 1) * pf a k ((l.eraseIdx j).eraseIdx i) else if j < i then sgP i * sgP j * pf a k ((l.eraseIdx i).eraseIdx j) else 0)
      by_cases h1 : i < j
      · rw [if_neg (by omega), if_pos h1, if_pos h1]
        have : sgP j = - sgP (j - 1) := by
          have := sg_succ (j - 1)
          rwa [show j - 1 + 1 = j by omega] at this
        rw [this, Int.neg_mul, Int.neg_mul, Int.mul_comm (sgP (j - 1))]
      · by_cases h2 : j < i
        · rw [if_pos h2, if_neg h1, if_pos h2]
          have : sgP i = - sgP (i - 1) := by
            have := sg_succ (i - 1)
            rwa [show i - 1 + 1 = i by omega] at this
          rw [this, Int.neg_mul, Int.neg_mul, Int.neg_neg, Int.mul_comm (sgP (i - 1))]
        · rw [if_neg h2, if_neg h1, if_neg h1, if_neg h2]
          rfl
    have hin : ∀ x y i, i < l.length → sgP i * a x (l.getD i 0) * pf a (k + 1) (y :: l.eraseIdx i) = sm l.length (fun j => a x (l.getD i 0) * a y (l.getD j 0) * R i j) := fun x y i hi => by
      have ln := er_len hi
      rw [← ln, sm_skip _ i _ (by omega) (by show _ * (if i < i then _ else if i < i then _ else (0 : Int)) = 0; rw [if_neg (Nat.lt_irrefl i), if_neg (Nat.lt_irrefl i), Int.mul_zero])]
      show _ * sm (l.eraseIdx i).length _ = _
      rw [← sm_mul]
      refine sm_congr fun j hj => ?_
      by_cases c : j < i
      · rw [if_pos c, er_lt c]
        show _ = _ * (if i < j then _ else if j < i then sgP i * sgP j * pf a k ((l.eraseIdx i).eraseIdx j) else 0)
        rw [if_neg (by omega), if_pos c]
        simp only [Int.mul_assoc, Int.mul_left_comm, Int.mul_comm]
      · rw [if_neg c, er_ge (by omega)]
        show _ = _ * (if i < j + 1 then sgP i * sgP (j + 1 - 1) * pf a k ((l.eraseIdx (j + 1)).eraseIdx i) else _)
        rw [if_pos (by omega), ← er_er (by omega), Nat.add_sub_cancel]
        simp only [Int.mul_assoc, Int.mul_left_comm, Int.mul_comm]
    have hd : ∀ x y, sm l.length (fun i => - (sgP i * a x (l.getD i 0) * pf a (k + 1) (y :: l.eraseIdx i))) = - sm l.length (fun i => sm l.length (fun j => a x (l.getD i 0) * a y (l.getD j 0) * R i j)) := fun x y => by
      rw [sm_neg]
      congr 1
      exact sm_congr fun i hi => hin x y i hi
    rw [hd x y, hd y x]
    have : sm l.length (fun i => sm l.length (fun j => a y (l.getD i 0) * a x (l.getD j 0) * R i j)) = - sm l.length (fun i => sm l.length (fun j => a x (l.getD i 0) * a y (l.getD j 0) * R i j)) := by
      rw [sm_swap, ← sm_neg]
      refine sm_congr fun i _ => ?_
      rw [← sm_neg]
      refine sm_congr fun j _ => ?_
      rw [hR i j, Int.mul_neg, Int.mul_comm (a y _)]
    rw [this, Int.neg_mul]
    omega
theorem er_app : ∀ (l1 : List Nat) {l2 : List Nat} {i : Nat}, (l1 ++ l2).eraseIdx i = if i < l1.length then l1.eraseIdx i ++ l2 else l1 ++ l2.eraseIdx (i - l1.length)
  | [], l2, i => by simp
  | x :: l1, l2, 0 => by simp
  | x :: l1, l2, i + 1 => by
    rw [List.cons_append, List.eraseIdx_cons_succ, er_app l1, List.length_cons]
    by_cases h : i < l1.length
    · rw [if_pos h, if_pos (by omega)]
      rfl
    · rw [if_neg h, if_neg (by omega), show i + 1 - (l1.length + 1) = i - l1.length by omega]
      rfl
theorem getD_app : ∀ (l1 : List Nat) {l2 : List Nat} {i : Nat}, (l1 ++ l2).getD i 0 = if i < l1.length then l1.getD i 0 else l2.getD (i - l1.length) 0
  | [], l2, i => by simp
  | x :: l1, l2, 0 => by simp
  | x :: l1, l2, i + 1 => by
    rw [List.cons_append, List.getD_cons_succ, getD_app l1, List.length_cons]
    by_cases h : i < l1.length
    · rw [if_pos h, if_pos (by omega), List.getD_cons_succ]
    · rw [if_neg h, if_neg (by omega), show i + 1 - (l1.length + 1) = i - l1.length by omega]
theorem pf_swap (sk : ∀ x y, a y x = - a x y) : ∀ {k : Nat} {l1 : List Nat} {x y : Nat} {l2 : List Nat}, (l1 ++ x :: y :: l2).length = 2 * k → pf a k (l1 ++ x :: y :: l2) = - pf a k (l1 ++ y :: x :: l2)
  | 0, l1, x, y, l2, h => by simp at h
  | k + 1, [], x, y, l2, h => by
    simp at h
    exact pf_swap0 sk (by omega)
  | k + 1, z :: l1, x, y, l2, h => by
    simp at h
    rw [List.cons_append, List.cons_append, pf_cons, pf_cons]
    have ln : (l1 ++ y :: x :: l2).length = (l1 ++ x :: y :: l2).length := by simp
    rw [ln]
    have c0 : ∀ {u v : Nat} {l2 : List Nat}, (l1 ++ u :: v :: l2).eraseIdx l1.length = l1 ++ v :: l2 := fun {u v l2} => by
      rw [er_app, if_neg (Nat.lt_irrefl _), Nat.sub_self, List.eraseIdx_cons_zero]
    have c1 : ∀ {u v : Nat} {l2 : List Nat}, (l1 ++ u :: v :: l2).eraseIdx (l1.length + 1) = l1 ++ u :: l2 := fun {u v l2} => by
      rw [er_app, if_neg (by omega), show l1.length + 1 - l1.length = 1 by omega, List.eraseIdx_cons_succ, List.eraseIdx_cons_zero]
    have g0 : ∀ {u v : Nat} {l2 : List Nat}, (l1 ++ u :: v :: l2).getD l1.length 0 = u := fun {u v l2} => by
      rw [getD_app, if_neg (Nat.lt_irrefl _), Nat.sub_self, List.getD_cons_zero]
    have g1 : ∀ {u v : Nat} {l2 : List Nat}, (l1 ++ u :: v :: l2).getD (l1.length + 1) 0 = v := fun {u v l2} => by
      rw [getD_app, if_neg (by omega), show l1.length + 1 - l1.length = 1 by omega, List.getD_cons_succ, List.getD_cons_zero]
    refine sm_exch (p := l1.length) ?_ ?_ (fun i hi h1 h2 => ?_) _ (Nat.le_refl _) (by simp)
    · rw [c0, c1, g0, g1, sg_succ, Int.neg_mul, Int.neg_mul, Int.neg_neg]
    · rw [c0, c1, g0, g1, sg_succ, Int.neg_mul, Int.neg_mul]
    · have hi : i < l1.length + 2 + l2.length := by
        rw [List.length_append, List.length_cons, List.length_cons] at hi
        omega
      by_cases c : i < l1.length
      · rw [er_app, if_pos c, er_app, if_pos c, getD_app, if_pos c, getD_app, if_pos c, pf_swap sk (by have := er_len c; simp; omega), Int.mul_neg]
      · rw [er_app, if_neg c, er_app, if_neg c, getD_app, if_neg c, getD_app, if_neg c]
        obtain ⟨m, rfl⟩ : ∃ m, i = l1.length + 2 + m := ⟨i - l1.length - 2, by omega⟩
        rw [show l1.length + 2 + m - l1.length = m + 1 + 1 by omega]
        simp only [List.eraseIdx_cons_succ, List.getD_cons_succ]
        rw [pf_swap sk (by have := er_len (l := l2) (i := m) (by omega); simp; omega), Int.mul_neg]
theorem pf_dup (sk : ∀ x y, a y x = - a x y) {k : Nat} {x : Nat} : ∀ {l1 l2 : List Nat}, (x :: (l1 ++ x :: l2)).length = 2 * k → pf a k (x :: (l1 ++ x :: l2)) = 0 := by
  intro l1
  induction hn : l1.length generalizing l1 with
  | zero =>
    intro l2 h
    have : l1 = [] := List.length_eq_zero_iff.mp hn
    subst this
    have := pf_swap sk (k := k) (l1 := []) (x := x) (y := x) (l2 := l2) h
    simp only [List.nil_append] at this ⊢
    omega
  | succ m ih =>
    intro l2 h
    have e : l1 = l1.dropLast ++ [l1.getLast (by intro z; rw [z] at hn; cases hn)] := (List.dropLast_concat_getLast _).symm
    generalize l1.getLast _ = c at e
    rw [e] at h ⊢
    have e2 : x :: (l1.dropLast ++ [c] ++ x :: l2) = (x :: l1.dropLast) ++ c :: x :: l2 := by simp
    rw [e2] at h ⊢
    rw [pf_swap sk h, show (x :: l1.dropLast) ++ x :: c :: l2 = x :: (l1.dropLast ++ x :: c :: l2) by simp, ih (by rw [List.length_dropLast]; omega) (by simp at h ⊢; omega)]
    rfl
theorem pf_mem (sk : ∀ x y, a y x = - a x y) {k : Nat} {x : Nat} {l : List Nat} (h : l.length + 1 = 2 * k) (hx : x ∈ l) : pf a k (x :: l) = 0 := by
  obtain ⟨l1, l2, rfl⟩ := List.append_of_mem hx
  exact pf_dup sk (by simpa using h)
end
/-! ### its size -/
end DS
namespace DS
/-! ### balanced weights exist -/
theorem eq0_of_mul {a b : Int} (h : 0 < a) (k : a * b = 0) : b = 0 := by
  rcases Int.mul_eq_zero.mp k with z | z
  · omega
  · exact z
inductive Cn (S : (Nat → Int) → Prop) : (Nat → Int) → Prop
  | base {c : Nat → Int} (h : S c) : Cn S c
  | smul {v : Nat → Int} (k : Int) (hk : 0 < k) (h : Cn S v) : Cn S fun i => k * v i
  | add {v w : Nat → Int} (h : Cn S v) (g : Cn S w) : Cn S fun i => v i + w i
/-! ### of a skew matrix -/
/-- the balance of i -/
def Bl (n : Nat) (a : Nat → Nat → Int) (p : Nat → Int) (i : Nat) : Int := sm n fun j => a i j * p j
structure Fair (n : Nat) (a : Nat → Nat → Int) (p : Nat → Int) : Prop where
  nn : ∀ i, i < n → 0 ≤ p i
  ba : ∀ i, i < n → Bl n a p i ≤ 0
  ne : ∃ i, i < n ∧ 0 < p i
theorem sm_one {n j : Nat} (f : Nat → Int) (hj : j < n) : sm n (fun i => if i = j then f i else 0) = f j := by
  induction n with
  | zero => omega
  | succ n ih =>
    show sm n _ + (if n = j then f n else 0) = _
    by_cases e : n = j
    · rw [if_pos e, sm_congr (g := fun _ => 0) fun i hi => if_neg (by omega), sm_zero, e]
      omega
    · rw [if_neg e, ih (by omega)]
      omega
section
variable {n : Nat} {a : Nat → Nat → Int} (sk : ∀ x y, a y x = - a x y)
include sk
theorem dblx (p q : Nat → Int) : sm n (fun i => q i * Bl n a p i) = - sm n (fun i => p i * Bl n a q i) := by
  have e : ∀ p q : Nat → Int, sm n (fun i => q i * Bl n a p i) = sm n (fun i => sm n fun j => q i * (a i j * p j)) := fun p q => sm_congr fun i _ => (sm_mul _ _ _).symm
  rw [e, e, sm_swap, ← sm_neg]
  refine sm_congr fun i _ => ?_
  rw [← sm_neg]
  exact sm_congr fun j _ => by rw [sk i j]; grind
theorem Fair.cross {p q : Nat → Int} (hp : Fair n a p) (hq : Fair n a q) : ∀ i, i < n → q i * Bl n a p i = 0 := by
  have np : ∀ {p q : Nat → Int}, Fair n a p → Fair n a q → ∀ i, i < n → q i * Bl n a p i ≤ 0 := fun hp hq i hi => by
    have := Int.mul_le_mul_of_nonneg_left (hp.ba i hi) (hq.nn i hi)
    omega
  refine sm_all0 n (np hp hq) ?_
  rw [dblx sk]
  have := sm_le0 (np hq hp)
  omega
theorem Fair.own {p : Nat → Int} (hp : Fair n a p) : ∀ i, i < n → 0 < p i → Bl n a p i = 0 := fun i hi h => eq0_of_mul h (hp.cross sk hp i hi)
end
section
variable {n : Nat} {a : Nat → Nat → Int} (od : ∀ x y, x ≠ y → a x y % 2 = 1) (dg : ∀ x, a x x = 0)
include od dg
theorem bl_par (p : Nat → Int) {i : Nat} (hi : i < n) : Bl n a p i % 2 = (sm n p - p i) % 2 := by
  have e : sm n p - p i = sm n fun j => if j = i then 0 else p j := by
    have := sm_one p hi
    rw [← this, show ∀ x y : Int, x - y = x + - y from fun x y => rfl, ← sm_neg, ← sm_add]
    exact sm_congr fun j _ => by split <;> omega
  rw [e]
  have key : ∀ (f g : Nat → Int) (m : Nat), (∀ j, j < m → f j % 2 = g j % 2) → sm m f % 2 = sm m g % 2 := fun f g m h => by
    induction m with
    | zero => rfl
    | succ m ih =>
      have h1 := ih fun j hj => h j (by omega)
      have h2 := h m (by omega)
      show (sm m f + f m) % 2 = (sm m g + g m) % 2
      omega
  refine key _ _ n fun j _ => ?_
  show a i j * p j % 2 = (if j = i then 0 else p j) % 2
  split
  · rename_i z
    rw [z, dg, Int.zero_mul]
  · rename_i z
    rw [Int.mul_emod, od i j fun w => z w.symm]
    omega
end
end DS
namespace DS
/-! ### balanced weights without a common divisor: one only; and the Pfaffians -/
def Prim (n : Nat) (p : Nat → Int) : Prop := ∀ d : Nat, (∀ i, i < n → (d : Int) ∣ p i) → d = 1
section
variable {n : Nat} {a : Nat → Nat → Int}
variable (sk : ∀ x y, a y x = - a x y) (od : ∀ x y, x ≠ y → a x y % 2 = 1)
include sk in
theorem dg_of : ∀ x, a x x = 0 := fun x => by have := sk x x; omega
include sk od
theorem Fair.par {p : Nat → Int} (h : Fair n a p) (pr : Prim n p) : sm n p % 2 = 1 ∧ (∀ i, i < n → 0 < p i → p i % 2 = 1) ∧ ∀ i, i < n → p i = 0 → Bl n a p i < 0 := by
  have dg := dg_of sk
  obtain ⟨k, hk, ho⟩ : ∃ k, k < n ∧ p k % 2 = 1 := by
    apply Classical.byContradiction
    intro z
    have := pr 2 fun i hi => by
      apply Int.dvd_of_emod_eq_zero
      apply Classical.byContradiction
      intro w
      exact z ⟨i, hi, by show p i % 2 = 1; have w : p i % 2 ≠ 0 := w; omega⟩
    omega
  have kp : 0 < p k := by
    have := h.nn k hk
    rcases Int.lt_or_le 0 (p k) with z | z
    · exact z
    · have : p k = 0 := by omega
      rw [this] at ho
      exact absurd ho (by decide)
  have e0 := bl_par od dg p hk
  rw [h.own sk k hk kp] at e0
  have es : sm n p % 2 = 1 := by omega
  refine ⟨es, fun i hi hp => ?_, fun i hi hp => ?_⟩
  · have e1 := bl_par od dg p hi
    rw [h.own sk i hi hp] at e1
    omega
  · have e1 := bl_par od dg p hi
    rw [hp] at e1
    have := h.ba i hi
    omega
end
/-! ### the Pfaffians of a set without each of its members -/
theorem sm_mem {n : Nat} {F : Nat → Int} : ∀ {l : List Nat}, l.Nodup → (∀ j ∈ l, j < n) → sm n (fun j => if j ∈ l then F j else 0) = sm l.length fun t => F (l.getD t 0)
  | [], _, _ => by
    rw [sm_congr (g := fun _ => 0) fun i _ => by simp, sm_zero]
    rfl
  | x :: l, nd, h => by
    obtain ⟨n1, n2⟩ := List.nodup_cons.mp nd
    show _ = sm (l.length + 1) _
    rw [sm_front, sm_congr (g := fun j => (if j = x then F j else 0) + (if j ∈ l then F j else 0)) fun j _ => ?_, sm_add, sm_one F (h x List.mem_cons_self), sm_mem n2 fun j hj => h j (List.mem_cons_of_mem _ hj)]
    · simp
    · by_cases e : j = x
      · subst e
        simp [n1]
      · simp [e]
section
variable {n k : Nat} {a : Nat → Nat → Int} {S : List Nat} {w : Nat → Int}
structure PfW (n k : Nat) (a : Nat → Nat → Int) (S : List Nat) (w : Nat → Int) : Prop where
  nd : S.Nodup
  lt : ∀ j ∈ S, j < n
  ln : S.length = 2 * k + 1
  at_ : ∀ t, t < S.length → w (S.getD t 0) = sgP t * pf a k (S.eraseIdx t)
  out : ∀ j, j < n → j ∉ S → w j = 0
theorem PfW.bl (h : PfW n k a S w) (x : Nat) : Bl n a w x = pf a (k + 1) (x :: S) := by
  rw [pf_cons]
  unfold Bl
  rw [sm_congr (g := fun j => if j ∈ S then a x j * w j else 0) fun j hj => ?_, sm_mem h.nd h.lt]
  · refine sm_congr fun t ht => ?_
    show a x (S.getD t 0) * w (S.getD t 0) = _
    rw [h.at_ t ht]
    grind
  · split
    · rfl
    · rename_i z
      rw [h.out j hj z, Int.mul_zero]
variable (sk : ∀ x y, a y x = - a x y) (od : ∀ x y, x ≠ y → a x y % 2 = 1)
include sk in
theorem PfW.zero (h : PfW n k a S w) {x : Nat} (hx : x ∈ S) : Bl n a w x = 0 := by
  rw [h.bl, pf_mem sk (by have := h.ln; omega) hx]
include od in
end
end DS
set_option maxHeartbeats 4000000
namespace DS
open PySem PySem.Spec PyProof.Rows L2
/-! ### the meanings of pfaffians -/
@[simp] theorem e_getD0sd {l : Bool} {d : PyData} {r : Dn} : getD 0 (.sd l d :: r) = some d := rfl
@[simp] theorem e_getT0 {d : PyData} {r : Dn} : getT 0 (.sd false d :: r) = some d := rfl
@[simp] theorem e_getTs {i : Nat} {e : Ent} {r : Dn} : getT (i + 1) (e :: r) = getT i r := rfl
section
variable {n : Nat} {b : Nat → Nat → Bool}
/-! all sets, told of as tuples -/
/-! the signs as numbers -/
def aI (b : Nat → Nat → Bool) (x y : Nat) : Int := if x = y then 0 else if x < y then (if b x y = true then 1 else -1) else (if b y x = true then -1 else 1)
def kO (T : List Nat) : List Key := T.map fun t : Nat => .inl (t : Int)
/-! one Pfaffian from smaller ones -/
end
end DS
set_option maxHeartbeats 4000000
namespace DS
open PySem PySem.Spec PyProof.Rows L2
section
variable {n : Nat} {b : Nat → Nat → Bool}
/-- what the dict of the Pfaffians says -/
structure Ev (n : Nat) (b : Nat → Nat → Bool) (kds : List (List Key × PyData)) : Prop where
  ne : kds ≠ []
  at_ : ∀ S ∈ Sn 0 n, S.length % 2 = 0 → valD kds (kO S) = some (.int (pf (aI b) (S.length / 2) S))
end
end DS
set_option maxHeartbeats 4000000
namespace DS
open PySem PySem.Spec PyProof.Rows L2
/-! ### balances of whole numbers -/
section
variable {n : Nat} {b : Nat → Nat → Bool} {i : Nat} {W : PyData} {w : Nat → Int}
end
/-! ### the greatest common divisor -/
section
variable {i j : Nat} (c : PyData → PyData → Dn) (h1 : ∀ x y, getD i (c x y) = some x) (h2 : ∀ x y, getD j (c x y) = some y) (h3 : ∀ x y u v, ((c x y).set i (.dat u)).set j (.dat v) = c u v)
include h1 h2 h3
end
end DS
set_option maxHeartbeats 4000000
namespace DS
open PySem PySem.Spec PyProof.Rows L2
section
variable {n : Nat} {b : Nat → Nat → Bool} {S : List Nat} {kds : List (List Key × PyData)}
/-- the weights after the first t members -/
def wv (b : Nat → Nat → Bool) (S : List Nat) : Nat → Nat → Int
  | 0, _ => 0
  | t + 1, j => if j = S.getD t 0 then sgP t * pf (aI b) (S.length / 2) (S.eraseIdx t) else wv b S t j
def wS (b : Nat → Nat → Bool) (S : List Nat) : Nat → Int := wv b S S.length
/-- of one sign at the first member -/
def wT (b : Nat → Nat → Bool) (S : List Nat) : Nat → Int := fun i => if wS b S (S.getD 0 0) < 0 then - wS b S i else wS b S i
/-! ### the lottery -/
end
end DS
set_option maxHeartbeats 4000000
namespace DS
open PySem PySem.Spec PyProof.Rows L2
section
variable {n : Nat} {b : Nat → Nat → Bool} {S : List Nat} {kds : List (List Key × PyData)}
def Pass (n : Nat) (b : Nat → Nat → Bool) (S : List Nat) : Prop := S.length % 2 = 1 ∧ (∀ i, i < n → 0 ≤ wT b S i) ∧ ∀ i, i < n → Bl n (aI b) (wT b S) i ≤ 0
end
end DS
set_option maxHeartbeats 4000000
namespace DS
open PySem PySem.Spec PyProof.Rows L2
/-! ### is_lottery of any value -/
section
variable {n : Nat} {b : Nat → Nat → Bool} {v : PyData}
end
end DS
set_option maxHeartbeats 4000000
namespace DS
open PySem PySem.Spec PyProof.Rows L2
section
variable {n : Nat} {b : Nat → Nat → Bool}
/-- the rows of a table, and with one duel turned -/
def rows0 (n : Nat) (b : Nat → Nat → Bool) : List (List Nat) := (List.range n).map fun i => (List.range n).map (sgn b i)
def row0 (n : Nat) (b : Nat → Nat → Bool) (i : Nat) : List Nat := (List.range n).map (sgn b i)
def rows2 (n : Nat) (b : Nat → Nat → Bool) (x y : Nat) : List (List Nat) := ((rows0 n b).set x ((row0 n b x).set y (sgn b y x))).set y ((row0 n b y).set x (sgn b x y))
def rowD (r : List Nat) : PyData := .str ⟨r.toArray⟩
def turnD (n : Nat) (b : Nat → Nat → Bool) (x y : Nat) : PyData := .tuple ((rows2 n b x y).map rowD)
theorem tab_rows0 : tabD n b = .tuple ((rows0 n b).map rowD) := by
  unfold tabD rows0
  rw [List.map_map]
  rfl
theorem rows0_get {i : Nat} (h : i < n) : (rows0 n b)[i]? = some (row0 n b i) := by
  unfold rows0
  rw [List.getElem?_map, List.getElem?_range h]
  rfl
theorem rows0_len : (rows0 n b).length = n := by simp [rows0]
theorem row0_len {i : Nat} : (row0 n b i).length = n := by simp [row0]
theorem sgn_turn (t : Tour n b) {x y : Nat} (hx : x < n) (hy : y < n) (ne : x ≠ y) : (if sgn b x y = 43 then 45 else 43) = sgn b y x := by
  have a := t.anti x y hx hy ne
  unfold sgn
  rw [if_neg ne, if_neg (Ne.symm ne)]
  cases h : b x y <;> cases h2 : b y x <;> rw [h, h2] at a <;> simp_all
theorem turn_sign_eq (t : Tour n b) {x y : Nat} (hx : x < n) (hy : y < n) (ne : x ≠ y) : sem_turn_sign [rowD (row0 n b x), ni y] = some (rowD ((row0 n b x).set y (sgn b y x))) := by
  have h9 := t.nine
  have e1 : rowD (row0 n b x) = .str (rowS n b x) := rfl
  have i1 := ix_row (n := n) (b := b) (i := x) (by omega) hy
  have st := sgn_turn t hx hy ne
  have ce : ∀ c : Nat, ((⟨#[c]⟩ : Str) = Str.ofString "+") ↔ c = 43 := fun c => by
    rw [show Str.ofString "+" = (⟨#[43]⟩ : Str) by decide +kernel]
    simp
  have l0 : (row0 n b x).length = n := row0_len
  have cut : ∀ l h : Option Int, (cutS (rowS n b x) l h) = ⟨(((row0 n b x).drop (HT.sIx n 0 l)).take (HT.sIx n n h - HT.sIx n 0 l)).toArray⟩ := fun l h => by
    have e : (rowS n b x).cps.toList = row0 n b x := by simp [rowS, row0]
    unfold cutS
    rw [e, rowS_len]
  have s1 : HT.sIx n n (some (y : Int)) = y := by rw [HT.sIx_nat]; omega
  have s2 : HT.sIx n 0 (some ((y : Int) + 1)) = y + 1 := by
    have := HT.sIx_nat n 0 (y + 1)
    rw [Int.natCast_add] at this
    rw [show ((1 : Nat) : Int) = 1 from rfl] at this
    rw [this]
    omega
  have c1 : cutS (rowS n b x) none (some (y : Int)) = ⟨((row0 n b x).take y).toArray⟩ := by
    rw [cut, s1]
    rfl
  have c2 : cutS (rowS n b x) (some ((y : Int) + 1)) none = ⟨((row0 n b x).drop (y + 1)).toArray⟩ := by
    rw [cut, s2]
    show (⟨(((row0 n b x).drop (y + 1)).take (n - (y + 1))).toArray⟩ : Str) = _
    rw [List.take_of_length_le (by rw [List.length_drop, l0]; omega)]
  rw [e1]
  refine sem_end ?_
  unfold z_turn_sign
  have lr : (rowS n b x).length < 1000000 := by rw [rowS_len]; omega
  have a1 : gAdd (ni y) (.int 1) = some (.int ((y : Int) + 1)) := rfl
  have cc : ∀ u v : List Nat, (⟨u.toArray⟩ : Str) ++ ⟨v.toArray⟩ = ⟨(u ++ v).toArray⟩ := fun u v => by
    show (⟨u.toArray ++ v.toArray⟩ : Str) = _
    simp
  have lens : ∀ u : List Nat, (⟨u.toArray⟩ : Str).length = u.length := fun u => by simp [Str.length]
  have fin : ∀ c : Nat, (row0 n b x).take y ++ [c] ++ (row0 n b x).drop (y + 1) = (row0 n b x).set y c := fun c => by
    rw [List.set_eq_take_append_cons_drop, if_pos (by rw [l0]; exact hy)]
    simp
  have plus : Str.ofString "+" = ⟨[43].toArray⟩ := by decide +kernel
  have minus : Str.ofString "-" = ⟨[45].toArray⟩ := by decide +kernel
  have tst : (tstF (bin2 gEq (bin2 ixD (getD 0) (getD 1)) (cD (.str (Str.ofString "+"))))) (startD 2 [.str (rowS n b x), ni y]) = some (decide (sgn b x y = 43)) := by
    show ((((some (PyData.str (rowS n b x))).bind fun d => (some (ni y)).bind fun e => ixD d e).bind fun d => gEq d (.str (Str.ofString "+"))).bind toB) = _
    rw [Option.bind_some, Option.bind_some, i1]
    simp [ce]
    rw [Bool.eq_iff_iff]
    simp [ce]
  have p1 : (sliceF (getD 0) noP (someP (getD 1))) (startD 2 [.str (rowS n b x), ni y]) = some (.str ⟨((row0 n b x).take y).toArray⟩) := by
    show (if (rowS n b x).length < lim then some (PyData.str (cutS (rowS n b x) none (some (y : Int)))) else none) = _
    rw [if_pos (show (rowS n b x).length < lim from lr), c1]
  have p2 : (sliceF (getD 0) (someP (bin2 gAdd (getD 1) (cD (.int 1)))) noP) (startD 2 [.str (rowS n b x), ni y]) = some (.str ⟨((row0 n b x).drop (y + 1)).toArray⟩) := by
    show (if (rowS n b x).length < lim then some (PyData.str (cutS (rowS n b x) (some ((y : Int) + 1)) none)) else none) = _
    rw [if_pos (show (rowS n b x).length < lim from lr), c2]
  have p3 : (ifF (tstF (bin2 gEq (bin2 ixD (getD 0) (getD 1)) (cD (.str (Str.ofString "+"))))) (cD (.str (Str.ofString "-"))) (cD (.str (Str.ofString "+")))) (startD 2 [.str (rowS n b x), ni y]) = some (.str ⟨[sgn b y x].toArray⟩) := by
    unfold ifF
    rw [tst, ← st, plus, minus]
    by_cases h : sgn b x y = 43
    · simp [h, cD]
    · simp [h, cD]
  have g1 : gAdd (.str ⟨((row0 n b x).take y).toArray⟩) (.str ⟨[sgn b y x].toArray⟩) = some (.str ⟨((row0 n b x).take y ++ [sgn b y x]).toArray⟩) := by
    rw [e_gAddS, if_pos (by rw [lens, lens, List.length_take, l0]; show min y n + 1 < 1000000; omega), cc]
  have g2 : gAdd (.str ⟨((row0 n b x).take y ++ [sgn b y x]).toArray⟩) (.str ⟨((row0 n b x).drop (y + 1)).toArray⟩) = some (rowD ((row0 n b x).set y (sgn b y x))) := by
    rw [e_gAddS, if_pos (by rw [lens, lens, List.length_append, List.length_take, List.length_drop, l0]; show min y n + 1 + (n - (y + 1)) < 1000000; omega), cc, fin]
    rfl
  simp only [e_sRet, e_bin2, p1, p2, p3, Option.bind_some, g1, g2]
/-! ### turn_duel -/
def turnB (b : Nat → Nat → Bool) (i j : Nat) : Nat → Nat → Bool := fun x y => if (x = i ∧ y = j) ∨ (x = j ∧ y = i) then !b x y else b x y
theorem turn_tour (t : Tour n b) {i j : Nat} (hi : i < n) (hj : j < n) (ne : i ≠ j) : Tour n (turnB b i j) where
  one := t.one
  nine := t.nine
  anti := fun x y hx hy h => by
    have := t.anti x y hx hy h
    unfold turnB
    by_cases c : (x = i ∧ y = j) ∨ (x = j ∧ y = i)
    · rw [if_pos c, if_pos (by omega), this]
    · rw [if_neg c, if_neg (by omega), this]
  diag := fun x => by
    unfold turnB
    rw [if_neg (by omega)]
    exact t.diag x
theorem turnD_tab (t : Tour n b) {i j : Nat} (hi : i < n) (hj : j < n) (ne : i ≠ j) : turnD n b i j = tabD n (turnB b i j) := by
  rw [tab_rows0]
  unfold turnD
  congr 2
  have row : ∀ (x y : Nat), x < n → y < n → x ≠ y → (row0 n b x).set y (sgn b y x) = (List.range n).map fun k => if k = y then sgn b y x else sgn b x k := fun x y hx hy h => by
    unfold row0
    rw [set_range]
  unfold rows2
  rw [row i j hi hj ne, row j i hj hi (Ne.symm ne)]
  unfold rows0
  rw [set_range, set_range]
  refine List.map_congr_left fun x hx => ?_
  have hx := List.mem_range.mp hx
  have sw : ∀ x y, x < n → y < n → x ≠ y → ((x = i ∧ y = j) ∨ (x = j ∧ y = i)) → sgn (turnB b i j) x y = sgn b y x := fun x y hx hy h c => by
    have a := t.anti x y hx hy h
    unfold sgn turnB
    rw [if_neg h, if_neg (Ne.symm h), if_pos c, a]
    cases b y x <;> rfl
  have st : ∀ x y, ¬ ((x = i ∧ y = j) ∨ (x = j ∧ y = i)) → sgn (turnB b i j) x y = sgn b x y := fun x y c => by
    unfold sgn turnB
    rw [if_neg c]
  by_cases c1 : x = j
  · rw [if_pos c1]
    subst c1
    refine List.map_congr_left fun y hy => ?_
    by_cases c : y = i
    · rw [if_pos c, c, sw x i hj hi (Ne.symm ne) (.inr ⟨rfl, rfl⟩)]
    · rw [if_neg c, st x y (by omega)]
  · rw [if_neg c1]
    by_cases c2 : x = i
    · rw [if_pos c2]
      subst c2
      refine List.map_congr_left fun y hy => ?_
      by_cases c : y = j
      · rw [if_pos c, c, sw x j hi hj ne (.inl ⟨rfl, rfl⟩)]
      · rw [if_neg c, st x y (by omega)]
    · rw [if_neg c2]
      exact List.map_congr_left fun y hy => (st x y (by omega)).symm
end
end DS
set_option maxHeartbeats 2000000
namespace DS
open PySem PySem.Spec PyProof.Rows L2
/-! ### layers are the classes of what reaches one another; greatest components -/
section
variable {n : Nat} {b : Nat → Nat → Bool} {M A B T : List Nat}
/-- what x reaches -/
structure Rch (n : Nat) (b : Nat → Nat → Bool) (x : Nat) (L : List Nat) : Prop where
  self : x ∈ L
  low : ∀ y ∈ L, y < n
  cl : ∀ y ∈ L, ∀ v, v < n → b y v = true → v ∈ L
  mn : ∀ P : Nat → Prop, P x → (∀ y v, P y → v < n → b y v = true → P v) → ∀ y ∈ L, P y
def cls (n : Nat) (L : Nat → List Nat) (x : Nat) : List Nat := (List.range n).filter fun y => (L x).contains y && (L y).contains x
variable {L : Nat → List Nat}
theorem outs_set (l : List Nat) : outs n l ∈ Sn 0 n := sel_mem _
theorem nil_set : ([] : List Nat) ∈ Sn 0 n := (Sn_mem n 0 _).mpr ⟨List.Pairwise.nil, fun x h => nomatch h⟩
/-! components -/
/-! sets in order, each one once -/
def backZ (l : List Int) : List Nat := l.map Int.toNat
theorem back_z (s : List Nat) : backZ (zI s) = s := by
  unfold backZ zI
  rw [List.map_map]
  conv => rhs; rw [← List.map_id s]
  exact List.map_congr_left fun x _ => by simp
def usortN (ss : List (List Nat)) : List (List Nat) := (usortL (ss.map zI)).map backZ
theorem usortL_mem (s : List Int) (ss : List (List Int)) : s ∈ usortL ss ↔ s ∈ ss := by
  unfold usortL
  rw [(sortL_perm _).mem_iff, ddL_mem]
theorem usortN_mem {s : List Nat} {ss : List (List Nat)} : s ∈ usortN ss ↔ s ∈ ss := by
  unfold usortN
  rw [List.mem_map]
  constructor
  · rintro ⟨l, hl, rfl⟩
    obtain ⟨s, hs, rfl⟩ := List.mem_map.mp ((usortL_mem l _).mp hl)
    rw [back_z]
    exact hs
  · intro hs
    exact ⟨zI s, (usortL_mem _ _).mpr (List.mem_map.mpr ⟨s, hs, rfl⟩), back_z s⟩
structure PsOk (n : Nat) (ss : List (List Nat)) : Prop where
  st : ∀ s ∈ ss, s ∈ Sn 0 n
  ne : ∀ s ∈ ss, s ≠ []
  dj : ∀ s ∈ ss, ∀ t ∈ ss, ∀ x, x ∈ s → x ∈ t → s = t
  cv : ∀ x, x < n → ∃ s ∈ ss, x ∈ s
theorem PsOk.usort {ss : List (List Nat)} (h : PsOk n ss) : PsOk n (usortN ss) := ⟨fun s hs => h.st s (usortN_mem.mp hs), fun s hs => h.ne s (usortN_mem.mp hs), fun s hs t ht => h.dj s (usortN_mem.mp hs) t (usortN_mem.mp ht), fun x hx => by
  obtain ⟨s, hs, hm⟩ := h.cv x hx
  exact ⟨s, usortN_mem.mpr hs, hm⟩⟩
end
end DS
set_option maxHeartbeats 4000000
namespace DS
open PySem PySem.Spec PyProof.Rows L2
/-- a table of at most some alternatives -/
def w__law_table : WD := fun ds n Q => ∃ hi : Nat, ds = [ni hi] ∧ 1 ≤ hi ∧ hi ≤ 9 ∧ n + 300 < 2 ^ 20 ∧ ∀ (m : Nat) (b : Nat → Nat → Bool) (n' : Nat), Tour m b → m ≤ hi → n' ≤ n + 200 → Q (tabD m b) n'
theorem mono__law_table : MonoW w__law_table := fun ds n Q Q' k ⟨hi, e, h1, h2, h3, q⟩ => ⟨hi, e, h1, h2, h3, fun m b n' t h h5 => k _ _ (q m b n' t h h5)⟩
/-- some of so many alternatives -/
def w__law_wins : WD := fun ds n Q => ∃ m : Nat, ds = [ni m] ∧ m ≤ 9 ∧ n + 50 < 2 ^ 20 ∧ ∀ (M : List Nat) (n' : Nat), M ∈ Sn 0 m → n' ≤ n + 9 → Q (tupN M) n'
theorem mono__law_wins : MonoW w__law_wins := fun ds n Q Q' k ⟨m, e, h1, h2, q⟩ => ⟨m, e, h1, h2, fun f n' hf h => k _ _ (q f n' hf h)⟩
/-- what an edit does, and what it gives -/
inductive Ed where
  | turn (i j : Nat)
  | add (M : List Nat)
  | rem (i : Nat)
def Ed.d : Ed → PyData
  | .turn i j => .tuple [.str "turn", ni i, ni j]
  | .add M => .tuple [.str "add", tupN M]
  | .rem i => .tuple [.str "remove", ni i]
def Ed.okS (n most : Nat) : Ed → Prop
  | .turn i j => i < n ∧ j < n
  | .add M => M ∈ Sn 0 n ∧ n < most
  | .rem i => i < n
def Ed.okV (n : Nat) : Ed → Prop
  | .turn i j => i < n ∧ j < n ∧ i ≠ j
  | .add M => M ∈ Sn 0 n ∧ n ≤ 8
  | .rem i => i < n ∧ 1 < n
def growB (n : Nat) (b : Nat → Nat → Bool) (M : List Nat) (x y : Nat) : Bool := if x = n then M.contains y else if y = n then !M.contains x else b x y
def Ed.n' (n : Nat) : Ed → Nat
  | .turn _ _ => n
  | .add _ => n + 1
  | .rem i => (outs n [i]).length
def Ed.b' (n : Nat) (b : Nat → Nat → Bool) : Ed → Nat → Nat → Bool
  | .turn i j => turnB b i j
  | .add M => growB n b M
  | .rem i => sub b (outs n [i])
def w__law_some_edit : WD := fun ds n Q => ∃ (m most : Nat) (b : Nat → Nat → Bool), Tour m b ∧ ds = [tabD m b, ni most] ∧ most ≤ 10 ∧ n + 100 < 2 ^ 20 ∧ ∀ (e : Ed) (n' : Nat), e.okS m most → n' ≤ n + 20 → Q e.d n'
theorem mono__law_some_edit : MonoW w__law_some_edit := fun ds n Q Q' k ⟨m, most, b, t, e, h1, h2, q⟩ => ⟨m, most, b, t, e, h1, h2, fun f n' h h' => k _ _ (q f n' h h')⟩
def w__law_valid_edit : WD := fun ds n Q => ∃ (m most : Nat) (b : Nat → Nat → Bool), Tour m b ∧ ds = [tabD m b, ni most] ∧ 2 ≤ most ∧ most ≤ 10 ∧ n + 300 < 2 ^ 20 ∧ ∀ (e : Ed) (n' : Nat), e.okV m → (∀ M, e = .add M → m < most) → n' ≤ n + 120 → Q e.d n'
theorem mono__law_valid_edit : MonoW w__law_valid_edit := fun ds n Q Q' k ⟨m, most, b, t, e, h0, h1, h2, q⟩ => ⟨m, most, b, t, e, h0, h1, h2, fun f n' h h' h'' => k _ _ (q f n' h h' h'')⟩
/-- the pairs ahead of (i, c), the second one less, are drawn -/
structure PrsJ (m i c : Nat) (M : Nat → Nat → Nat) : Prop where
  diag : ∀ a, a < m → M a a = 46
  drawn : ∀ x y, x < m → y < x → (x < i ∨ (x = i ∧ y < c)) → Dr M x y
theorem PrsJ.start {m : Nat} : PrsJ m 0 0 (fun _ _ => 46) := ⟨fun _ _ => rfl, fun x y hx hy h => by omega⟩
theorem PrsJ.next {m i c : Nat} {M : Nat → Nat → Nat} (h : PrsJ m i c M) (hc : i ≤ c) : PrsJ m (i + 1) 0 M := ⟨h.diag, fun x y hx hy k => h.drawn x y hx hy (by omega)⟩
theorem PrsJ.store {m i c : Nat} {M : Nat → Nat → Nat} (h : PrsJ m i c M) (hi : i < m) (hc : c < i) (w : Bool) : PrsJ m i (c + 1) (put2 (put2 M i c (if w then 43 else 45)) c i (if w then 45 else 43)) := by
  refine ⟨fun a ha => ?_, fun x y hx hy k => ?_⟩
  · unfold put2
    rw [if_neg (by omega), if_neg (by omega)]
    exact h.diag a ha
  · by_cases e : x = i ∧ y = c
    · obtain ⟨rfl, rfl⟩ := e
      have e1 : put2 (put2 M x y (if w then 43 else 45)) y x (if w then 45 else 43) x y = if w then 43 else 45 := by
        unfold put2
        rw [if_neg (by omega), if_pos ⟨rfl, rfl⟩]
      have e2 : put2 (put2 M x y (if w then 43 else 45)) y x (if w then 45 else 43) y x = if w then 45 else 43 := by
        unfold put2
        rw [if_pos ⟨rfl, rfl⟩]
      unfold Dr
      rw [e1, e2]
      cases w
      · exact .inr ⟨rfl, rfl⟩
      · exact .inl ⟨rfl, rfl⟩
    · have d := h.drawn x y hx hy (by omega)
      unfold Dr put2 at *
      rw [if_neg (by omega), if_neg (by omega), if_neg (by omega), if_neg (by omega)]
      exact d
theorem PrsJ.all {m : Nat} {M : Nat → Nat → Nat} (h : PrsJ m m 0 M) : ∀ x y, x < m → y < m → x ≠ y → Dr M x y := fun x y hx hy ne => by
  by_cases l : y < x
  · exact h.drawn x y hx l (.inl hx)
  · have d := h.drawn y x hy (by omega) (.inl hy)
    unfold Dr at *
    omega
theorem rowPut_nat {i : Nat} {fa fb : DF} {ρ : Dn} {m x y c : Nat} {M : Nat → Nat → Nat} (h : ρ[i]? = some (.rows (rowsD m M))) (ea : fa ρ = some (ni x)) (eb : fb ρ = some (ni y)) (hx : x < m) (hy : y < m) : rowPut i fa fb (.str ⟨#[c]⟩) ρ = some (ρ.set i (.rows (rowsD m (put2 M x y c)))) := by
  have i0 : ∀ m : Nat, intO (ni m) = some m := fun m => by
    show (if 0 ≤ (m : Int) then some (m : Int).toNat else none) = _
    rw [if_pos (by omega)]
    rfl
  have g : getR i ρ = some (rowsD m M) := by
    unfold getR
    rw [h]
  unfold rowPut
  rw [g, Option.bind_some, ea, Option.bind_some, i0, Option.bind_some, eb, Option.bind_some, i0, Option.bind_some]
  simp only [rowsD_get hx]
  rw [if_pos (by simp; exact hy), rowsD_set]

end DS
set_option maxHeartbeats 4000000
namespace DS
open PySem PySem.Spec PyProof.Rows L2
theorem seqX_nx' {sf sg : SFX} {ρ ρ' : Dn} {r : Except (ErrD × Dn) Res} (e : sf ρ = some (.ok (.nx ρ'))) (k : sg ρ' = some r) : seqX sf sg ρ = some r := by
  rw [x_seqX, e]
  exact k
theorem semX_rt' {N : Nat} {sf : SFX} {ds : List PyData} {d : PyData} (k : sf (startD N ds) = some (.ok (.rt d))) : semX N sf ds = some (.ok d) := by
  rw [x_semX, k]
  rfl
section
variable {n : Nat} {b : Nat → Nat → Bool} {os : List Nat}
theorem alt_some {d : PyData} {i : Nat} (h : altO n d = some i) : d = ni i ∧ i < n := by
  cases d with
  | int k =>
    have h : (if 0 ≤ k ∧ k < n then some k.toNat else none) = some i := h
    split at h
    case isFalse => cases h
    rename_i hk
    cases h
    refine ⟨?_, by omega⟩
    show PyData.int k = .int ((k.toNat : Nat) : Int)
    congr 1
    omega
  | _ => cases h
/-- turn_duel of any two values -/
theorem turnX (t : Tour n b) (x y : PyData) : semx_turn_duel [tabD n b, x, y] = (match altO n x with
    | none => some (.error ⟨"NoAlternative", some ("value", x)⟩)
    | some i => match altO n y with
      | none => some (.error ⟨"NoAlternative", some ("value", y)⟩)
      | some j => if i = j then some (.error ⟨"SameAlternative", some ("value", ni i)⟩) else some (.ok (turnD n b i j))) := by
  have h9 := t.nine
  have ax := is_alt_any t x
  have ay := is_alt_any t y
  have rx : semx_require_alternative [tabD n b, x] = if (altO n x).isSome = true then some (.ok .none) else some (.error ⟨"NoAlternative", some ("value", x)⟩) := by
    cases h : (altO n x).isSome <;> rw [h] at ax <;> simp [semx_require_alternative, zx_require_alternative, ax]
  have ry : semx_require_alternative [tabD n b, y] = if (altO n y).isSome = true then some (.ok .none) else some (.error ⟨"NoAlternative", some ("value", y)⟩) := by
    cases h : (altO n y).isSome <;> rw [h] at ay <;> simp [semx_require_alternative, zx_require_alternative, ay]
  cases hx : altO n x with
  | none =>
    rw [hx] at rx
    simp [semx_turn_duel, zx_turn_duel, rx]
  | some i =>
    obtain ⟨rfl, hi⟩ := alt_some hx
    rw [hx] at rx
    cases hy : altO n y with
    | none =>
      rw [hy] at ry
      simp [semx_turn_duel, zx_turn_duel, rx, ry]
    | some j =>
      obtain ⟨rfl, hj⟩ := alt_some hy
      rw [hy] at ry
      by_cases e : i = j
      · subst e
        simp [semx_turn_duel, zx_turn_duel, rx]
      · have t1 := turn_sign_eq t hi hj e
        have t2 := turn_sign_eq t hj hi (Ne.symm e)
        show _ = if i = j then _ else _
        rw [if_neg e]
        refine semX_rt' ?_
        unfold zx_turn_duel
        refine seqX_nx' (ρ' := startD 4 [tabD n b, ni i, ni j]) (by simp [rx]) ?_
        refine seqX_nx' (ρ' := startD 4 [tabD n b, ni i, ni j]) (by simp [ry]) ?_
        refine seqX_nx' (ρ' := startD 4 [tabD n b, ni i, ni j]) (by simp [e]) ?_
        have own : (toLstL (getD 0)) (startD 4 [tabD n b, ni i, ni j]) = some ((rows0 n b).map rowD) := by
          rw [tab_rows0]
          rfl
        have l0 := rows0_len (n := n) (b := b)
        have gi : ((rows0 n b).map rowD)[i]? = some (rowD (row0 n b i)) := by rw [List.getElem?_map, rows0_get hi]; rfl
        have gj : (((rows0 n b).map rowD).set i (rowD ((row0 n b i).set j (sgn b j i))))[j]? = some (rowD (row0 n b j)) := by
          rw [List.getElem?_set_ne e, List.getElem?_map, rows0_get hj]
          rfl
        have lt : (rows0 n b).length < 1000000 := by rw [l0]; omega
        have v1 : (callU 2 sem_turn_sign (consA (ixO 3 (getD 1)) (consA (getD 2) nilA))) [.dat (tabD n b), .dat (ni i), .dat (ni j), .own ((rows0 n b).map rowD)] = some (rowD ((row0 n b i).set j (sgn b j i))) := by
          have : (ixO 3 (getD 1)) [.dat (tabD n b), .dat (ni i), .dat (ni j), .own ((rows0 n b).map rowD)] = some (rowD (row0 n b i)) := atI_nat gi
          simp [this, t1]
        have v2 : (callU 2 sem_turn_sign (consA (ixO 3 (getD 2)) (consA (getD 1) nilA))) [.dat (tabD n b), .dat (ni i), .dat (ni j), .own (((rows0 n b).map rowD).set i (rowD ((row0 n b i).set j (sgn b j i))))] = some (rowD ((row0 n b j).set i (sgn b i j))) := by
          have : (ixO 3 (getD 2)) [.dat (tabD n b), .dat (ni i), .dat (ni j), .own (((rows0 n b).map rowD).set i (rowD ((row0 n b i).set j (sgn b j i))))] = some (rowD (row0 n b j)) := atI_nat gj
          simp [this, t2]
        have val : (sSeq (sOwn 3 (toLstL (getD 0)))
          (sSeq (sPutO 3 (getD 1) (callU 2 sem_turn_sign (consA (ixO 3 (getD 1)) (consA (getD 2) nilA))))
          (sSeq (sPutO 3 (getD 2) (callU 2 sem_turn_sign (consA (ixO 3 (getD 2)) (consA (getD 1) nilA))))
          (fun ρ => sRet (callA toTup (consA (getD 3) nilA)) (frzD 3 ρ)))) (startD 4 [tabD n b, ni i, ni j])) = some (.rt (turnD n b i j)) := by
          refine seq_nx (ρ' := [.dat (tabD n b), .dat (ni i), .dat (ni j), .own ((rows0 n b).map rowD)]) (by rw [e_sOwn, own]; rfl) ?_
          refine seq_nx (ρ' := [.dat (tabD n b), .dat (ni i), .dat (ni j), .own (((rows0 n b).map rowD).set i (rowD ((row0 n b i).set j (sgn b j i))))]) ?_ ?_
          · unfold sPutO
            rw [v1]
            show (ixN ((rows0 n b).map rowD).length (i : Int)).bind _ = _
            rw [List.length_map, l0, ixN_nat hi]
            rfl
          refine seq_nx (ρ' := [.dat (tabD n b), .dat (ni i), .dat (ni j), .own ((((rows0 n b).map rowD).set i (rowD ((row0 n b i).set j (sgn b j i)))).set j (rowD ((row0 n b j).set i (sgn b i j))))]) ?_ ?_
          · unfold sPutO
            rw [v2]
            show (ixN (((rows0 n b).map rowD).set i (rowD ((row0 n b i).set j (sgn b j i)))).length (j : Int)).bind _ = _
            rw [List.length_set, List.length_map, l0, ixN_nat hj]
            rfl
          rw [List.map_set.symm, List.map_set.symm]
          simp [frzD, turnD, rows2, l0, lt]
        show Option.map _ _ = _
        rw [val]
        rfl
theorem rowsM_map {α : Type} {h : PyData → Option (List PyData)} {g : α → PyData} {r : α → List PyData} : ∀ {l : List α}, (∀ x ∈ l, h (g x) = some (r x)) → rowsM h (l.map g) = some (l.map r)
  | [], _ => rfl
  | x :: l, k => by
    show (h (g x)).bind _ = _
    rw [k x List.mem_cons_self, Option.bind_some, rowsM_map fun y hy => k y (List.mem_cons_of_mem _ hy)]
    rfl
theorem seq_tab : seqS (tabD n b) = some ((List.range n).map fun i => .str (rowS n b i)) := rfl
theorem items_tab : itemsD (tabD n b) = some ((List.range n).map fun i => .str (rowS n b i)) := rfl
theorem str_app (u v : List Nat) : (⟨u.toArray⟩ : Str) ++ ⟨v.toArray⟩ = ⟨(u ++ v).toArray⟩ := by
  show (⟨u.toArray ++ v.toArray⟩ : Str) = _
  simp
/-- the signs of a table with one more alternative -/
theorem grow_old {M : List Nat} {i : Nat} (h : i < n) : rowS (n + 1) (growB n b M) i = rowS n b i ++ (if i ∈ M then Str.ofString "-" else Str.ofString "+") := by
  have plus : Str.ofString "+" = ⟨[43].toArray⟩ := by decide +kernel
  have minus : Str.ofString "-" = ⟨[45].toArray⟩ := by decide +kernel
  have e1 : (List.range n).map (sgn (growB n b M) i) = (List.range n).map (sgn b i) := List.map_congr_left fun j hj => by
    have hj := List.mem_range.mp hj
    unfold sgn growB
    rw [if_neg (show ¬ i = n by omega), if_neg (show ¬ j = n by omega)]
  have e2 : sgn (growB n b M) i n = if i ∈ M then 45 else 43 := by
    unfold sgn growB
    rw [if_neg (show ¬ i = n by omega), if_neg (show ¬ i = n by omega), if_pos rfl]
    by_cases h : i ∈ M <;> simp [h]
  unfold rowS
  rw [List.range_succ, List.map_append, e1, plus, minus]
  by_cases h : i ∈ M
  · rw [if_pos h, str_app]
    simp [e2, h]
  · rw [if_neg h, str_app]
    simp [e2, h]
theorem grow_new {M : List Nat} : rowS (n + 1) (growB n b M) n = ⟨((List.range n).map fun j => if j ∈ M then 43 else 45).toArray⟩ ++ Str.ofString "." := by
  have dot : Str.ofString "." = ⟨[46].toArray⟩ := by decide +kernel
  have e1 : (List.range n).map (sgn (growB n b M) n) = (List.range n).map fun j => if j ∈ M then 43 else 45 := List.map_congr_left fun j hj => by
    have hj := List.mem_range.mp hj
    unfold sgn growB
    rw [if_neg (show ¬ n = j by omega), if_pos rfl]
    by_cases h : j ∈ M <;> simp [h]
  unfold rowS
  rw [List.range_succ, List.map_append, e1, dot, str_app]
  simp [sgn]
theorem grow_tab {M : List Nat} : tabD (n + 1) (growB n b M) = .tuple (((List.range n).map fun i => .str (rowS n b i ++ (if i ∈ M then Str.ofString "-" else Str.ofString "+"))) ++ [.str (⟨((List.range n).map fun j => if j ∈ M then 43 else 45).toArray⟩ ++ Str.ofString ".")]) := by
  unfold tabD
  rw [List.range_succ, List.map_append]
  congr 2
  · exact List.map_congr_left fun i hi => by rw [grow_old (List.mem_range.mp hi)]
  · simp [grow_new]
theorem join_sgn2 (c d : Str) (x y : Nat) (hc : c = ⟨#[x]⟩) (hd : d = ⟨#[y]⟩) (M : List Nat) (h9 : n ≤ 9) : joinD (.str (Str.ofString "")) (.list ((List.range n).map fun j => .str (if j ∈ M then c else d))) = some (.str ⟨((List.range n).map fun j => if j ∈ M then x else y).toArray⟩) := by
  rw [← join_row ((List.range n).map fun j => if j ∈ M then x else y) (by simp; omega), List.map_map]
  congr 2
  refine List.map_congr_left fun j _ => ?_
  show PyData.str _ = PyData.str _
  subst hc hd
  by_cases h : j ∈ M <;> simp [h]
/-- the law's own turned table -/
theorem law_turned (t : Tour n b) {i j : Nat} (hi : i < n) (hj : j < n) : ∃ v, sem__law_turned [tabD n b, ni i, ni j] = some v ∧ (i ≠ j → v = tabD n (turnB b i j)) := by
  have h9 := t.nine
  let ρ0 : Dn := [.dat (tabD n b), .dat (ni i), .dat (ni j), .na, .na]
  have c1 : (lcR (seqI (getD 0)) (setN 4) (strL (getD 4)) [4]) ρ0 = some (rowsD n (sgn b)) := by
    show (if ((List.range n).map fun i => PyData.str (rowS n b i)).length < lim then rowsM _ ((List.range n).map fun i => PyData.str (rowS n b i)) else none) = _
    rw [if_pos (by rw [List.length_map, List.length_range]; show n < 1000000; omega), rowsM_map (r := fun i => chrsD (rowS n b i)) fun k hk => ?_]
    · unfold rowsD
      congr 1
      refine List.map_congr_left fun x _ => ?_
      unfold chrsD
      simp [rowS]
    · show (if (rowS n b k).length < lim then some (chrsD (rowS n b k)) else none) = _
      rw [if_pos (by rw [rowS_len]; show n < 1000000; omega)]
  have ix : ∀ x y, x < n → y < n → ∀ ρ : Dn, ∀ f g : DF, f ρ = some (ni x) → g ρ = some (ni y) → getD 0 ρ = some (tabD n b) → bin2 ixD (bin2 ixD (getD 0) f) g ρ = some (.str ⟨#[sgn b x y]⟩) := fun x y hx hy ρ f g ef eg e0 => by
    rw [e_bin2, e_bin2, e0, ef, eg, Option.bind_some, Option.bind_some, ix_tab hx, Option.bind_some, Option.bind_some, ix_row (by omega) hy]
  refine ⟨.tuple ((List.range n).map fun x => .str ⟨((List.range n).map fun y => put2 (put2 (sgn b) i j (sgn b j i)) j i (sgn b i j) x y).toArray⟩), ?_, fun ne => ?_⟩
  · refine sem_end ?_
    unfold z__law_turned
    refine seq_nx (ρ' := [.dat (tabD n b), .dat (ni i), .dat (ni j), .rows (rowsD n (sgn b)), .na]) ?_ ?_
    · show Option.map _ ((lcR (seqI (getD 0)) (setN 4) (strL (getD 4)) [4]) ρ0) = _
      rw [c1]
      rfl
    have gR : ∀ M : Nat → Nat → Nat, getR 3 [.dat (tabD n b), .dat (ni i), .dat (ni j), .rows (rowsD n M), .na] = some (rowsD n M) := fun M => rfl
    have put : ∀ (M : Nat → Nat → Nat) (fa fb : DF) (x y c : Nat), x < n → y < n → fa [.dat (tabD n b), .dat (ni i), .dat (ni j), .rows (rowsD n M), .na] = some (ni x) → fb [.dat (tabD n b), .dat (ni i), .dat (ni j), .rows (rowsD n M), .na] = some (ni y) →
        rowPut 3 fa fb (.str ⟨#[c]⟩) [.dat (tabD n b), .dat (ni i), .dat (ni j), .rows (rowsD n M), .na] = some [.dat (tabD n b), .dat (ni i), .dat (ni j), .rows (rowsD n (put2 M x y c)), .na] := fun M fa fb x y c hx hy ea eb => by
      have i0 : ∀ m : Nat, intO (ni m) = some m := fun m => by
        show (if 0 ≤ (m : Int) then some (m : Int).toNat else none) = _
        rw [if_pos (by omega)]
        rfl
      unfold rowPut
      rw [gR, Option.bind_some, ea, Option.bind_some, i0, Option.bind_some, eb, Option.bind_some, i0, Option.bind_some]
      simp only [rowsD_get hx]
      rw [if_pos (by simp; exact hy), rowsD_set]
      rfl
    refine seq_nx (ρ' := [.dat (tabD n b), .dat (ni i), .dat (ni j), .rows (rowsD n (put2 (put2 (sgn b) i j (sgn b j i)) j i (sgn b i j))), .na]) ?_ ?_
    · unfold sRow2
      rw [e_consA, ix j i hj hi _ _ _ rfl rfl rfl, Option.bind_some, e_consA, ix i j hi hj _ _ _ rfl rfl rfl, Option.bind_some, e_nilA, Option.bind_some, Option.bind_some, Option.bind_some]
      simp only []
      rw [put _ _ _ i j _ hi hj rfl rfl, Option.bind_some, put _ _ _ j i _ hj hi rfl rfl, Option.bind_some]
    show (callA toTup (consA (lstI (lcL (seqI (getD 3)) (setN 4) yesT (bin2 joinD (cD (.str "")) (getD 4)) [4])) nilA) [.dat (tabD n b), .dat (ni i), .dat (ni j), .dat (.list ((rowsD n (put2 (put2 (sgn b) i j (sgn b j i)) j i (sgn b i j))).map .list)), .na]).bind _ = _
    rw [rows_join (by omega) rfl fun x => rfl]
    rfl
  · unfold tabD
    congr 1
    refine List.map_congr_left fun x hx => ?_
    have hx := List.mem_range.mp hx
    unfold rowS
    congr 3
    refine List.map_congr_left fun y hy => ?_
    have hy := List.mem_range.mp hy
    have a := t.anti i j hi hj ne
    unfold put2 sgn turnB
    by_cases c1 : x = j ∧ y = i
    · rw [if_pos c1]
      obtain ⟨rfl, rfl⟩ := c1
      have ne' := Ne.symm ne
      rw [a]
      simp [ne, ne']
    · rw [if_neg c1]
      by_cases c2 : x = i ∧ y = j
      · rw [if_pos c2]
        obtain ⟨rfl, rfl⟩ := c2
        have ne' := Ne.symm ne
        rw [a]
        simp [ne, ne']
      · rw [if_neg c2, if_neg (show ¬ ((x = i ∧ y = j) ∨ (x = j ∧ y = i)) from fun z => z.elim c2 c1)]
theorem law_grown (t : Tour n b) {M : List Nat} : sem__law_grown [tabD n b, tupN M] = some (tabD (n + 1) (growB n b M)) := by
  have h9 := t.nine
  have dot : Str.ofString "." = ⟨#[46]⟩ := by decide +kernel
  have plus : Str.ofString "+" = ⟨#[43]⟩ := by decide +kernel
  have minus : Str.ofString "-" = ⟨#[45]⟩ := by decide +kernel
  have s1 : Str.ofString "+-" = ⟨#[43, 45]⟩ := by decide +kernel
  have s2 : Str.ofString "-+" = ⟨#[45, 43]⟩ := by decide +kernel
  have pm : ∀ j, ixD (.str (Str.ofString "+-")) (.int (if j ∈ M then 1 else 0)) = some (.str (if j ∈ M then Str.ofString "-" else Str.ofString "+")) := fun j => by
    rw [s1, plus, minus]
    by_cases h : j ∈ M
    · rw [if_pos h, if_pos h]
      rfl
    · rw [if_neg h, if_neg h]
      rfl
  have mp : ∀ j, ixD (.str (Str.ofString "-+")) (.int (if j ∈ M then 1 else 0)) = some (.str (if j ∈ M then Str.ofString "+" else Str.ofString "-")) := fun j => by
    rw [s2, plus, minus]
    by_cases h : j ∈ M
    · rw [if_pos h, if_pos h]
      rfl
    · rw [if_neg h, if_neg h]
      rfl
  have c1 : (lstI (lcL (enumI (getD 0)) (setT [3, 4]) yesT (bin2 gAdd (getD 4) (bin2 ixD (cD (.str (Str.ofString "+-"))) (callA intD (consA (bin2 (gIn false) (getD 3) (getD 1)) nilA)))) [3, 4])) (startD 5 [tabD n b, tupN M]) = some (.list ((List.range n).map fun i => .str (rowS n b i ++ (if i ∈ M then Str.ofString "-" else Str.ofString "+")))) := by
    simp [seq_tab, show n < 1000000 by omega]
    refine (compA_congr (G := fun j => some (some (PyData.str (rowS n b j ++ if j ∈ M then Str.ofString "-" else Str.ofString "+")))) rfl fun j hj => ?_).trans compA_all
    have hj := List.mem_range.mp hj
    rw [pm]
    simp [List.getElem?_range hj, rowS_len]
    by_cases h : j ∈ M
    · simp [h, minus, Str.length]; omega
    · simp [h, plus, Str.length]; omega
  have c2 : ∀ d : PyData, (lstI (lcL (rng1I (callA lenD (consA (getD 0) nilA))) (setN 3) yesT (bin2 ixD (cD (.str (Str.ofString "-+"))) (callA intD (consA (bin2 (gIn false) (getD 3) (getD 1)) nilA))) [3])) [.dat (tabD n b), .dat (tupN M), .dat d, .na, .na] = some (.list ((List.range n).map fun j => .str (if j ∈ M then Str.ofString "+" else Str.ofString "-"))) := fun d => by
    simp [show n < 1000000 by omega]
    refine ⟨by omega, (compA_congr (G := fun j => some (some (PyData.str (if j ∈ M then Str.ofString "+" else Str.ofString "-")))) rfl fun j hj => ?_).trans compA_all⟩
    show Option.map some (ixD _ _) = _
    rw [mp]
    rfl
  rw [grow_tab]
  refine sem_end ?_
  unfold z__law_grown
  refine seq_nx (ρ' := [.dat (tabD n b), .dat (tupN M), .dat (.list ((List.range n).map fun i => .str (rowS n b i ++ (if i ∈ M then Str.ofString "-" else Str.ofString "+")))), .na, .na]) (by rw [e_sSet, c1]; rfl) ?_
  have js := join_sgn2 (n := n) (Str.ofString "+") (Str.ofString "-") 43 45 plus minus M (by omega)
  have js' : joinD (.str (Str.ofString "")) (.list ((List.range n).map fun j => .str (if j ∈ M then Str.ofString "+" else Str.ofString "-"))) = _ := js
  rw [e_sRet, e_bin2]
  have c3 := c2 (.list ((List.range n).map fun i => .str (rowS n b i ++ (if i ∈ M then Str.ofString "-" else Str.ofString "+"))))
  have ln : ((⟨((List.range n).map fun j => if j ∈ M then 43 else 45).toArray⟩ : Str)).length = n := by simp [Str.length]
  have l1 : (Str.ofString ".").length = 1 := by rw [dot]; rfl
  have f2 : (tupF (consA (bin2 gAdd (bin2 joinD (cD (.str (Str.ofString ""))) (lstI (lcL (rng1I (callA lenD (consA (getD 0) nilA))) (setN 3) yesT (bin2 ixD (cD (.str (Str.ofString "-+"))) (callA intD (consA (bin2 (gIn false) (getD 3) (getD 1)) nilA))) [3]))) (cD (.str (Str.ofString ".")))) nilA)) [.dat (tabD n b), .dat (tupN M), .dat (.list ((List.range n).map fun i => .str (rowS n b i ++ (if i ∈ M then Str.ofString "-" else Str.ofString "+")))), .na, .na] = some (.tuple [.str (⟨((List.range n).map fun j => if j ∈ M then 43 else 45).toArray⟩ ++ Str.ofString ".")]) := by
    rw [e_tupF, e_consA, e_bin2, e_bin2, c3, e_cD, e_cD, Option.bind_some, Option.bind_some, js', Option.bind_some, Option.bind_some, e_gAddS, if_pos (by rw [ln, l1]; omega)]
    rfl
  rw [f2]
  simp [show n < 1000000 by omega, show n + 1 < 1000000 by omega]
/-- the rows of some alternatives -/
theorem sub_rows (t : Tour n b) {M : List Nat} (hM : M ∈ Sn 0 n) : tabD M.length (sub b M) = .tuple (M.map fun x => .str ⟨(M.map (sgn b x)).toArray⟩) := by
  obtain ⟨h1, _⟩ := (Sn_mem n 0 M).mp hM
  unfold tabD
  have : (M.map fun x => PyData.str ⟨(M.map (sgn b x)).toArray⟩) = ((List.range M.length).map (nth M)).map fun x => PyData.str ⟨(M.map (sgn b x)).toArray⟩ := by rw [nth_all]
  rw [this, List.map_map]
  congr 1
  refine List.map_congr_left fun i hi => ?_
  have hi := List.mem_range.mp hi
  show PyData.str ⟨_⟩ = PyData.str ⟨_⟩
  congr 3
  have : M.map (sgn b (nth M i)) = ((List.range M.length).map (nth M)).map (sgn b (nth M i)) := by rw [nth_all]
  rw [this, List.map_map]
  refine List.map_congr_left fun j hj => ?_
  have hj := List.mem_range.mp hj
  show sgn (sub b M) i j = sgn b (nth M i) (nth M j)
  unfold sgn sub
  by_cases e : i = j
  · rw [if_pos e, if_pos (by rw [e])]
  · rw [if_neg e, if_neg fun q => e (nth_inj h1 hi hj q)]
theorem outs_cut {i : Nat} (hi : i < n) (h9 : n ≤ 9) : outs n [i] = (List.range n).take i ++ (List.range n).drop (i + 1) := by
  have : ∀ n, n < 10 → ∀ i, i < n → outs n [i] = (List.range n).take i ++ (List.range n).drop (i + 1) := by decide +kernel
  exact this n (by omega) i hi
theorem cut_str (x : Str) (l : List Nat) (e : x.cps.toList = l) (i : Nat) (h : i < l.length) : cutS x none (some (i : Int)) ++ cutS x (some ((i : Int) + 1)) none = ⟨(l.take i ++ l.drop (i + 1)).toArray⟩ ∧ (cutS x none (some (i : Int))).length + (cutS x (some ((i : Int) + 1)) none).length ≤ 2 * l.length := by
  have lx : x.length = l.length := by rw [← e]; simp [Str.length]
  have s1 : HT.sIx l.length l.length (some (i : Int)) = i := by rw [HT.sIx_nat]; omega
  have s2 : HT.sIx l.length 0 (some ((i : Int) + 1)) = i + 1 := by
    have := HT.sIx_nat l.length 0 (i + 1)
    rw [Int.natCast_add] at this
    rw [show ((1 : Nat) : Int) = 1 from rfl] at this
    rw [this]
    omega
  have c1 : cutS x none (some (i : Int)) = ⟨(l.take i).toArray⟩ := by
    unfold cutS
    rw [e, lx, s1]
    rfl
  have c2 : cutS x (some ((i : Int) + 1)) none = ⟨(l.drop (i + 1)).toArray⟩ := by
    unfold cutS
    rw [e, lx, s2]
    show (⟨((l.drop (i + 1)).take (l.length - (i + 1))).toArray⟩ : Str) = _
    rw [List.take_of_length_le (by rw [List.length_drop]; exact Nat.le_refl _)]
  rw [c1, c2, str_app]
  refine ⟨rfl, ?_⟩
  simp [Str.length]
  omega
theorem law_shrunk (t : Tour n b) {i : Nat} (hi : i < n) : sem__law_shrunk [tabD n b, ni i] = some (tabD (outs n [i]).length (sub b (outs n [i]))) := by
  have h9 := t.nine
  have oc := outs_cut hi h9
  rw [sub_rows t (outs_set [i])]
  have row : ∀ x, (rowS n b x).cps.toList = (List.range n).map (sgn b x) := fun x => by simp [rowS]
  have c1 : (lstI (lcL (seqI (getD 0)) (setN 3) yesT (bin2 gAdd (sliceF (getD 3) noP (someP (getD 1))) (sliceF (getD 3) (someP (bin2 gAdd (getD 1) (cD (.int 1)))) noP)) [3])) (startD 4 [tabD n b, ni i]) = some (.list ((List.range n).map fun x => .str ⟨((outs n [i]).map (sgn b x)).toArray⟩)) := by
    simp [items_tab, show n < 1000000 by omega]
    refine (compA_congr (G := fun x => some (some (PyData.str ⟨((outs n [i]).map (sgn b x)).toArray⟩))) rfl fun x hx => ?_).trans compA_all
    obtain ⟨q1, q2⟩ := cut_str (rowS n b x) _ (row x) i (by simp; exact hi)
    simp only [rowS_len]
    rw [if_pos (by omega), if_pos (by omega), if_pos (by simp at q2; omega), q1, oc]
    simp only [List.map_append, List.map_take, List.map_drop]
  refine sem_end ?_
  unfold z__law_shrunk
  refine seq_nx (ρ' := [.dat (tabD n b), .dat (ni i), .dat (.list ((List.range n).map fun x => .str ⟨((outs n [i]).map (sgn b x)).toArray⟩)), .na]) (by rw [e_sSet, c1]; rfl) ?_
  simp
  refine ⟨by omega, ?_⟩
  rw [← List.map_take, ← List.map_drop, ← List.map_append, ← oc]
theorem with_x (t : Tour n b) {M : List Nat} (hM : M ∈ Sn 0 n) (h8 : n ≤ 8) : semx_with_another [tabD n b, tupN M] = some (.ok (tabD (n + 1) (growB n b M))) := by
  have h9 := t.nine
  have hs := is_set_eq t hM
  have dot : Str.ofString "." = ⟨#[46]⟩ := by decide +kernel
  have plus : Str.ofString "+" = ⟨#[43]⟩ := by decide +kernel
  have minus : Str.ofString "-" = ⟨#[45]⟩ := by decide +kernel
  have js := join_sgn2 (n := n) (Str.ofString "+") (Str.ofString "-") 43 45 plus minus M (by omega)
  have ln : ((⟨((List.range n).map fun j => if j ∈ M then 43 else 45).toArray⟩ : Str)).length = n := by simp [Str.length]
  have l1 : (Str.ofString ".").length = 1 := by rw [dot]; rfl
  have c1 : (lcL (enumI (getD 0)) (setT [3, 4]) yesT (bin2 gAdd (getD 4) (ifF (tstF (bin2 (gIn false) (getD 3) (getD 1))) (cD (.str "-")) (cD (.str "+")))) [3, 4]) (startD 5 [tabD n b, tupN M]) = some ((List.range n).map fun i => .str (rowS n b i ++ (if i ∈ M then Str.ofString "-" else Str.ofString "+"))) := by
    simp [seq_tab, show n < 1000000 by omega]
    refine (compA_congr (G := fun j => some (some (PyData.str (rowS n b j ++ if j ∈ M then Str.ofString "-" else Str.ofString "+")))) rfl fun j hj => ?_).trans compA_all
    have hj := List.mem_range.mp hj
    by_cases h : j ∈ M
    · simp [h, minus, Str.length, List.getElem?_range hj]
      have := rowS_len n b j
      unfold Str.length at this
      omega
    · simp [h, plus, Str.length, List.getElem?_range hj]
      have := rowS_len n b j
      unfold Str.length at this
      omega
  have c2 : ∀ d : List PyData, (lstI (lcL (rng1I (callA lenD (consA (getD 0) nilA))) (setN 3) yesT (ifF (tstF (bin2 (gIn false) (getD 3) (getD 1))) (cD (.str "+")) (cD (.str "-"))) [3])) [.dat (tabD n b), .dat (tupN M), .own d, .na, .na] = some (.list ((List.range n).map fun j => .str (if j ∈ M then Str.ofString "+" else Str.ofString "-"))) := fun d => by
    simp [show n < 1000000 by omega]
    refine ⟨by omega, fun j hj => ?_⟩
    by_cases h : j ∈ M <;> simp [h]
  rw [grow_tab]
  refine semX_rt' ?_
  unfold zx_with_another
  refine seqX_nx' (ρ' := startD 5 [tabD n b, tupN M]) (by simp [hs]) ?_
  refine seqX_nx' (ρ' := startD 5 [tabD n b, tupN M]) (by simp; omega) ?_
  show Option.map Except.ok _ = _
  have val : (sSeq (sOwn 2 (lcL (enumI (getD 0)) (setT [3, 4]) yesT (bin2 gAdd (getD 4) (ifF (tstF (bin2 (gIn false) (getD 3) (getD 1))) (cD (.str "-")) (cD (.str "+")))) [3, 4]))
      (sSeq (sApp 2 (bin2 gAdd (bin2 joinD (cD (.str "")) (lstI (lcL (rng1I (callA lenD (consA (getD 0) nilA))) (setN 3) yesT (ifF (tstF (bin2 (gIn false) (getD 3) (getD 1))) (cD (.str "+")) (cD (.str "-"))) [3]))) (cD (.str "."))))
      (fun ρ => (sRet (callA toTup (consA (getD 2) nilA))) (frzD 2 ρ)))) (startD 5 [tabD n b, tupN M]) = some (.rt (.tuple (((List.range n).map fun i => .str (rowS n b i ++ (if i ∈ M then Str.ofString "-" else Str.ofString "+"))) ++ [.str (⟨((List.range n).map fun j => if j ∈ M then 43 else 45).toArray⟩ ++ Str.ofString ".")]))) := by
    refine seq_nx (ρ' := [.dat (tabD n b), .dat (tupN M), .own ((List.range n).map fun i => .str (rowS n b i ++ (if i ∈ M then Str.ofString "-" else Str.ofString "+"))), .na, .na]) (by rw [e_sOwn, c1]; rfl) ?_
    have f2 : (bin2 gAdd (bin2 joinD (cD (.str "")) (lstI (lcL (rng1I (callA lenD (consA (getD 0) nilA))) (setN 3) yesT (ifF (tstF (bin2 (gIn false) (getD 3) (getD 1))) (cD (.str "+")) (cD (.str "-"))) [3]))) (cD (.str "."))) [.dat (tabD n b), .dat (tupN M), .own ((List.range n).map fun i => .str (rowS n b i ++ (if i ∈ M then Str.ofString "-" else Str.ofString "+"))), .na, .na] = some (.str (⟨((List.range n).map fun j => if j ∈ M then 43 else 45).toArray⟩ ++ Str.ofString ".")) := by
      rw [e_bin2, e_bin2, c2, e_cD, e_cD, Option.bind_some, Option.bind_some, js, Option.bind_some, Option.bind_some, e_gAddS, if_pos (by rw [ln, l1]; omega)]
    refine seq_nx (ρ' := [.dat (tabD n b), .dat (tupN M), .own (((List.range n).map fun i => .str (rowS n b i ++ (if i ∈ M then Str.ofString "-" else Str.ofString "+"))) ++ [.str (⟨((List.range n).map fun j => if j ∈ M then 43 else 45).toArray⟩ ++ Str.ofString ".")]), .na, .na]) (by rw [e_sApp, f2]; simp [show n < 1000000 by omega]) ?_
    simp [frzD, show n + 1 < 1000000 by omega]
  rw [val]
  rfl
theorem without_x (t : Tour n b) {i : Nat} (hi : i < n) (h1 : 1 < n) : semx_without_one [tabD n b, ni i] = some (.ok (tabD (outs n [i]).length (sub b (outs n [i])))) := by
  have h9 := t.nine
  have rx := is_alt_any t (ni i)
  have al : (altO n (ni i)).isSome = true := by simp [altO, ni]; omega
  rw [al] at rx
  have o := outs_eq (M := [i]) t
  have p := pick_eq t (outs_set (n := n) [i])
  have tn : PyData.tuple [ni i] = tupN [i] := rfl
  simp [semx_without_one, zx_without_one, semx_require_alternative, zx_require_alternative, rx, tn, o, p]
  intro h
  omega
end
end DS
set_option maxHeartbeats 4000000
namespace DS
open PySem PySem.Spec PyProof.Rows L2
section
variable {n : Nat} {b : Nat → Nat → Bool}
theorem nAT : ¬ (Str.ofString "add" = Str.ofString "turn") := by decide +kernel
theorem nRT : ¬ (Str.ofString "remove" = Str.ofString "turn") := by decide +kernel
theorem nRA : ¬ (Str.ofString "remove" = Str.ofString "add") := by decide +kernel
theorem nTA : ¬ (Str.ofString "turn" = Str.ofString "add") := by decide +kernel
theorem nTR : ¬ (Str.ofString "turn" = Str.ofString "remove") := by decide +kernel
theorem nSS : ¬ (Str.ofString "SameAlternative" = Str.ofString "state") := by decide +kernel
theorem nTS : ¬ (Str.ofString "TooLarge" = Str.ofString "state") := by decide +kernel
theorem nLS : ¬ (Str.ofString "LastOne" = Str.ofString "state") := by decide +kernel
theorem grow_tour (t : Tour n b) {M : List Nat} (h8 : n ≤ 8) (hM : M ∈ Sn 0 n) : Tour (n + 1) (growB n b M) where
  one := by omega
  nine := by omega
  anti := fun i j hi hj ne => by
    unfold growB
    by_cases c1 : i = n
    · rw [if_pos c1, if_neg (show ¬ j = n by omega), if_pos c1, Bool.not_not]
    · rw [if_neg c1]
      by_cases c2 : j = n
      · rw [if_pos c2, if_pos c2]
      · rw [if_neg c2, if_neg c2, if_neg c1]
        exact t.anti i j (by omega) (by omega) ne
  diag := fun i => by
    unfold growB
    by_cases c1 : i = n
    · rw [if_pos c1, c1]
      have := set_low hM
      cases h : M.contains n
      · rfl
      · have := this n (by simpa using h)
        omega
    · rw [if_neg c1, if_neg c1]
      exact t.diag i
theorem outs_len1 {i : Nat} (hi : i < n) (h9 : n ≤ 9) : (outs n [i]).length = n - 1 := by
  rw [outs_cut hi h9]
  simp
  omega
theorem Ed.tour (t : Tour n b) : ∀ {e : Ed}, e.okV n → Tour (e.n' n) (e.b' n b)
  | .turn i j, ⟨h1, h2, h3⟩ => turn_tour t h1 h2 h3
  | .add M, ⟨h1, h2⟩ => grow_tour t h2 h1
  | .rem i, ⟨h1, h2⟩ => sub_tour t (outs_set [i]) (by rw [outs_len1 h1 t.nine]; omega)
theorem alt_nat {i : Nat} (h : i < n) : altO n (ni i) = some i := by
  show (if 0 ≤ (i : Int) ∧ (i : Int) < n then some (i : Int).toNat else none) = _
  rw [if_pos ⟨by omega, by omega⟩]
  rfl
theorem edited_eq (t : Tour n b) : ∀ {e : Ed}, e.okV n → semx_edited_table [tabD n b, e.d] = some (.ok (tabD (e.n' n) (e.b' n b)))
  | .turn i j, ⟨h1, h2, h3⟩ => by
    have tx := turnX t (ni i) (ni j)
    rw [alt_nat h1, alt_nat h2] at tx
    simp only [if_neg h3, turnD_tab t h1 h2 h3] at tx
    have e1 : ∀ x y z : PyData, ixD (.tuple [x, y, z]) (.int 1) = some y := fun _ _ _ => rfl
    have e2 : ∀ x y z : PyData, ixD (.tuple [x, y, z]) (.int 2) = some z := fun _ _ _ => rfl
    have e0 : ∀ x y z : PyData, ixD (.tuple [x, y, z]) (.int 0) = some x := fun _ _ _ => rfl
    simp [semx_edited_table, zx_edited_table, Ed.d, Ed.n', Ed.b', e0, e1, e2, tx]
  | .add M, ⟨h1, h2⟩ => by
    have tx := with_x t h1 h2
    have e1 : ∀ x y : PyData, ixD (.tuple [x, y]) (.int 1) = some y := fun _ _ => rfl
    have e0 : ∀ x y : PyData, ixD (.tuple [x, y]) (.int 0) = some x := fun _ _ => rfl
    simp [semx_edited_table, zx_edited_table, Ed.d, Ed.n', Ed.b', nAT, nRT, nRA, e0, e1, tx]
  | .rem i, ⟨h1, h2⟩ => by
    have tx := without_x t h1 h2
    have e1 : ∀ x y : PyData, ixD (.tuple [x, y]) (.int 1) = some y := fun _ _ => rfl
    have e0 : ∀ x y : PyData, ixD (.tuple [x, y]) (.int 0) = some x := fun _ _ => rfl
    simp [semx_edited_table, zx_edited_table, Ed.d, Ed.n', Ed.b', nAT, nRT, nRA, e0, e1, tx]
theorem from_nat {i : Nat} {lo hi : Int} : sem__law_from [ni i, .int lo, .int hi] = some (.bool (decide (lo ≤ i ∧ (i : Int) ≤ hi))) := by
  have e1 : isiS (tyN (ni i)) "int" = true := rfl
  have e2 : isiS (tyN (ni i)) "bool" = false := rfl
  simp [sem__law_from, z__law_from, e1, e2]
  by_cases h : lo ≤ (i : Int) <;> simp [h]
theorem law_is_set (t : Tour n b) {M : List Nat} (hM : M ∈ Sn 0 n) : sem__law_is_set [ni n, tupN M] = some (.bool true) := by
  have h9 := t.nine
  have hl := set_len hM
  have lo := set_low hM
  have e1 : isiS (tyN (tupN M)) "tuple" = true := rfl
  obtain ⟨r, h1, h2⟩ := srt_eq M (by omega) (f := getD 1) (ρ := [.dat (ni n), .dat (tupN M), .na]) rfl
  have r1 : r = true := h2.mpr ((Sn_mem n 0 M).mp hM).1
  subst r1
  simp [sem__law_is_set, z__law_is_set, e1, from_nat]
  refine ⟨by omega, ?_⟩
  rw [if_neg (by
    rintro ⟨x, hx, h⟩
    have := lo x hx
    omega), h1]
  rfl
theorem due_eq (t : Tour n b) {most : Nat} (hm : most ≤ 10) : ∀ {e : Ed}, e.okS n most → ∃ v, sem__law_due [tabD n b, e.d] = some v ∧ (e.okV n → v = .tuple [.str "state", tabD (e.n' n) (e.b' n b)]) ∧ ∃ x ds, v = .tuple (.str x :: ds) ∧ (x = "state" → e.okV n)
  | .turn i j, ⟨h1, h2⟩ => by
    obtain ⟨v, h3, h4⟩ := law_turned t h1 h2
    have e1 : ∀ x y z : PyData, ixD (.tuple [x, y, z]) (.int 1) = some y := fun _ _ _ => rfl
    have e2 : ∀ x y z : PyData, ixD (.tuple [x, y, z]) (.int 2) = some z := fun _ _ _ => rfl
    have e0 : ∀ x y z : PyData, ixD (.tuple [x, y, z]) (.int 0) = some x := fun _ _ _ => rfl
    have st : Str.ofString "turn" = Str.ofString "turn" := rfl
    have i0 : ∀ x y : PyData, ixD (.list [x, y]) (.int 0) = some x := fun _ _ => rfl
    have i1 : ∀ x y : PyData, ixD (.list [x, y]) (.int 1) = some y := fun _ _ => rfl
    by_cases ij : i = j
    · refine ⟨.tuple [.str "SameAlternative", ni i], ?_, fun h => absurd ij h.2.2, _, _, rfl, fun h => absurd h nSS⟩
      subst ij
      simp [sem__law_due, z__law_due, sPar, Ed.d, nTA, nTR, e0, e1, e2, from_nat, h3, i0, i1]
      rw [if_neg (by omega), if_neg (by omega)]
    · refine ⟨.tuple [.str "state", tabD n (turnB b i j)], ?_, fun _ => rfl, _, _, rfl, fun _ => ⟨h1, h2, ij⟩⟩
      rw [h4 ij] at h3
      simp [sem__law_due, z__law_due, sPar, Ed.d, nTA, nTR, e0, e1, e2, from_nat, h3, i0, i1, ij]
      rw [if_neg (by omega), if_neg (by omega)]
  | .add M, ⟨h1, h2⟩ => by
    have h3 := law_grown t (M := M)
    have h4 := law_is_set t h1
    have e1 : ∀ x y : PyData, ixD (.tuple [x, y]) (.int 1) = some y := fun _ _ => rfl
    have e0 : ∀ x y : PyData, ixD (.tuple [x, y]) (.int 0) = some x := fun _ _ => rfl
    have i0 : ∀ x y : PyData, ixD (.list [x, y]) (.int 0) = some x := fun _ _ => rfl
    have i1 : ∀ x y : PyData, ixD (.list [x, y]) (.int 1) = some y := fun _ _ => rfl
    by_cases h8 : n ≤ 8
    · refine ⟨.tuple [.str "state", tabD (n + 1) (growB n b M)], ?_, fun _ => rfl, _, _, rfl, fun _ => ⟨h1, h8⟩⟩
      have : ¬ (8 : Int) < n := by omega
      simp [sem__law_due, z__law_due, sPar, Ed.d, e0, e1, h3, h4, i0, i1, this]
    · refine ⟨.tuple [.str "TooLarge", .int 9], ?_, fun h => absurd h.2 h8, _, _, rfl, fun h => absurd h nTS⟩
      have : (8 : Int) < n := by omega
      simp [sem__law_due, z__law_due, sPar, Ed.d, e0, e1, h3, h4, i0, i1, this]
  | .rem i, h1 => by
    have h1 : i < n := h1
    have h3 := law_shrunk t h1
    have e1 : ∀ x y : PyData, ixD (.tuple [x, y]) (.int 1) = some y := fun _ _ => rfl
    have e0 : ∀ x y : PyData, ixD (.tuple [x, y]) (.int 0) = some x := fun _ _ => rfl
    have i0 : ∀ x y : PyData, ixD (.list [x, y]) (.int 0) = some x := fun _ _ => rfl
    have i1 : ∀ x y : PyData, ixD (.list [x, y]) (.int 1) = some y := fun _ _ => rfl
    by_cases n1 : 1 < n
    · refine ⟨.tuple [.str "state", tabD (outs n [i]).length (sub b (outs n [i]))], ?_, fun _ => rfl, _, _, rfl, fun _ => ⟨h1, n1⟩⟩
      have : ¬ (n : Int) = 1 := by omega
      simp [sem__law_due, z__law_due, sPar, Ed.d, nRA, e0, e1, from_nat, h3, i0, i1, this]
      omega
    · refine ⟨.tuple [.str "LastOne"], ?_, fun h => absurd h.2 n1, _, _, rfl, fun h => absurd h nLS⟩
      have : (n : Int) = 1 := by omega
      simp [sem__law_due, z__law_due, sPar, Ed.d, nRA, e0, e1, from_nat, h3, i0, i1, this]
      omega
end
end DS
set_option maxHeartbeats 4000000
namespace DS
open PySem PySem.Spec PyProof.Rows L2
section
variable {P : Program} {w : World} {K : PySem.W.Frag} {mg : Str → Option Value} {base : Heap} {a : Ad}
theorem ok__law_table (T : Tx K mg a) : FnG P w K mg base CX0 2 a.f__law_table a.d__law_table ["_law_stream_here", "_law_most"] (spD famS K 1 w__law_table) := by
  refine fn_deck (k := 1) famS_ok T.F__law_table sc__law_table rfl (by decide) fun cdv A outer s H E S ok fam h0 hgd hr => ?_
  have nd := sc__law_table.nd
  refine ⟨_, (pds_cons (pd_setX (i := 2) nd rfl (by first | exact Or.inl rfl | exact Or.inr rfl) (px_op ok of_addA (px_pf ok pf_int) (px_callD (i := 0) (m := 1) ok ((ok__law_take T).up (by first | decide | omega)) mono__law_take fam hgd hr (by rfl) T.g__law_take T.F__law_take.kp T.b__law_take rfl (by first | exact Or.inl rfl | exact Or.inr (Or.inl rfl) | exact Or.inr (Or.inr rfl)) (pxa_cons (px_pf ok (pf_v 1)) pxa_nil))))
      (pds_cons (pd_setX (i := 3) nd rfl (by first | exact Or.inl rfl | exact Or.inr rfl) (px_callD (i := 0) (m := 1) ok ((ok__law_take T).up (by first | decide | omega)) mono__law_take fam hgd hr (by rfl) T.g__law_take T.F__law_take.kp T.b__law_take rfl (by first | exact Or.inl rfl | exact Or.inr (Or.inl rfl) | exact Or.inr (Or.inr rfl)) (pxa_cons (px_pf ok pf_int) pxa_nil)))
      (pds_cons (pd_rows (i := 4) ok rfl nd rfl rfl (sw_true rfl rfl rfl (by decide +kernel)) (pif_range1 (by rfl) T.z_range (pf_v 2)) (blkOk_by (own := [("_law_k", 8)]) (by rfl)) (fun _ _ _ _ _ => (pgf_name (i := 8) nd rfl (by first | exact Or.inl rfl | exact Or.inr rfl))) (fun _ _ _ _ _ => (pfl_rep (pfa_cons pf_str pfa_nil) (pf_v 2))))
      (pds_cons (pd_for ok PassesOwn.never rfl (pif_range1 (by rfl) T.z_range (pf_v 2)) (pgf_name (i := 5) nd rfl (by first | exact Or.inl rfl | exact Or.inr rfl)) (sets_name 5)
      (pds_one (pd_for ok PassesOwn.never rfl (pif_range1 (by rfl) T.z_range (pf_v 5)) (pgf_name (i := 6) nd rfl (by first | exact Or.inl rfl | exact Or.inr rfl)) (sets_name 6)
      (pds_cons (pd_setX (i := 7) nd rfl (by first | exact Or.inl rfl | exact Or.inr rfl) (px_ix ok (px_lst ok (pxa_cons (px_callD (i := 0) (m := 1) ok ((ok__law_take T).up (by first | decide | omega)) mono__law_take fam hgd hr (by rfl) T.g__law_take T.F__law_take.kp T.b__law_take rfl (by first | exact Or.inl rfl | exact Or.inr (Or.inl rfl) | exact Or.inr (Or.inr rfl)) (pxa_cons (px_pf ok pf_int) pxa_nil)) (pxa_cons (px_pf ok (pf_callTy cf_int (by rfl) T.z_int (by decide +kernel) (pfa_cons (pf_cmp of_lt (pf_op of_mul (pf_op of_sub (pf_v 5) (pf_v 6)) pf_int) (pf_v 2) (nomark _)) pfa_nil))) (pxa_cons (px_callTy ok cf_int (by rfl) T.z_int (by decide +kernel) (pxa_cons (px_cmp ok (of_eq hr.units) (px_callD (i := 0) (m := 1) ok ((ok__law_take T).up (by first | decide | omega)) mono__law_take fam hgd hr (by rfl) T.g__law_take T.F__law_take.kp T.b__law_take rfl (by first | exact Or.inl rfl | exact Or.inr (Or.inl rfl) | exact Or.inr (Or.inr rfl)) (pxa_cons (px_pf ok pf_int) pxa_nil)) (px_pf ok pf_int) (nomark _)) pxa_nil)) pxa_nil)))) (px_pf ok (pf_v 3))))
      (pds_one (pd_row2L (i := 4) ok (pfa_cons (pf_ix pf_str (pf_v 7)) (pfa_cons (pf_ix pf_str (pf_v 7)) pfa_nil)) (pg_unl (n := 2) rfl (pgs_cons (pg_sub (pe_ix ix_list (pe_var (i := 4) rfl (by first | exact Or.inl rfl | exact Or.inr (Or.inl rfl) | exact Or.inr (Or.inr rfl))) (pf_v 5).pe (fun _ _ => rfl)) (pf_v 6).pe set_list) (pgs_cons (pg_sub (pe_ix ix_list (pe_var (i := 4) rfl (by first | exact Or.inl rfl | exact Or.inr (Or.inl rfl) | exact Or.inr (Or.inr rfl))) (pf_v 6).pe (fun _ _ => rfl)) (pf_v 5).pe set_list) pgs_nil)))))))))
      (pds_freeze ok 4 (pds_one (pd_ret ok (pf_callTy cf_tuple (by rfl) T.z_tuple (by decide +kernel) (pfa_cons (pfl_lc rfl nd (pif_seq (pf_v 4)) (blkOk_by (own := [("_law_row", 9)]) (by rfl)) (fun _ _ _ _ _ => (pgf_name (i := 9) nd rfl (by first | exact Or.inl rfl | exact Or.inr rfl))) (fun _ _ _ _ _ => ptsf_nil) (fun _ _ _ _ _ => (pf_join pf_str (pf_v 9)))).pf pfa_nil))))))))), fun ds n Q hl hw => ?_⟩
  obtain ⟨hi, rfl, h1, h9, hn, q⟩ := hw
  simp
  refine ⟨by omega, by omega, by omega, fun k hk => ⟨ni (1 + k), by simp [ni], by omega, fun way hway => ?_⟩⟩
  have hm1 : 1 ≤ 1 + k := by omega
  have hm9 : 1 + k ≤ 9 := by omega
  have hmh : 1 + k ≤ hi := by omega
  generalize 1 + k = m at hm1 hm9 hmh ⊢
  refine ⟨rowsD m fun _ _ => 46, ?_, ?_⟩
  · rw [← rowsD_one]
    exact lcR_rows (rng1_nat rfl (by omega)) (by omega) fun x => rep_one rfl rfl (by omega)
  refine for_rng (m := m) (rng1_nat rfl (by omega)) (fun i ρ' n' => ∃ M e5 e6 e7, ρ' = [.dk, .dat (ni hi), .dat (ni m), .dat (ni way), .rows (rowsD m M), e5, e6, e7, .na, .na] ∧ n' ≤ n + 2 + i * 18 ∧ PrsJ m i 0 M) ⟨fun _ _ => 46, _, _, _, rfl, by omega, PrsJ.start⟩ (fun i ρ' n' hi' hI => ?_) fun ρ' n' hI => ?_
  · obtain ⟨M, e5, e6, e7, rfl, hn', pr⟩ := hI
    refine ⟨_, rfl, ?_⟩
    refine for_rng (m := i) (rng1_nat rfl (by omega)) (fun c ρ' n'' => ∃ M e6 e7, ρ' = [.dk, .dat (ni hi), .dat (ni m), .dat (ni way), .rows (rowsD m M), .dat (ni i), e6, e7, .na, .na] ∧ n'' ≤ n' + 2 * c ∧ PrsJ m i c M) ⟨M, _, _, rfl, by omega, pr⟩ (fun c ρ' n'' hc hI => ?_) fun ρ' n'' hI => ?_
    · obtain ⟨M, e6, e7, rfl, hn'', pr⟩ := hI
      refine ⟨_, rfl, ?_⟩
      simp
      refine ⟨by omega, fun k hk => ⟨by omega, fun k2 hk2 => ?_⟩⟩
      have wv : ∃ w : Bool, ixD (PyData.list [ni k, PyData.int (if ((i : Int) - c) * 2 < m then 1 else 0), PyData.int (if k2 = 0 then 1 else 0)]) (ni way) = some (.int (if w = true then 1 else 0)) := by
        have : way = 0 ∨ way = 1 ∨ way = 2 := by omega
        rcases this with rfl | rfl | rfl
        · have : k = 0 ∨ k = 1 := by omega
          rcases this with rfl | rfl
          · exact ⟨false, rfl⟩
          · exact ⟨true, rfl⟩
        · by_cases z : ((i : Int) - c) * 2 < m
          · exact ⟨true, by rw [if_pos z]; rfl⟩
          · exact ⟨false, by rw [if_neg z]; rfl⟩
        · by_cases z : k2 = 0
          · exact ⟨true, by rw [if_pos z]; rfl⟩
          · exact ⟨false, by rw [if_neg z]; rfl⟩
      obtain ⟨w, ew⟩ := wv
      refine ⟨_, ew, .str ⟨#[if w then 43 else 45]⟩, .str ⟨#[if w then 45 else 43]⟩, _, _, ?_, rowPut_nat rfl rfl rfl (by omega) (by omega), rowPut_nat rfl rfl rfl (by omega) (by omega), ?_⟩
      · have p1 : Str.ofString "-+" = (⟨#[45, 43]⟩ : Str) := by decide +kernel
        have p2 : Str.ofString "+-" = (⟨#[43, 45]⟩ : Str) := by decide +kernel
        rw [p1, p2]
        cases w <;> rfl
      · exact ⟨_, ⟨_, _, rfl⟩, by omega, pr.store hi' hc w⟩
    · obtain ⟨M, e6, e7, rfl, hn'', pr⟩ := hI
      exact ⟨M, _, _, _, rfl, by omega, pr.next (Nat.le_refl _)⟩
  · obtain ⟨M, e5, e6, e7, rfl, hn', pr⟩ := hI
    have dr := pr.all
    refine .inr ⟨[.dk, .dat (ni hi), .dat (ni m), .dat (ni way), .dat (.list ((rowsD m M).map .list)), e5, e6, e7, .na, .na], rfl, tabD m (fun i j => decide (i < m ∧ j < m ∧ i ≠ j ∧ M i j = 43)), ?_, q m _ _ (tour_of hm1 hm9 dr) hmh (by omega)⟩
    rw [tab_of dr pr.diag]
    have rj := rows_join (te := bin2 joinD (cD (.str "")) (getD 9)) (ρ := [.dk, .dat (ni hi), .dat (ni m), .dat (ni way), .dat (.list ((rowsD m M).map .list)), e5, e6, e7, .na, .na]) (k := 9) (fi := seqI (getD 4)) (M := M) (m := m) (by omega) rfl fun x => rfl
    simp at rj ⊢
    exact rj
theorem ok__law_wins (T : Tx K mg a) : FnG P w K mg base CX0 2 a.f__law_wins a.d__law_wins ["_law_stream_here", "_law_size"] (spD famS K 1 w__law_wins) := by
  refine fn_deck (k := 1) famS_ok T.F__law_wins sc__law_wins rfl (by decide) fun cdv A outer s H E S ok fam h0 hgd hr => ?_
  have nd := sc__law_wins.nd
  refine ⟨_, (pds_one (pd_retX (px_callTy ok cf_tuple (by rfl) T.z_tuple (by decide +kernel) (pxa_cons (px_lcIf ok rfl nd (pif_range1 (by rfl) T.z_range (pf_v 1)) (blkOk_by (own := [("_law_one", 2)]) (by rfl)) (fun _ _ _ _ _ => (pgf_name (i := 2) nd rfl (by first | exact Or.inl rfl | exact Or.inr rfl))) (sets_name 2) s H (fun S ok lk _ _ _ _ _ => have fam := lk.fam fam; (pxt_cmp ok (of_eq hr.units) (px_callD (i := 0) (m := 1) ok ((ok__law_take T).up (by first | decide | omega)) mono__law_take fam hgd hr (by rfl) T.g__law_take T.F__law_take.kp T.b__law_take rfl (by first | exact Or.inl rfl | exact Or.inr (Or.inl rfl) | exact Or.inr (Or.inr rfl)) (pxa_cons (px_pf ok pf_int) pxa_nil)) (px_pf ok pf_int) (nomark _))) (fun S ok lk _ _ _ _ _ => have fam := lk.fam fam; (px_pf ok (pf_v 2)))) pxa_nil)))), fun ds n Q hl hw => ?_⟩
  obtain ⟨m, rfl, h9, hn, q⟩ := hw
  simp
  refine lcIf_rng (m := m) (by simp [show m ≤ 1000000 by omega]) (by omega) (fun i acc ρ' n' => ∃ js : List Nat, acc = js.map ni ∧ js.Pairwise (· < ·) ∧ (∀ j ∈ js, j < i) ∧ n' ≤ n + i ∧ ρ' = [.dk, .dat (ni m), .na]) ⟨[], rfl, by simp, by simp, by omega, by simp⟩ (fun i acc ρ' n' hi hI => ?_) fun acc ρ' n' hI hl => ?_
  · obtain ⟨js, rfl, h1, h2, h3, rfl⟩ := hI
    simp
    refine ⟨by omega, fun k hk => ?_⟩
    by_cases h0 : k = 0
    · exact .inr ⟨h0, js ++ [i], by simp, List.pairwise_append.mpr ⟨h1, by simp, fun x hx y hy => by rw [List.mem_singleton.mp hy]; exact h2 x hx⟩, fun z hz => (List.mem_append.mp hz).elim (fun h => Nat.lt_succ_of_lt (h2 z h)) fun h => by rw [List.mem_singleton.mp h]; exact Nat.lt_succ_self _, by omega⟩
    · exact .inl ⟨h0, js, rfl, h1, fun z hz => Nat.lt_succ_of_lt (h2 z hz), by omega⟩
  · obtain ⟨js, rfl, h1, h2, h3, rfl⟩ := hI
    refine ⟨_, rfl, q js n' ((Sn_mem m 0 js).mpr ⟨h1, fun x hx => ⟨by omega, by have := h2 x hx; omega⟩⟩) (by omega)⟩
theorem ok__law_some_edit (T : Tx K mg a) : FnG P w K mg base CX0 3 a.f__law_some_edit a.d__law_some_edit ["_law_stream_here", "_law_table_here", "_law_most"] (spD famS K 2 w__law_some_edit) := by
  refine fn_deckD (k := 2) famS_ok T.F__law_some_edit sc__law_some_edit rfl (by decide) fun cdv A outer s H E S ok fam h0 hgd hr => ?_
  have nd := sc__law_some_edit.nd
  refine ⟨_, (pds_cons (pd_parX (i := 3) (j := 4) rfl nd rfl rfl (by decide) rfl rfl (pxa_cons (px_pf ok (pf_callB cf_len (by rfl) T.z_len (by decide +kernel) (pfa_cons (pf_v 1) pfa_nil))) (pxa_cons (px_callD (i := 0) (m := 1) ok ((ok__law_take T).up (by first | decide | omega)) mono__law_take fam hgd hr (by rfl) T.g__law_take T.F__law_take.kp T.b__law_take rfl (by first | exact Or.inl rfl | exact Or.inr (Or.inl rfl) | exact Or.inr (Or.inr rfl)) (pxa_cons (px_pf ok pf_int) pxa_nil)) pxa_nil)) (by rfl))
      (pds_cons (pd_setX (i := 5) nd rfl (by first | exact Or.inl rfl | exact Or.inr rfl) (px_callD (i := 0) (m := 1) ok ((ok__law_take T).up (by first | decide | omega)) mono__law_take fam hgd hr (by rfl) T.g__law_take T.F__law_take.kp T.b__law_take rfl (by first | exact Or.inl rfl | exact Or.inr (Or.inl rfl) | exact Or.inr (Or.inr rfl)) (pxa_cons (px_pf ok (pf_v 3)) pxa_nil)))
      (pds_cons (pd_if ok (pft_cmp of_lt (pf_v 4) pf_int (nomark _)) (pds_one (pd_retX (px_tup ok (pxa_cons (px_pf ok pf_str) (pxa_cons (px_pf ok (pf_v 5)) (pxa_cons (px_op ok of_mod (px_op ok of_addA (px_pf ok (pf_v 5)) (px_callD (i := 0) (m := 1) ok ((ok__law_take T).up (by first | decide | omega)) mono__law_take fam hgd hr (by rfl) T.g__law_take T.F__law_take.kp T.b__law_take rfl (by first | exact Or.inl rfl | exact Or.inr (Or.inl rfl) | exact Or.inr (Or.inr rfl)) (pxa_cons (px_pf ok (pf_v 3)) pxa_nil))) (px_pf ok (pf_v 3))) pxa_nil)))))) pds_nil)
      (pds_cons (pd_if ok (pfw_and (pft_cmp of_lt (pf_v 4) pf_int (nomark _)) (pfw_and1 (pft_cmp of_lt (pf_v 3) (pf_v 2) (nomark _)))).pft (pds_one (pd_retX (px_tup ok (pxa_cons (px_pf ok pf_str) (pxa_cons (px_callD (i := 0) (m := 1) ok ((ok__law_wins T).up (by first | decide | omega)) mono__law_wins fam hgd hr (by rfl) T.g__law_wins T.F__law_wins.kp T.b__law_wins rfl (by first | exact Or.inl rfl | exact Or.inr (Or.inl rfl) | exact Or.inr (Or.inr rfl)) (pxa_cons (px_pf ok (pf_v 3)) pxa_nil)) pxa_nil))))) pds_nil)
      (pds_cons (pd_if ok (pfw_and (pft_cmp (of_eq hr.units) (pf_v 4) pf_int (nomark _)) (pfw_and1 (pft_cmp of_gt (pf_v 3) pf_int (nomark _)))).pft (pds_one (pd_ret ok (pf_tup (pfa_cons pf_str (pfa_cons (pf_v 5) pfa_nil))))) pds_nil)
      (pds_one (pd_retX (px_ix ok (px_lst ok (pxa_cons (px_tup ok (pxa_cons (px_pf ok pf_str) (pxa_cons (px_pf ok (pf_v 5)) (pxa_cons (px_callD (i := 0) (m := 1) ok ((ok__law_take T).up (by first | decide | omega)) mono__law_take fam hgd hr (by rfl) T.g__law_take T.F__law_take.kp T.b__law_take rfl (by first | exact Or.inl rfl | exact Or.inr (Or.inl rfl) | exact Or.inr (Or.inr rfl)) (pxa_cons (px_pf ok (pf_v 3)) pxa_nil)) pxa_nil)))) (pxa_cons (px_pf ok (pf_tup (pfa_cons pf_str (pfa_cons (pf_v 5) pfa_nil)))) pxa_nil))) (px_callD (i := 0) (m := 1) ok ((ok__law_take T).up (by first | decide | omega)) mono__law_take fam hgd hr (by rfl) T.g__law_take T.F__law_take.kp T.b__law_take rfl (by first | exact Or.inl rfl | exact Or.inr (Or.inl rfl) | exact Or.inr (Or.inr rfl)) (pxa_cons (px_pf ok pf_int) pxa_nil)))))))))), fun ds n Q hl hw => ?_⟩
  obtain ⟨m, most, b, t, rfl, h0, hn, q⟩ := hw
  have m1 := t.one
  have m9 := t.nine
  simp
  refine ⟨by omega, fun k hk => ⟨by omega, by omega, by omega, fun i hi => ?_⟩⟩
  by_cases h3 : k < 3
  · refine .inr ⟨by omega, by omega, by omega, by omega, fun j hj => ⟨ni (i + j), by simp [ni], ni ((i + j) % m), ?_, q (.turn i ((i + j) % m)) _ ⟨hi, Nat.mod_lt _ (by omega)⟩ (by omega)⟩⟩
    simp [show 0 < m by omega]
  · refine .inl ⟨by omega, ?_⟩
    by_cases h5 : k < 5 ∧ m < most
    · refine .inr ⟨by rw [if_pos (by omega), decide_eq_true h5.2], m, rfl, by omega, by omega, fun M n' hM hn' => q (.add M) _ ⟨hM, h5.2⟩ (by omega)⟩
    · refine .inl ⟨fun h => by omega, ?_⟩
      by_cases h6 : k = 5 ∧ 3 < m
      · refine .inr ⟨by rw [if_pos (by omega)]; simp; omega, q (.rem i) _ hi (by omega)⟩
      · refine .inl ⟨fun h => by omega, by omega, by omega, by omega, fun j hj => ⟨by omega, fun w hw => ?_⟩⟩
        by_cases w0 : w = 0
        · subst w0
          exact ⟨_, rfl, q (.turn i j) _ ⟨hi, hj⟩ (by omega)⟩
        · have : w = 1 := by omega
          subst this
          exact ⟨_, rfl, q (.rem i) _ hi (by omega)⟩
theorem ok__law_valid_edit (T : Tx K mg a) : FnG P w K mg base CX0 4 a.f__law_valid_edit a.d__law_valid_edit ["_law_stream_here", "_law_table_here", "_law_most"] (spD famS K 2 w__law_valid_edit) := by
  refine fn_deckD (k := 3) famS_ok T.F__law_valid_edit sc__law_valid_edit rfl (by decide) fun cdv A outer s H E S ok fam h0 hgd hr => ?_
  have nd := sc__law_valid_edit.nd
  refine ⟨_, (pds_cons (pd_for ok PassesOwn.never rfl (pif_range1 (by rfl) T.z_range pf_int) (pgf_name (i := 3) nd rfl (by first | exact Or.inl rfl | exact Or.inr rfl)) (sets_name 3)
      (pds_cons (pd_setX (i := 4) nd rfl (by first | exact Or.inl rfl | exact Or.inr rfl) (px_callD (i := 0) (m := 2) ok ((ok__law_some_edit T).up (by first | decide | omega)) mono__law_some_edit fam hgd hr (by rfl) T.g__law_some_edit T.F__law_some_edit.kp T.b__law_some_edit rfl (by first | exact Or.inl rfl | exact Or.inr (Or.inl rfl) | exact Or.inr (Or.inr rfl)) (pxa_cons (px_pf ok (pf_v 1)) (pxa_cons (px_pf ok (pf_v 2)) pxa_nil))))
      (pds_one (pd_if ok (pft_cmp (of_eq hr.units) (pf_ix (pf_call ((ok__law_due T).up (by first | decide | omega)) hgd hr (by rfl) T.g__law_due T.F__law_due.kp T.b__law_due pass0 (pfa_cons (pf_v 1) (pfa_cons (pf_v 4) pfa_nil))) pf_int) pf_str (nomark _)) (pds_one (pd_ret ok (pf_v 4))) pds_nil))))
      (pds_one (pd_ret ok (pf_ix (pfl_lst (pfa_cons (pf_tup (pfa_cons pf_str (pfa_cons pf_int (pfa_cons (pf_op of_sub (pf_callB cf_len (by rfl) T.z_len (by decide +kernel) (pfa_cons (pf_v 1) pfa_nil)) pf_int) pfa_nil)))) (pfa_cons (pf_tup (pfa_cons pf_str (pfa_cons (pf_tup pfa_nil) pfa_nil))) pfa_nil))).pf (pf_callTy cf_int (by rfl) T.z_int (by decide +kernel) (pfa_cons (pf_cmp (of_eq hr.units) (pf_callB cf_len (by rfl) T.z_len (by decide +kernel) (pfa_cons (pf_v 1) pfa_nil)) pf_int (nomark _)) pfa_nil)))))), fun ds n Q hl hw => ?_⟩
  obtain ⟨m, most, b, t, rfl, h2, h0, hn, q⟩ := hw
  have m1 := t.one
  have m9 := t.nine
  simp
  refine for_rng (m := 6) (rng1_nat rfl (by omega)) (fun i ρ' n' => ∃ e3 e4, ρ' = [.dk, .dat (tabD m b), .dat (ni most), e3, e4] ∧ n' ≤ n + 20 * i) ⟨_, _, rfl, by omega⟩ (fun i ρ' n' hi hI => ?_) fun ρ' n' hI => ?_
  · obtain ⟨e3, e4, rfl, hn'⟩ := hI
    refine ⟨_, rfl, ?_⟩
    simp
    refine ⟨m, most, b, t, rfl, h0, by omega, fun e n2 ok hn2 => ?_⟩
    obtain ⟨v, h3, h4, x, ds, rfl, h5⟩ := due_eq t h0 ok
    have e0 : ixD (.tuple (.str x :: ds)) (.int 0) = some (.str x) := atI_nat (xs := PyData.str x :: ds) (j := 0) rfl
    simp [h3, e0]
    by_cases hs : x = "state"
    · exact .inr ⟨hs, q e _ (h5 hs) (fun M he => by subst he; exact ok.2) (by omega)⟩
    · exact .inl ⟨hs, by omega⟩
  · obtain ⟨e3, e4, rfl, hn'⟩ := hI
    simp
    by_cases h1 : m = 1
    · subst h1
      exact ⟨_, rfl, q (.add []) _ ⟨nil_set, by decide⟩ (fun M _ => by omega) (by omega)⟩
    · rw [if_neg (by omega)]
      have e1 : PyData.int ((m : Int) - 1) = ni (m - 1) := by
        show _ = PyData.int ((m - 1 : Nat) : Int)
        congr 1
        omega
      rw [e1]
      exact ⟨_, rfl, q (.turn 0 (m - 1)) _ ⟨by omega, by omega, by omega⟩ (fun M e => nomatch e) (by omega)⟩
end
end DS
set_option maxHeartbeats 4000000
namespace DS
open PySem PySem.Spec PyProof.Rows L2
/-! ### benches: what their methods do -/
abbrev RWd := Except ErrD Wv × Wd
def detC (P : List Wv → Wd → RWd → Prop) : TC := fun xs w Q E => ∃ r, P xs w r ∧ match r with
  | (.ok x, w') => Q x w'
  | (.error e, w') => E e w'
theorem detC_mono (P : List Wv → Wd → RWd → Prop) : MonoC (detC P) := fun xs w Q Q' E E' h1 h2 ⟨r, h, q⟩ => ⟨r, h, by
  match r, q with
  | (.ok x, w'), q => exact h1 _ _ q
  | (.error e, w'), q => exact h2 _ _ q⟩
theorem Wd.put_put {w : Wd} {a : Addr} {x y : Ob} : (w.put a x).put a y = w.put a y := funext fun b => by
  by_cases h : b = a
  · rw [h, Wd.put_same, Wd.put_same]
  · rw [Wd.put_ne h, Wd.put_ne h, Wd.put_ne h]
def bnF (sts eds : List PyData) (k : PyData) (bz : Bool) : List (Str × Wv) := [("states", .d (.tuple sts)), ("standing", .d (.tuple eds)), ("chosen", .d k), ("busy", .d (.bool bz))]
theorem k12 : (("standing" : Str) == "states") = false := by decide +kernel
theorem k13 : (("chosen" : Str) == "states") = false := by decide +kernel
theorem k14 : (("busy" : Str) == "states") = false := by decide +kernel
theorem k23 : (("chosen" : Str) == "standing") = false := by decide +kernel
theorem k24 : (("busy" : Str) == "standing") = false := by decide +kernel
theorem k34 : (("busy" : Str) == "chosen") = false := by decide +kernel
section
variable {sts eds : List PyData} {k : PyData} {bz : Bool}
theorem bn_states : (bnF sts eds k bz).lookup ("states" : Str) = some (.d (.tuple sts)) := by
  show List.lookup ("states" : Str) ((("states" : Str), Wv.d (.tuple sts)) :: _) = _
  rw [List.lookup, beq_self_eq_true]
theorem bn_standing : (bnF sts eds k bz).lookup ("standing" : Str) = some (.d (.tuple eds)) := by
  show List.lookup ("standing" : Str) ((("states" : Str), Wv.d (.tuple sts)) :: (("standing" : Str), Wv.d (.tuple eds)) :: _) = _
  rw [List.lookup, k12]
  show List.lookup ("standing" : Str) ((("standing" : Str), Wv.d (.tuple eds)) :: _) = _
  rw [List.lookup, beq_self_eq_true]
theorem bn_chosen : (bnF sts eds k bz).lookup ("chosen" : Str) = some (.d k) := by
  show List.lookup ("chosen" : Str) ((("states" : Str), Wv.d (.tuple sts)) :: (("standing" : Str), Wv.d (.tuple eds)) :: (("chosen" : Str), Wv.d k) :: _) = _
  rw [List.lookup, k13]
  show List.lookup ("chosen" : Str) ((("standing" : Str), Wv.d (.tuple eds)) :: (("chosen" : Str), Wv.d k) :: _) = _
  rw [List.lookup, k23]
  show List.lookup ("chosen" : Str) ((("chosen" : Str), Wv.d k) :: _) = _
  rw [List.lookup, beq_self_eq_true]
theorem bn_busy : (bnF sts eds k bz).lookup ("busy" : Str) = some (.d (.bool bz)) := by
  show List.lookup ("busy" : Str) ((("states" : Str), Wv.d (.tuple sts)) :: (("standing" : Str), Wv.d (.tuple eds)) :: (("chosen" : Str), Wv.d k) :: (("busy" : Str), Wv.d (.bool bz)) :: []) = _
  rw [List.lookup, k14]
  show List.lookup ("busy" : Str) ((("standing" : Str), Wv.d (.tuple eds)) :: (("chosen" : Str), Wv.d k) :: (("busy" : Str), Wv.d (.bool bz)) :: []) = _
  rw [List.lookup, k24]
  show List.lookup ("busy" : Str) ((("chosen" : Str), Wv.d k) :: (("busy" : Str), Wv.d (.bool bz)) :: []) = _
  rw [List.lookup, k34]
  show List.lookup ("busy" : Str) ((("busy" : Str), Wv.d (.bool bz)) :: []) = _
  rw [List.lookup, beq_self_eq_true]
/-- no attribute of that name -/
theorem bn_no {m : Str} (h : (m == ("states" : Str)) = false ∧ (m == ("standing" : Str)) = false ∧ (m == ("chosen" : Str)) = false ∧ (m == ("busy" : Str)) = false) : (bnF sts eds k bz).lookup m = none := by
  obtain ⟨h1, h2, h3, h4⟩ := h
  show List.lookup m ((("states" : Str), Wv.d (.tuple sts)) :: (("standing" : Str), Wv.d (.tuple eds)) :: (("chosen" : Str), Wv.d k) :: (("busy" : Str), Wv.d (.bool bz)) :: []) = _
  simp [List.lookup, h1, h2, h3, h4]
theorem bn_putS {ss : List PyData} : putW "states" (.d (.tuple ss)) (bnF sts eds k bz) = bnF ss eds k bz := by
  show (if ("states" : Str) = ("states" : Str) then _ else _) = bnF ss eds k bz
  rw [if_pos rfl]
  rfl
theorem bn_len : (bnF sts eds k bz).length < 1000 := by
  show 4 < 1000
  decide
theorem cat1 {xs : List PyData} {y : PyData} (h : xs.length < 1000) : gAdd (.tuple xs) (.tuple [y]) = some (.tuple (xs ++ [y])) := if_pos (by
  show xs.length + 1 < 1000000
  omega)
theorem n12 : ¬ (("states" : Str) = ("standing" : Str)) := by decide +kernel
theorem n13 : ¬ (("states" : Str) = ("chosen" : Str)) := by decide +kernel
theorem n14 : ¬ (("states" : Str) = ("busy" : Str)) := by decide +kernel
theorem n23 : ¬ (("standing" : Str) = ("chosen" : Str)) := by decide +kernel
theorem n24 : ¬ (("standing" : Str) = ("busy" : Str)) := by decide +kernel
theorem n34 : ¬ (("chosen" : Str) = ("busy" : Str)) := by decide +kernel
theorem bn_putE {es : List PyData} : putW "standing" (.d (.tuple es)) (bnF sts eds k bz) = bnF sts es k bz := by
  show (if ("states" : Str) = ("standing" : Str) then _ else (("states" : Str), Wv.d (.tuple sts)) :: (if ("standing" : Str) = ("standing" : Str) then _ else _)) = bnF sts es k bz
  rw [if_neg n12, if_pos rfl]
  rfl
theorem put4 {x1 x2 x3 x4 : Wv} : putW "busy" x4 (putW "chosen" x3 (putW "standing" x2 (putW "states" x1 []))) = [(("states" : Str), x1), (("standing" : Str), x2), (("chosen" : Str), x3), (("busy" : Str), x4)] := by
  show putW "busy" x4 (putW "chosen" x3 (if ("states" : Str) = ("standing" : Str) then _ else (("states" : Str), x1) :: putW "standing" x2 [])) = [(("states" : Str), x1), (("standing" : Str), x2), (("chosen" : Str), x3), (("busy" : Str), x4)]
  rw [if_neg n12]
  show putW "busy" x4 (if ("states" : Str) = ("chosen" : Str) then _ else (("states" : Str), x1) :: (if ("standing" : Str) = ("chosen" : Str) then _ else (("standing" : Str), x2) :: putW "chosen" x3 [])) = [(("states" : Str), x1), (("standing" : Str), x2), (("chosen" : Str), x3), (("busy" : Str), x4)]
  rw [if_neg n13, if_neg n23]
  show (if ("states" : Str) = ("busy" : Str) then _ else (("states" : Str), x1) :: (if ("standing" : Str) = ("busy" : Str) then _ else (("standing" : Str), x2) :: (if ("chosen" : Str) = ("busy" : Str) then _ else (("chosen" : Str), x3) :: putW "busy" x4 []))) = [(("states" : Str), x1), (("standing" : Str), x2), (("chosen" : Str), x3), (("busy" : Str), x4)]
  rw [if_neg n14, if_neg n24, if_neg n34]
  rfl
end
theorem put_lt {f : Str} {x : Wv} {n : Nat} : ∀ {l : List (Str × Wv)}, l.length < n → (putW f x l).length < n + 1
  | [], h => by
    show 1 < n + 1
    have : 0 < n := h
    omega
  | (g, y) :: r, h => by
    have h : r.length + 1 < n := h
    show List.length (if g = f then (g, x) :: r else (g, y) :: putW f x r) < n + 1
    split
    · show r.length + 1 < n + 1
      omega
    · have := put_lt (f := f) (x := x) (n := n - 1) (l := r) (by omega)
      show (putW f x r).length + 1 < n + 1
      omega
theorem str_e (x : Str) : Str.empty ++ x = x := by
  cases x
  show (⟨#[] ++ _⟩ : Str) = _
  simp
theorem str_len (x y : Str) : (x ++ y).length = x.length + y.length := Array.size_append
theorem mul_sm {i j : Int} (h : -18446744073709551616 < i ∧ i < 18446744073709551616) : gIC cMul (fun i j => .int (i * j)) (.int i) (.int j) = some (.int (i * j)) := if_pos (by
  unfold cMul
  rw [decide_eq_true (p := -(2 ^ 64) < i ∧ i < 2 ^ 64) ⟨by omega, by omega⟩]
  rfl)
theorem mod_ps {i j : Int} (h : 0 < j) : gIC cPos (fun i j => .int (i % j)) (.int i) (.int j) = some (.int (i % j)) := if_pos (decide_eq_true h)
theorem pow18 : gIC cPow (fun i j => .int (i ^ j.toNat)) (.int 10) (.int 18) = some (.int 1000000000000000000) := by
  have h : cPow 10 18 = true := by decide +kernel
  show (if cPow 10 18 = true then some (PyData.int ((10 : Int) ^ (18 : Int).toNat)) else none) = _
  rw [if_pos h]
  rfl
theorem ifW {b : Bool} {P Q : Prop} (h : b = true) (p : P) : if b = true then P else Q := by
  rw [if_pos h]
  exact p
theorem ifN {b : Bool} {P Q : Prop} (h : ¬ b = true) (p : Q) : if b = true then P else Q := by
  rw [if_neg h]
  exact p
theorem b2_eq {g : PyData → PyData → Option PyData} {fa fb : DF} {ρ : Dn} {x y z : PyData} (h1 : fa ρ = some x) (h2 : fb ρ = some y) (h3 : g x y = some z) : bin2 g fa fb ρ = some z := by
  show (fa ρ).bind (fun d => (fb ρ).bind fun e => g d e) = some z
  rw [h1, Option.bind_some, h2, Option.bind_some, h3]
theorem ts_eq {f : DF} {ρ : Dn} {b : Bool} (h : f ρ = some (.bool b)) : tstF f ρ = some b := by
  show (f ρ).bind toB = some b
  rw [h]
  rfl
/-- a bench of the class at C -/
def BnAt (C : Addr) (w : Wd) (a : Addr) (sts eds : List PyData) (k : PyData) (bz : Bool) : Prop := w a = some (.ins C (bnF sts eds k bz))
theorem BnAt.put {C : Addr} {w : Wd} {a : Addr} {sts eds : List PyData} {k : PyData} {bz : Bool} : BnAt C (w.put a (.ins C (bnF sts eds k bz))) a sts eds k bz := Wd.put_same
theorem BnAt.ne {C : Addr} {w : Wd} {a c : Addr} {sts eds : List PyData} {k : PyData} {bz : Bool} {x : Ob} (h : BnAt C w a sts eds k bz) (n : a ≠ c) : BnAt C (w.put c x) a sts eds k bz := (Wd.put_ne n).trans h
def lastD (sts : List PyData) : Option PyData := ixD (.tuple sts) (.int (-1))
def P_init (C : Addr) (xs : List Wv) (w : Wd) (r : RWd) : Prop := ∃ a t e, xs = [.o a, .d t] ∧ w a = some (.ins C []) ∧ sem_table_error [t] = some e ∧
  r = if isNone e = true then (.ok (.d .none), w.put a (.ins C (bnF [t] [] (.str "support") false))) else (.error ⟨"BadTable", some ("error", e)⟩, w)
/-- a reader -/
def P_get (C : Addr) (f : List PyData → List PyData → PyData → Option PyData) (xs : List Wv) (w : Wd) (r : RWd) : Prop := ∃ a sts eds k bz d, xs = [.o a] ∧ BnAt C w a sts eds k bz ∧ f sts eds k = some d ∧ r = (.ok (.d d), w)
def g_version (_ eds : List PyData) (_ : PyData) : Option PyData := some (ni eds.length)
def g_size (sts _ : List PyData) (_ : PyData) : Option PyData := (lastD sts).bind fun t => lenD [t]
def g_kind (_ _ : List PyData) (k : PyData) : Option PyData := some k
def g_edits (_ eds : List PyData) (_ : PyData) : Option PyData := some (.tuple eds)
def natW (n : Nat) : Option Str := strW (ni n)
def textB (m n : Nat) : Option Str := (natW m).bind fun x => (natW n).bind fun y => if x.length < 100 ∧ y.length < 100 then some (x ++ Str.ofString " alternatives, " ++ y ++ Str.ofString " edits") else none
def g_str (sts eds : List PyData) (_ : PyData) : Option PyData := (lastD sts).bind fun t => (lenD [t]).bind fun m => match m with
  | .int i => if 0 ≤ i then (textB i.toNat eds.length).map .str else none
  | _ => none
theorem g_str_str {sts eds : List PyData} {k s : PyData} (h : g_str sts eds k = some s) : ∃ y, s = .str y := by
  obtain ⟨t, e1, e⟩ := Option.bind_eq_some_iff.mp h
  obtain ⟨m, e2, e⟩ := Option.bind_eq_some_iff.mp e
  split at e
  · split at e
    · obtain ⟨u, e3, e4⟩ := Option.map_eq_some_iff.mp e
      exact ⟨u, e4.symm⟩
    · cases e
  · cases e
def P_free (C : Addr) (xs : List Wv) (w : Wd) (r : RWd) : Prop := ∃ a sts eds k bz, xs = [.o a] ∧ BnAt C w a sts eds k bz ∧ r = if bz = true then (.error ⟨"Busy", none⟩, w) else (.ok (.d .none), w)
def P_fit (C : Addr) (xs : List Wv) (w : Wd) (r : RWd) : Prop := ∃ a t, xs = [.o a, .d t] ∧ r = (.ok (.d .none), w)
def stateR (sts : List PyData) (v : PyData) : Option RX := if isNone v = true then (lastD sts).map .ok else (sem_is_integer [v]).bind fun i => match i with
  | .bool true => match v with
    | .int z => if 0 ≤ z ∧ z < sts.length then (ixD (.tuple sts) (.int z)).map .ok else some (.error ⟨"NoVersion", some ("value", v)⟩)
    | _ => none
  | .bool false => some (.error ⟨"NoVersion", some ("value", v)⟩)
  | _ => none
def resW (w : Wd) : RX → RWd
  | .ok d => (.ok (.d d), w)
  | .error e => (.error e, w)
def P_state (C : Addr) (xs : List Wv) (w : Wd) (r : RWd) : Prop := ∃ a v sts eds k bz q, xs = [.o a, .d v] ∧ BnAt C w a sts eds k bz ∧ stateR sts v = some q ∧ r = resW w q
/-- an edit, without a look at busy -/
def editR (C : Addr) (w : Wd) (a : Addr) (sts eds : List PyData) (k : PyData) (bz : Bool) (ed x : PyData) (r : RWd) : Prop :=
  if 60 ≤ eds.length then r = (.error ⟨"TooManyEdits", none⟩, w) else sts.length < 1000 ∧ ∃ t q, lastD sts = some t ∧ semx_edited_table [t, ed] = some q ∧
    r = match q with
      | .ok t' => (.ok (.d x), w.put a (.ins C (bnF (sts ++ [t']) (eds ++ [ed]) k bz)))
      | .error e => (.error e, w)
def P_do (C : Addr) (xs : List Wv) (w : Wd) (r : RWd) : Prop := ∃ a ed sts eds k bz, xs = [.o a, .d ed] ∧ BnAt C w a sts eds k bz ∧ editR C w a sts eds k bz ed .none r
def P_once (C : Addr) (xs : List Wv) (w : Wd) (r : RWd) : Prop := ∃ a ed sts eds k bz, xs = [.o a, .d ed] ∧ BnAt C w a sts eds k bz ∧ if bz = true then r = (.error ⟨"Busy", none⟩, w) else editR C w a sts eds k bz ed (ni (eds.length + 1)) r
def P_turn (C : Addr) (xs : List Wv) (w : Wd) (r : RWd) : Prop := ∃ a x y, xs = [.o a, .d x, .d y] ∧ P_once C [.o a, .d (.tuple [.str "turn", x, y])] w r
def P_one (C : Addr) (s : Str) (xs : List Wv) (w : Wd) (r : RWd) : Prop := ∃ a x, xs = [.o a, .d x] ∧ P_once C [.o a, .d (.tuple [.str s, x])] w r
/-! what a law's defs do with a bench -/
def P_ldo (C : Addr) (xs : List Wv) (w : Wd) (r : RWd) : Prop := ∃ a ed, xs = [.o a, .d ed] ∧ ((∃ x y, ed = .tuple [.str "turn", x, y]) ∨ (∃ x, ed = .tuple [.str "add", x]) ∨ ∃ x, ed = .tuple [.str "remove", x]) ∧ P_once C [.o a, .d ed] w r
def seenD (sts eds : List PyData) (k : PyData) : Option PyData := (lastD sts).bind fun t => (lenD [t]).bind fun m => (g_str sts eds k).bind fun s => some (.tuple [t, .tuple eds, ni eds.length, s, ni eds.length, m])
def P_lseen (C : Addr) (xs : List Wv) (w : Wd) (r : RWd) : Prop := ∃ a sts eds k bz d, xs = [.o a] ∧ BnAt C w a sts eds k bz ∧ eds.length < 1000 ∧ seenD sts eds k = some d ∧ r = (.ok (.d d), w)
/-- a law's stream of draws -/
def c_stream : TC := fun xs w Q E => ∃ (ns : List Int) (i : Nat), xs = [.d (.list (ns.map .int)), .d (ni i)] ∧ ns.length ≤ 63 ∧ i ≤ 9 ∧ ∀ p, w p = none → Q (.o p) (w.put p (.stm 0))
theorem mono_c_stream : MonoC c_stream := fun xs w Q Q' E E' h1 h2 ⟨ns, i, e, l, hi, q⟩ => ⟨ns, i, e, l, hi, fun p hp => h1 _ _ (q p hp)⟩
end DS
set_option maxHeartbeats 4000000
namespace DS
open PySem PySem.Spec PyProof.Rows L2
section
variable {P : Program} {w : World} {K : PySem.W.Frag} {mg : Str → Option Value} {base : Heap} {a : Ad}
theorem okW_Bench_version (T : Tx K mg a) : FnG P w K mg base (L2.CX P w) 1 a.f_Bench_version a.d_Bench_version ["self"] (spW K mg 1 (detC (P_get a.c_Bench g_version))) := by
  refine fn_Wc (k := 0) T.F_Bench_version sc_Bench_version rfl fun cdv A outer s H E S W ok hgd hr tk => ?_
  have nd := sc_Bench_version.nd
  refine ⟨_, (pws_one (pws_ret (pw_callB ok cf_len (by rfl) T.z_len (by decide +kernel) (pwa_cons (pw_fld T.cl_Bench T.na_Bench_standing (pw_name (i := 0) ok rfl (by first | exact Or.inl rfl | exact Or.inr (Or.inl rfl) | exact Or.inr (Or.inr rfl)))) pwa_nil)))), fun xs w Q E hl h => ?_⟩
  obtain ⟨r, ⟨o, sts, eds, k, bz, d, rfl, hb, e, rfl⟩, q⟩ := h
  cases e
  exact ⟨_, rfl, o, _, _, rfl, hb, bn_standing, [_], _, rfl, rfl, q⟩
theorem okW_Bench_size (T : Tx K mg a) : FnG P w K mg base (L2.CX P w) 1 a.f_Bench_size a.d_Bench_size ["self"] (spW K mg 1 (detC (P_get a.c_Bench g_size))) := by
  refine fn_Wc (k := 0) T.F_Bench_size sc_Bench_size rfl fun cdv A outer s H E S W ok hgd hr tk => ?_
  have nd := sc_Bench_size.nd
  refine ⟨_, (pws_one (pws_ret (pw_callB ok cf_len (by rfl) T.z_len (by decide +kernel) (pwa_cons (pw_ix ok (pw_fld T.cl_Bench T.na_Bench_states (pw_name (i := 0) ok rfl (by first | exact Or.inl rfl | exact Or.inr (Or.inl rfl) | exact Or.inr (Or.inr rfl)))) (pw_pf ok (pf_neg pf_int))) pwa_nil)))), fun xs w Q E hl h => ?_⟩
  obtain ⟨r, ⟨o, sts, eds, k, bz, d, rfl, hb, e, rfl⟩, q⟩ := h
  obtain ⟨t, e1, e2⟩ := Option.bind_eq_some_iff.mp e
  exact ⟨_, rfl, o, _, _, rfl, hb, bn_states, _, rfl, _, _, _, rfl, rfl, e1, [_], _, rfl, e2, q⟩
theorem okW_Bench_kind (T : Tx K mg a) : FnG P w K mg base (L2.CX P w) 1 a.f_Bench_kind a.d_Bench_kind ["self"] (spW K mg 1 (detC (P_get a.c_Bench g_kind))) := by
  refine fn_Wc (k := 0) T.F_Bench_kind sc_Bench_kind rfl fun cdv A outer s H E S W ok hgd hr tk => ?_
  have nd := sc_Bench_kind.nd
  refine ⟨_, (pws_one (pws_ret (pw_fld T.cl_Bench T.na_Bench_chosen (pw_name (i := 0) ok rfl (by first | exact Or.inl rfl | exact Or.inr (Or.inl rfl) | exact Or.inr (Or.inr rfl)))))), fun xs w Q E hl h => ?_⟩
  obtain ⟨r, ⟨o, sts, eds, k, bz, d, rfl, hb, e, rfl⟩, q⟩ := h
  cases e
  exact ⟨_, rfl, o, _, _, rfl, hb, bn_chosen, q⟩
theorem okW_Bench_require_fit (T : Tx K mg a) : FnG P w K mg base (L2.CX P w) 1 a.f_Bench_require_fit a.d_Bench_require_fit ["self", "table"] (spW K mg 2 (detC (P_fit a.c_Bench))) := by
  refine fn_Wc (k := 0) T.F_Bench_require_fit sc_Bench_require_fit rfl fun cdv A outer s H E S W ok hgd hr tk => ?_
  have nd := sc_Bench_require_fit.nd
  refine ⟨_, (pws_one pws_pass), fun xs w Q E hl h => ?_⟩
  obtain ⟨r, ⟨o, t, rfl, rfl⟩, q⟩ := h
  exact q
theorem okW_Bench_require_free (T : Tx K mg a) : FnG P w K mg base (L2.CX P w) 1 a.f_Bench_require_free a.d_Bench_require_free ["self"] (spW K mg 1 (detC (P_free a.c_Bench))) := by
  refine fn_Wc (k := 0) T.F_Bench_require_free sc_Bench_require_free rfl fun cdv A outer s H E S W ok hgd hr tk => ?_
  have nd := sc_Bench_require_free.nd
  refine ⟨_, (pws_one (pws_if (pwt_val (pw_fld T.cl_Bench T.na_Bench_busy (pw_name (i := 0) ok rfl (by first | exact Or.inl rfl | exact Or.inr (Or.inl rfl) | exact Or.inr (Or.inr rfl))))) (pws_one (pws_pzx ok fun S ok => (pzx_raise0 ok rfl tk T.R_Busy T.G_Busy hr (by rfl)))) pws_nil)), fun xs w Q E hl h => ?_⟩
  obtain ⟨r, ⟨o, sts, eds, k, bz, rfl, hb, e⟩, q⟩ := h
  subst e
  refine ⟨_, rfl, o, _, _, rfl, hb, bn_busy, bz, rfl, ?_⟩
  cases bz with
  | true => exact ⟨_, rfl, fun z hz => (nomatch hz), fun e ρ' hz => by cases hz; exact q⟩
  | false => exact q
theorem okW_Bench_edits (T : Tx K mg a) : FnG P w K mg base (L2.CX P w) 1 a.f_Bench_edits a.d_Bench_edits ["self"] (spW K mg 1 (detC (P_get a.c_Bench g_edits))) := by
  refine fn_Wc (k := 0) T.F_Bench_edits sc_Bench_edits rfl fun cdv A outer s H E S W ok hgd hr tk => ?_
  have nd := sc_Bench_edits.nd
  refine ⟨_, (pws_one (pws_ret (pw_fld T.cl_Bench T.na_Bench_standing (pw_name (i := 0) ok rfl (by first | exact Or.inl rfl | exact Or.inr (Or.inl rfl) | exact Or.inr (Or.inr rfl)))))), fun xs w Q E hl h => ?_⟩
  obtain ⟨r, ⟨o, sts, eds, k, bz, d, rfl, hb, e, rfl⟩, q⟩ := h
  cases e
  exact ⟨_, rfl, o, _, _, rfl, hb, bn_standing, q⟩
theorem okW_Bench___len__ (T : Tx K mg a) : FnG P w K mg base (L2.CX P w) 1 a.f_Bench___len__ a.d_Bench___len__ ["self"] (spW K mg 1 (detC (P_get a.c_Bench g_version))) := by
  refine fn_Wc (k := 0) T.F_Bench___len__ sc_Bench___len__ rfl fun cdv A outer s H E S W ok hgd hr tk => ?_
  have nd := sc_Bench___len__.nd
  refine ⟨_, (pws_one (pws_ret (pw_callB ok cf_len (by rfl) T.z_len (by decide +kernel) (pwa_cons (pw_fld T.cl_Bench T.na_Bench_standing (pw_name (i := 0) ok rfl (by first | exact Or.inl rfl | exact Or.inr (Or.inl rfl) | exact Or.inr (Or.inr rfl)))) pwa_nil)))), fun xs w Q E hl h => ?_⟩
  obtain ⟨r, ⟨o, sts, eds, k, bz, d, rfl, hb, e, rfl⟩, q⟩ := h
  cases e
  exact ⟨_, rfl, o, _, _, rfl, hb, bn_standing, [_], _, rfl, rfl, q⟩
theorem okW_Bench___str__ (T : Tx K mg a) : FnG P w K mg base (L2.CX P w) 1 a.f_Bench___str__ a.d_Bench___str__ ["self"] (spW K mg 1 (detC (P_get a.c_Bench g_str))) := by
  refine fn_Wc (k := 0) T.F_Bench___str__ sc_Bench___str__ rfl fun cdv A outer s H E S W ok hgd hr tk => ?_
  have nd := sc_Bench___str__.nd
  refine ⟨_, (pws_one (pws_ret (pw_joined (PWJ.cons (pw_callB ok cf_len (by rfl) T.z_len (by decide +kernel) (pwa_cons (pw_ix ok (pw_fld T.cl_Bench T.na_Bench_states (pw_name (i := 0) ok rfl (by first | exact Or.inl rfl | exact Or.inr (Or.inl rfl) | exact Or.inr (Or.inr rfl)))) (pw_pf ok (pf_neg pf_int))) pwa_nil)) (PWJ.str (PWJ.cons (pw_callB ok cf_len (by rfl) T.z_len (by decide +kernel) (pwa_cons (pw_fld T.cl_Bench T.na_Bench_standing (pw_name (i := 0) ok rfl (by first | exact Or.inl rfl | exact Or.inr (Or.inl rfl) | exact Or.inr (Or.inr rfl)))) pwa_nil)) (PWJ.str PWJ.nil))))))), fun xs w Q E hl h => ?_⟩
  obtain ⟨r, ⟨o, sts, eds, k, bz, d, rfl, hb, e, rfl⟩, q⟩ := h
  obtain ⟨t, e1, e⟩ := Option.bind_eq_some_iff.mp e
  obtain ⟨m, e2, e⟩ := Option.bind_eq_some_iff.mp e
  split at e
  · rename_i i
    split at e
    · rename_i hi
      obtain ⟨u, e3, e4⟩ := Option.map_eq_some_iff.mp e
      obtain ⟨x, e5, e3⟩ := Option.bind_eq_some_iff.mp e3
      obtain ⟨y, e6, e3⟩ := Option.bind_eq_some_iff.mp e3
      split at e3
      · rename_i hl
        cases e3
        cases e4
        have : ((i.toNat : Nat) : Int) = i := Int.toNat_of_nonneg hi
        unfold natW at e5
        rw [show ni i.toNat = .int i from congrArg PyData.int this] at e5
        refine ⟨_, rfl, o, _, _, rfl, hb, bn_states, _, rfl, _, _, _, rfl, rfl, e1, [_], _, rfl, e2, _, _, rfl, e5, ?_, ?_⟩
        · rw [str_e]
          show x.length < 1000000
          omega
        · have l1 : (Str.ofString " alternatives, ").length = 15 := by decide +kernel
          have l2 : (Str.ofString " edits").length = 6 := by decide +kernel
          refine ⟨?_, ?_⟩
          · rw [str_e, str_len]
            show _ < 1000000
            omega
          · refine ⟨_, rfl, o, _, _, rfl, hb, bn_standing, [_], _, rfl, rfl, _, _, rfl, e6, ?_, ?_, ?_⟩
            · rw [str_e, str_len, str_len]
              show _ < 1000000
              omega
            · rw [str_e, str_len, str_len, str_len]
              show _ < 1000000
              omega
            · rw [str_e]
              exact q
      · cases e3
    · cases e
  · cases e
theorem okW_Bench_state_at (T : Tx K mg a) : FnG P w K mg base (L2.CX P w) 2 a.f_Bench_state_at a.d_Bench_state_at ["self", "version"] (spW K mg 2 (detC (P_state a.c_Bench))) := by
  refine fn_Wc (k := 1) T.F_Bench_state_at sc_Bench_state_at rfl fun cdv A outer s H E S W ok hgd hr tk => ?_
  have nd := sc_Bench_state_at.nd
  refine ⟨_, (pws_cons (pws_if (pwt_pf ok (pft_cmp of_isN (pf_v 1) pf_non (nomark _))) (pws_one (pws_ret (pw_ix ok (pw_fld T.cl_Bench T.na_Bench_states (pw_name (i := 0) ok rfl (by first | exact Or.inl rfl | exact Or.inr (Or.inl rfl) | exact Or.inr (Or.inr rfl)))) (pw_pf ok (pf_neg pf_int))))) pws_nil)
      (pws_cons (pws_if (pww_or (pwt_pf ok (pft_not (pft_val (pf_call ((ok_is_integer T).up (by first | decide | omega)) hgd hr (by rfl) T.g_is_integer T.F_is_integer.kp T.b_is_integer pass0 (pfa_cons (pf_v 1) pfa_nil))))) (pww_or1 (pwt_not (pwt_chain ok of_le of_lt (pw_pf ok pf_int) (pw_pf ok (pf_v 1)) (pw_callB ok cf_len (by rfl) T.z_len (by decide +kernel) (pwa_cons (pw_fld T.cl_Bench T.na_Bench_states (pw_name (i := 0) ok rfl (by first | exact Or.inl rfl | exact Or.inr (Or.inl rfl) | exact Or.inr (Or.inr rfl)))) pwa_nil)))))).pwt (pws_one (pws_pzx ok fun S ok => (pzx_raise ok rfl tk T.O_NoVersion T.G_NoVersion hr (pf_v 1) (by rfl)))) pws_nil)
      (pws_one (pws_ret (pw_ix ok (pw_fld T.cl_Bench T.na_Bench_states (pw_name (i := 0) ok rfl (by first | exact Or.inl rfl | exact Or.inr (Or.inl rfl) | exact Or.inr (Or.inr rfl)))) (pw_pf ok (pf_v 1))))))), fun xs w Q E hl h => ?_⟩
  obtain ⟨r, ⟨o, v, sts, eds, k, bz, p, rfl, hb, e, rfl⟩, q⟩ := h
  unfold stateR at e
  refine ⟨_, rfl, ?_⟩
  by_cases c : isNone v = true
  · rw [if_pos c] at e ⊢
    obtain ⟨t, e1, e2⟩ := Option.map_eq_some_iff.mp e
    subst e2
    exact ⟨_, rfl, o, _, _, rfl, hb, bn_states, _, rfl, _, _, _, rfl, rfl, e1, q⟩
  · rw [if_neg c] at e ⊢
    obtain ⟨i, e1, e2⟩ := Option.bind_eq_some_iff.mp e
    have ef : ∀ b, i = .bool b → notT (tstF (callU 1 sem_is_integer (consA (getD 1) nilA))) [.err o none none, .dat v] = some (!b) := fun b hb => by
      show ((sem_is_integer [v]).bind toB).bind _ = _
      rw [e1, hb]
      rfl
    split at e2
    · refine ⟨_, ef _ rfl, ?_⟩
      split at e2
      · rename_i z
        refine ⟨_, rfl, _, rfl, _, _, _, rfl, rfl, rfl, ?_⟩
        simp only [decide_eq_true_eq]
        by_cases c1 : 0 ≤ z
        · rw [if_pos c1]
          refine ⟨_, rfl, o, _, _, rfl, hb, bn_states, [_], _, rfl, rfl, _, _, rfl, rfl, _, rfl, ?_⟩
          by_cases c2 : z < sts.length
          · rw [if_pos ⟨c1, c2⟩] at e2
            obtain ⟨t, e3, e4⟩ := Option.map_eq_some_iff.mp e2
            subst e4
            rw [if_neg (by simpa using c2)]
            exact ⟨_, rfl, o, _, _, rfl, hb, bn_states, _, rfl, _, _, _, rfl, rfl, e3, q⟩
          · rw [if_neg (fun h => c2 h.2)] at e2
            cases e2
            rw [if_pos (by simpa using c2)]
            exact ⟨_, rfl, fun z hz => (nomatch hz), fun e ρ' hz => by cases hz; exact q⟩
        · rw [if_neg c1]
          rw [if_neg (fun h => c1 h.1)] at e2
          cases e2
          exact ⟨_, rfl, ⟨_, rfl, fun z hz => (nomatch hz), fun e ρ' hz => by cases hz; exact q⟩⟩
      · cases e2
    · cases e2
      refine ⟨_, ef _ rfl, ?_⟩
      exact ⟨_, rfl, fun z hz => (nomatch hz), fun e ρ' hz => by cases hz; exact q⟩
    · cases e2
theorem okW_Bench___init__ (T : Tx K mg a) : FnG P w K mg base (L2.CX P w) 3 a.f_Bench___init__ a.d_Bench___init__ ["self", "table"] (spW K mg 2 (detC (P_init a.c_Bench))) := by
  refine fn_Wc (k := 2) T.F_Bench___init__ sc_Bench___init__ rfl fun cdv A outer s H E S W ok hgd hr tk => ?_
  have nd := sc_Bench___init__.nd
  refine ⟨_, (pws_cons (pws_set (i := 2) nd rfl (by first | exact Or.inl rfl | exact Or.inr rfl) (pw_pf ok (pf_call ((ok_table_error T).up (by first | decide | omega)) hgd hr (by rfl) T.g_table_error T.F_table_error.kp T.b_table_error pass0 (pfa_cons (pf_v 1) pfa_nil))))
      (pws_cons (pws_if (pwt_pf ok (pft_cmp of_notN (pf_v 2) pf_non (nomark _))) (pws_one (pws_pzx ok fun S ok => (pzx_raise_error ok rfl tk T.O_BadTable T.G_BadTable hr (pf_v 2) (by rfl)))) pws_nil)
      (pws_cons (pws_store T.cl_Bench T.na_Bench_states (pw_name (i := 0) ok rfl (by first | exact Or.inl rfl | exact Or.inr (Or.inl rfl) | exact Or.inr (Or.inr rfl))) (pw_pf ok (pf_tup (pfa_cons (pf_v 1) pfa_nil))))
      (pws_cons (pws_store T.cl_Bench T.na_Bench_standing (pw_name (i := 0) ok rfl (by first | exact Or.inl rfl | exact Or.inr (Or.inl rfl) | exact Or.inr (Or.inr rfl))) (pw_pf ok (pf_tup pfa_nil)))
      (pws_cons (pws_store T.cl_Bench T.na_Bench_chosen (pw_name (i := 0) ok rfl (by first | exact Or.inl rfl | exact Or.inr (Or.inl rfl) | exact Or.inr (Or.inr rfl))) (pw_pf ok pf_str))
      (pws_one (pws_store T.cl_Bench T.na_Bench_busy (pw_name (i := 0) ok rfl (by first | exact Or.inl rfl | exact Or.inr (Or.inl rfl) | exact Or.inr (Or.inr rfl))) (pw_pf ok pf_bl)))))))), fun xs w Q E hl h => ?_⟩
  obtain ⟨r, ⟨o, t, e, rfl, hb, e1, rfl⟩, q⟩ := h
  refine ⟨_, e1, _, rfl, ?_⟩
  by_cases c : isNone e = true
  · rw [if_pos c] at q
    rw [if_neg (by simp [c])]
    refine ⟨_, rfl, _, rfl, o, _, rfl, hb, by decide, ?_⟩
    refine ⟨_, rfl, _, rfl, o, _, rfl, Wd.put_same, put_lt (n := 999) (by decide), ?_⟩
    refine ⟨_, rfl, _, rfl, o, _, rfl, Wd.put_same, put_lt (n := 999) (put_lt (n := 998) (by decide)), ?_⟩
    refine ⟨_, rfl, _, rfl, o, _, rfl, Wd.put_same, put_lt (n := 999) (put_lt (n := 998) (put_lt (n := 997) (by decide))), ?_⟩
    rw [put4, Wd.put_put, Wd.put_put, Wd.put_put]
    exact q
  · rw [if_neg c] at q
    rw [if_pos (by simp [c])]
    exact ⟨_, rfl, fun z hz => (nomatch hz), fun e ρ' hz => by cases hz; exact q⟩
theorem okW_Bench_table (T : Tx K mg a) : FnG P w K mg base (L2.CX P w) 3 a.f_Bench_table a.d_Bench_table ["self", "version"] (spW K mg 2 (detC (P_state a.c_Bench))) := by
  refine fn_Wc (k := 2) T.F_Bench_table sc_Bench_table rfl fun cdv A outer s H E S W ok hgd hr tk => ?_
  have nd := sc_Bench_table.nd
  refine ⟨_, (pws_one (pws_ret (pw_meth tk (M := 2) ⟨⟨_, _, _, _, _, _, T.cl_Bench, T.M_Bench_state_at, okW_Bench_state_at T, (hr.mono (by decide)), T.b_Bench_state_at, .nil, dfl_nil, detC_mono _⟩⟩ hgd (pw_name (i := 0) ok rfl (by first | exact Or.inl rfl | exact Or.inr (Or.inl rfl) | exact Or.inr (Or.inr rfl))) (pwa_cons (pw_pf ok (pf_v 1)) pwa_nil)))), fun xs w Q E hl h => ?_⟩
  obtain ⟨r, ⟨o, v, sts, eds, k, bz, p, rfl, hb, e⟩, q⟩ := h
  exact ⟨_, rfl, o, _, rfl, hb, bn_no (by decide +kernel), ⟨_, rfl, rfl, r, ⟨o, _, sts, eds, k, bz, p, rfl, hb, e⟩, q⟩⟩
theorem okW_Bench_do_edit (T : Tx K mg a) : FnG P w K mg base (L2.CX P w) 6 a.f_Bench_do_edit a.d_Bench_do_edit ["self", "edit"] (spW K mg 2 (detC (P_do a.c_Bench))) := by
  refine fn_Wc (k := 5) T.F_Bench_do_edit sc_Bench_do_edit rfl fun cdv A outer s H E S W ok hgd hr tk => ?_
  have nd := sc_Bench_do_edit.nd
  refine ⟨_, (pws_cons (pws_if (pwt_cmp ok of_ge (pw_callB ok cf_len (by rfl) T.z_len (by decide +kernel) (pwa_cons (pw_fld T.cl_Bench T.na_Bench_standing (pw_name (i := 0) ok rfl (by first | exact Or.inl rfl | exact Or.inr (Or.inl rfl) | exact Or.inr (Or.inr rfl)))) pwa_nil)) (pw_pf ok (pf_glob (v := .int (60)) (by rfl) T.c_EDITS.choose_spec ⟨_, rfl⟩ (fun _ _ => .int _))) (nomark _)) (pws_one (pws_pzx ok fun S ok => (pzx_raise0 ok rfl tk T.R_TooManyEdits T.G_TooManyEdits hr (by rfl)))) pws_nil)
      (pws_cons (pws_set (i := 2) nd rfl (by first | exact Or.inl rfl | exact Or.inr rfl) (pw_callX ok tk ((okx_edited_table T).up (by first | decide | omega)) hgd hr (by rfl) T.g_edited_table T.F_edited_table.kp T.b_edited_table (pwa_cons (pw_ix ok (pw_fld T.cl_Bench T.na_Bench_states (pw_name (i := 0) ok rfl (by first | exact Or.inl rfl | exact Or.inr (Or.inl rfl) | exact Or.inr (Or.inr rfl)))) (pw_pf ok (pf_neg pf_int))) (pwa_cons (pw_pf ok (pf_v 1)) pwa_nil))))
      (pws_cons (pws_expr (pw_meth tk (M := 2) ⟨⟨_, _, _, _, _, _, T.cl_Bench, T.M_Bench_require_fit, okW_Bench_require_fit T, (hr.mono (by decide)), T.b_Bench_require_fit, .nil, dfl_nil, detC_mono _⟩⟩ hgd (pw_name (i := 0) ok rfl (by first | exact Or.inl rfl | exact Or.inr (Or.inl rfl) | exact Or.inr (Or.inr rfl))) (pwa_cons (pw_pf ok (pf_v 2)) pwa_nil)))
      (pws_cons (pws_store T.cl_Bench T.na_Bench_states (pw_name (i := 0) ok rfl (by first | exact Or.inl rfl | exact Or.inr (Or.inl rfl) | exact Or.inr (Or.inr rfl))) (pw_op ok of_addA (pw_fld T.cl_Bench T.na_Bench_states (pw_name (i := 0) ok rfl (by first | exact Or.inl rfl | exact Or.inr (Or.inl rfl) | exact Or.inr (Or.inr rfl)))) (pw_pf ok (pf_tup (pfa_cons (pf_v 2) pfa_nil)))))
      (pws_one (pws_store T.cl_Bench T.na_Bench_standing (pw_name (i := 0) ok rfl (by first | exact Or.inl rfl | exact Or.inr (Or.inl rfl) | exact Or.inr (Or.inr rfl))) (pw_op ok of_addA (pw_fld T.cl_Bench T.na_Bench_standing (pw_name (i := 0) ok rfl (by first | exact Or.inl rfl | exact Or.inr (Or.inl rfl) | exact Or.inr (Or.inr rfl)))) (pw_pf ok (pf_tup (pfa_cons (pf_v 1) pfa_nil)))))))))), fun xs w Q E hl h => ?_⟩
  obtain ⟨r, ⟨o, ed, sts, eds, k, bz, rfl, hb, h⟩, q⟩ := h
  unfold editR at h
  refine ⟨_, rfl, o, _, _, rfl, hb, bn_standing, [_], _, rfl, rfl, _, rfl, _, _, _, rfl, rfl, rfl, _, rfl, ?_⟩
  by_cases c : 60 ≤ eds.length
  · rw [if_pos c] at h
    subst h
    rw [if_pos (by simp; omega)]
    exact ⟨_, rfl, fun z hz => (nomatch hz), fun e ρ' hz => by cases hz; exact q⟩
  · rw [if_neg c] at h
    obtain ⟨l, t, qq, e1, e2, e3⟩ := h
    subst e3
    rw [if_neg (by simp; omega)]
    refine ⟨_, rfl, o, _, _, rfl, hb, bn_states, _, rfl, _, _, _, rfl, rfl, e1, _, rfl, [_, _], _, rfl, rfl, e2, fun d hd => ?_, fun e he => ?_⟩
    · subst hd
      refine ⟨_, rfl, o, _, rfl, hb, bn_no (by decide +kernel), _, rfl, rfl, _, ⟨o, d, rfl, rfl⟩, ?_⟩
      refine ⟨_, rfl, o, _, _, rfl, hb, bn_states, _, rfl, _, _, _, rfl, rfl, cat1 l, _, rfl, o, _, rfl, hb, bn_len, ?_⟩
      rw [bn_putS]
      refine ⟨_, rfl, o, _, _, rfl, Wd.put_same, bn_standing, _, rfl, _, _, _, rfl, rfl, cat1 (by omega), _, rfl, o, _, rfl, Wd.put_same, bn_len, ?_⟩
      rw [bn_putE, Wd.put_put]
      exact q
    · subst he
      exact q
theorem okW_Bench_edit_once (T : Tx K mg a) : FnG P w K mg base (L2.CX P w) 7 a.f_Bench_edit_once a.d_Bench_edit_once ["self", "edit"] (spW K mg 2 (detC (P_once a.c_Bench))) := by
  refine fn_Wc (k := 6) T.F_Bench_edit_once sc_Bench_edit_once rfl fun cdv A outer s H E S W ok hgd hr tk => ?_
  have nd := sc_Bench_edit_once.nd
  refine ⟨_, (pws_cons (pws_expr (pw_meth0 tk (M := 1) ⟨⟨_, _, _, _, _, _, T.cl_Bench, T.M_Bench_require_free, okW_Bench_require_free T, (hr.mono (by decide)), T.b_Bench_require_free, .nil, dfl_nil, detC_mono _⟩⟩ hgd (pw_name (i := 0) ok rfl (by first | exact Or.inl rfl | exact Or.inr (Or.inl rfl) | exact Or.inr (Or.inr rfl)))))
      (pws_cons (pws_expr (pw_meth tk (M := 2) ⟨⟨_, _, _, _, _, _, T.cl_Bench, T.M_Bench_do_edit, okW_Bench_do_edit T, (hr.mono (by decide)), T.b_Bench_do_edit, .nil, dfl_nil, detC_mono _⟩⟩ hgd (pw_name (i := 0) ok rfl (by first | exact Or.inl rfl | exact Or.inr (Or.inl rfl) | exact Or.inr (Or.inr rfl))) (pwa_cons (pw_pf ok (pf_v 1)) pwa_nil)))
      (pws_one (pws_ret (pw_prop (detC_mono _) T.cl_Bench T.P_Bench_version (okW_Bench_version T) hgd (hr.mono (by decide)) T.b_Bench_version (pw_name (i := 0) ok rfl (by first | exact Or.inl rfl | exact Or.inr (Or.inl rfl) | exact Or.inr (Or.inr rfl)))))))), fun xs w Q E hl h => ?_⟩
  obtain ⟨r, ⟨o, ed, sts, eds, k, bz, rfl, hb, h⟩, q⟩ := h
  refine ⟨_, rfl, o, _, rfl, hb, bn_no (by decide +kernel), rfl, _, ⟨o, sts, eds, k, bz, rfl, hb, rfl⟩, ?_⟩
  cases bz with
  | true =>
    rw [if_pos rfl] at h
    subst h
    exact q
  | false =>
    have h : editR _ _ _ _ _ _ _ _ _ _ := h
    unfold editR at h
    by_cases c : 60 ≤ eds.length
    · rw [if_pos c] at h
      subst h
      exact ⟨_, rfl, o, _, rfl, hb, bn_no (by decide +kernel), _, rfl, rfl, _, ⟨o, ed, sts, eds, k, _, rfl, hb, by unfold editR; rw [if_pos c]⟩, q⟩
    · rw [if_neg c] at h
      obtain ⟨l, t, qq, e1, e2, e3⟩ := h
      subst e3
      refine ⟨_, rfl, o, _, rfl, hb, bn_no (by decide +kernel), _, rfl, rfl, _, ⟨o, ed, sts, eds, k, _, rfl, hb, by unfold editR; rw [if_neg c]; exact ⟨l, t, qq, e1, e2, rfl⟩⟩, ?_⟩
      cases qq with
      | error e => exact q
      | ok t' => 
        refine ⟨_, rfl, o, _, rfl, Wd.put_same, _, ⟨o, _, _, k, _, _, rfl, Wd.put_same, rfl, rfl⟩, trivial, ?_⟩
        rw [List.length_append]
        exact q
theorem okW_Bench_turn (T : Tx K mg a) : FnG P w K mg base (L2.CX P w) 8 a.f_Bench_turn a.d_Bench_turn ["self", "one", "other"] (spW K mg 3 (detC (P_turn a.c_Bench))) := by
  refine fn_Wc (k := 7) T.F_Bench_turn sc_Bench_turn rfl fun cdv A outer s H E S W ok hgd hr tk => ?_
  have nd := sc_Bench_turn.nd
  refine ⟨_, (pws_one (pws_ret (pw_meth tk (M := 2) ⟨⟨_, _, _, _, _, _, T.cl_Bench, T.M_Bench_edit_once, okW_Bench_edit_once T, (hr.mono (by decide)), T.b_Bench_edit_once, .nil, dfl_nil, detC_mono _⟩⟩ hgd (pw_name (i := 0) ok rfl (by first | exact Or.inl rfl | exact Or.inr (Or.inl rfl) | exact Or.inr (Or.inr rfl))) (pwa_cons (pw_pf ok (pf_tup (pfa_cons pf_str (pfa_cons (pf_v 1) (pfa_cons (pf_v 2) pfa_nil))))) pwa_nil)))), fun xs w Q E hl h => ?_⟩
  obtain ⟨r, ⟨o, x, y, rfl, h⟩, q⟩ := h
  obtain ⟨o', ed, sts, eds, k, bz, e, hb, h⟩ := id h
  cases e
  exact ⟨_, rfl, o, _, rfl, hb, bn_no (by decide +kernel), _, rfl, rfl, r, ⟨o, _, sts, eds, k, bz, rfl, hb, h⟩, q⟩
theorem okW_Bench_add (T : Tx K mg a) : FnG P w K mg base (L2.CX P w) 8 a.f_Bench_add a.d_Bench_add ["self", "wins"] (spW K mg 2 (detC (P_one a.c_Bench "add"))) := by
  refine fn_Wc (k := 7) T.F_Bench_add sc_Bench_add rfl fun cdv A outer s H E S W ok hgd hr tk => ?_
  have nd := sc_Bench_add.nd
  refine ⟨_, (pws_one (pws_ret (pw_meth tk (M := 2) ⟨⟨_, _, _, _, _, _, T.cl_Bench, T.M_Bench_edit_once, okW_Bench_edit_once T, (hr.mono (by decide)), T.b_Bench_edit_once, .nil, dfl_nil, detC_mono _⟩⟩ hgd (pw_name (i := 0) ok rfl (by first | exact Or.inl rfl | exact Or.inr (Or.inl rfl) | exact Or.inr (Or.inr rfl))) (pwa_cons (pw_pf ok (pf_tup (pfa_cons pf_str (pfa_cons (pf_v 1) pfa_nil)))) pwa_nil)))), fun xs w Q E hl h => ?_⟩
  obtain ⟨r, ⟨o, x, rfl, h⟩, q⟩ := h
  obtain ⟨o', ed, sts, eds, k, bz, e, hb, h⟩ := id h
  cases e
  exact ⟨_, rfl, o, _, rfl, hb, bn_no (by decide +kernel), _, rfl, rfl, r, ⟨o, _, sts, eds, k, bz, rfl, hb, h⟩, q⟩
theorem okW_Bench_remove (T : Tx K mg a) : FnG P w K mg base (L2.CX P w) 8 a.f_Bench_remove a.d_Bench_remove ["self", "one"] (spW K mg 2 (detC (P_one a.c_Bench "remove"))) := by
  refine fn_Wc (k := 7) T.F_Bench_remove sc_Bench_remove rfl fun cdv A outer s H E S W ok hgd hr tk => ?_
  have nd := sc_Bench_remove.nd
  refine ⟨_, (pws_one (pws_ret (pw_meth tk (M := 2) ⟨⟨_, _, _, _, _, _, T.cl_Bench, T.M_Bench_edit_once, okW_Bench_edit_once T, (hr.mono (by decide)), T.b_Bench_edit_once, .nil, dfl_nil, detC_mono _⟩⟩ hgd (pw_name (i := 0) ok rfl (by first | exact Or.inl rfl | exact Or.inr (Or.inl rfl) | exact Or.inr (Or.inr rfl))) (pwa_cons (pw_pf ok (pf_tup (pfa_cons pf_str (pfa_cons (pf_v 1) pfa_nil)))) pwa_nil)))), fun xs w Q E hl h => ?_⟩
  obtain ⟨r, ⟨o, x, rfl, h⟩, q⟩ := h
  obtain ⟨o', ed, sts, eds, k, bz, e, hb, h⟩ := id h
  cases e
  exact ⟨_, rfl, o, _, rfl, hb, bn_no (by decide +kernel), _, rfl, rfl, r, ⟨o, _, sts, eds, k, bz, rfl, hb, h⟩, q⟩
end
end DS
set_option maxHeartbeats 4000000
namespace DS
open PySem PySem.Spec PyProof.Rows L2
section
variable {P : Program} {w : World} {K : PySem.W.Frag} {mg : Str → Option Value} {base : Heap} {a : Ad}
theorem okW__law_stream (T : Tx K mg a) : FnG P w K mg base (L2.CX P w) 1 a.f__law_stream a.d__law_stream ["_law_script", "_law_turn"] (spW K mg 2 c_stream) := by
  refine fn_Wc (k := 0) T.F__law_stream sc__law_stream rfl fun cdv A outer s H E S W ok hgd hr tk => ?_
  have nd := sc__law_stream.nd
  refine ⟨_, (pws_cons (pws_set (i := 2) nd rfl (by first | exact Or.inl rfl | exact Or.inr rfl) (pw_pf ok pf_int))
      (pws_cons (pws_if (pwt_pf ok (pft_cmp of_gt (pf_callB cf_len (by rfl) T.z_len (by decide +kernel) (pfa_cons (pf_v 0) pfa_nil)) pf_int (nomark _))) (pws_one (pws_set (i := 2) nd rfl (by first | exact Or.inl rfl | exact Or.inr rfl) (pw_pf ok (pf_ix (pf_v 0) (pf_op of_mod (pf_v 1) (pf_callB cf_len (by rfl) T.z_len (by decide +kernel) (pfa_cons (pf_v 0) pfa_nil))))))) pws_nil)
      (pws_cons (pws_if (pwt_pf ok (pft_cmp of_lt (pf_v 2) pf_int (nomark _))) (pws_one (pws_set (i := 2) nd rfl (by first | exact Or.inl rfl | exact Or.inr rfl) (pw_pf ok (pf_op of_sub pf_int (pf_op of_mul pf_int (pf_v 2)))))) pws_nil)
      (pws_cons (pws_set (i := 3) nd rfl (by first | exact Or.inl rfl | exact Or.inr rfl) (pw_pf ok pf_int))
      (pws_cons (pws_if (pwt_pf ok (pft_cmp of_ge (pf_v 2) (pf_op of_pow pf_int pf_int) (nomark _))) (pws_one (pws_set (i := 3) nd rfl (by first | exact Or.inl rfl | exact Or.inr rfl) (pw_pf ok (pf_v 2)))) pws_nil)
      (pws_one (pws_ret (pw_new (pwa_cons (pw_pf ok (pf_v 3)) (pwa_cons (pw_pf ok (pf_op of_mod (pf_op of_addA (pf_op of_addA (pf_op of_mod (pf_v 2) pf_int) (pf_op of_mul (pf_op of_mul pf_int (pf_v 1)) (pf_v 1))) pf_int) pf_int)) (pwa_cons (pw_pf ok pf_int) pwa_nil))))))))))), fun xs w Q E hl h => ?_⟩
  obtain ⟨ns, i, rfl, hn, hi, q⟩ := h
  refine ⟨_, rfl, _, rfl, ?_⟩
  by_cases hl : 0 < ns.length
  · have hz : (0 : Int) < ((ns.map PyData.int).length : Int) := by
      rw [List.length_map]
      omega
    obtain ⟨c, hc⟩ : ∃ c : Int, ixD (.list (ns.map .int)) (.int ((i : Int) % ((ns.map PyData.int).length : Int))) = some (.int c) := by
      have h1 := Int.emod_nonneg (i : Int) (b := ((ns.map PyData.int).length : Int)) (by omega)
      have h2 := Int.emod_lt_of_pos (i : Int) hz
      obtain ⟨j, hj⟩ : ∃ j : Nat, (i : Int) % ((ns.map PyData.int).length : Int) = (j : Int) := ⟨_, (Int.toNat_of_nonneg h1).symm⟩
      rw [hj] at h2 ⊢
      have h2 : j < (ns.map PyData.int).length := by omega
      refine ⟨ns.getD j 0, (e_ixL h2).trans ?_⟩
      rw [List.length_map] at h2
      simp [List.getD, h2]
    refine ifW (by simpa using hl) ⟨_, b2_eq (x := .list (ns.map .int)) (y := .int ((i : Int) % ((ns.map PyData.int).length : Int))) rfl (b2_eq (x := .int i) (y := .int ((ns.map PyData.int).length : Int)) rfl rfl (mod_ps hz)) hc, ?_⟩
    refine ⟨_, rfl, ?_⟩
    by_cases c2 : c < 0
    · refine ifW (decide_eq_true c2) ⟨_, b2_eq (x := .int 5) rfl (b2_eq rfl rfl (mul_sm (i := 3) (j := c) (by decide))) rfl, ?_⟩
      have m1 : 0 ≤ ((5 - 3 * c) % 2305843009213693951 + 7919 * (i : Int) * i + 11) % 2305843009213693951 ∧ ((5 - 3 * c) % 2305843009213693951 + 7919 * (i : Int) * i + 11) % 2305843009213693951 < 2305843009213693951 := ⟨Int.emod_nonneg _ (by decide), Int.emod_lt_of_pos _ (by decide)⟩
      refine ⟨_, rfl, _, ts_eq (b2_eq (x := .int (5 - 3 * c)) rfl (b2_eq rfl rfl pow18) rfl), ?_⟩
      have last : ∀ f3 : PyData, bin2 (gIC cPos fun i j => PyData.int (i % j)) (bin2 gAdd (bin2 gAdd (bin2 (gIC cPos fun i j => PyData.int (i % j)) (getD 2) (cD (PyData.int 2305843009213693951))) (bin2 (gIC cMul fun i j => PyData.int (i * j)) (bin2 (gIC cMul fun i j => PyData.int (i * j)) (cD (PyData.int 7919)) (getD 1)) (getD 1))) (cD (PyData.int 11))) (cD (PyData.int 2305843009213693951)) [.dat (.list (ns.map .int)), .dat (ni i), .dat (.int (5 - 3 * c)), .dat f3] = some (.int (((5 - 3 * c) % 2305843009213693951 + 7919 * (i : Int) * i + 11) % 2305843009213693951)) := fun f3 =>
        b2_eq (b2_eq (b2_eq (b2_eq rfl rfl (mod_ps (by decide))) (b2_eq (b2_eq (y := .int i) rfl rfl (mul_sm (by decide))) rfl (mul_sm (by omega))) rfl) rfl rfl) rfl (mod_ps (by decide))
      by_cases c3 : (1000000000000000000 : Int) ≤ (5 - 3 * c)
      · exact ifW (decide_eq_true c3) ⟨_, rfl, _, rfl, _, last _, _, rfl, [_, _, _], .stm 0, rfl, (show 3 < 1000000 by decide), ⟨_, _, 0, rfl, by omega, m1.1, m1.2, Nat.le_refl 0⟩, q⟩
      · exact ifN (fun h => c3 (of_decide_eq_true h)) ⟨_, rfl, _, last _, _, rfl, [_, _, _], .stm 0, rfl, (show 3 < 1000000 by decide), ⟨_, _, 0, rfl, by decide, m1.1, m1.2, Nat.le_refl 0⟩, q⟩
    · refine ifN (fun h => c2 (of_decide_eq_true h)) ?_
      have m1 : 0 ≤ (c % 2305843009213693951 + 7919 * (i : Int) * i + 11) % 2305843009213693951 ∧ (c % 2305843009213693951 + 7919 * (i : Int) * i + 11) % 2305843009213693951 < 2305843009213693951 := ⟨Int.emod_nonneg _ (by decide), Int.emod_lt_of_pos _ (by decide)⟩
      refine ⟨_, rfl, _, ts_eq (b2_eq (x := .int c) rfl (b2_eq rfl rfl pow18) rfl), ?_⟩
      have last : ∀ f3 : PyData, bin2 (gIC cPos fun i j => PyData.int (i % j)) (bin2 gAdd (bin2 gAdd (bin2 (gIC cPos fun i j => PyData.int (i % j)) (getD 2) (cD (PyData.int 2305843009213693951))) (bin2 (gIC cMul fun i j => PyData.int (i * j)) (bin2 (gIC cMul fun i j => PyData.int (i * j)) (cD (PyData.int 7919)) (getD 1)) (getD 1))) (cD (PyData.int 11))) (cD (PyData.int 2305843009213693951)) [.dat (.list (ns.map .int)), .dat (ni i), .dat (.int c), .dat f3] = some (.int ((c % 2305843009213693951 + 7919 * (i : Int) * i + 11) % 2305843009213693951)) := fun f3 =>
        b2_eq (b2_eq (b2_eq (b2_eq rfl rfl (mod_ps (by decide))) (b2_eq (b2_eq (y := .int i) rfl rfl (mul_sm (by decide))) rfl (mul_sm (by omega))) rfl) rfl rfl) rfl (mod_ps (by decide))
      by_cases c3 : (1000000000000000000 : Int) ≤ c
      · exact ifW (decide_eq_true c3) ⟨_, rfl, _, rfl, _, last _, _, rfl, [_, _, _], .stm 0, rfl, (show 3 < 1000000 by decide), ⟨_, _, 0, rfl, by omega, m1.1, m1.2, Nat.le_refl 0⟩, q⟩
      · exact ifN (fun h => c3 (of_decide_eq_true h)) ⟨_, rfl, _, last _, _, rfl, [_, _, _], .stm 0, rfl, (show 3 < 1000000 by decide), ⟨_, _, 0, rfl, by decide, m1.1, m1.2, Nat.le_refl 0⟩, q⟩
  · refine ifN (by simpa using hl) ?_
    refine ⟨_, rfl, ?_⟩
    by_cases c2 : (0 : Int) < 0
    · refine ifW (decide_eq_true c2) ⟨_, b2_eq (x := .int 5) rfl (b2_eq rfl rfl (mul_sm (i := 3) (j := (0 : Int)) (by decide))) rfl, ?_⟩
      have m1 : 0 ≤ ((5 - 3 * (0 : Int)) % 2305843009213693951 + 7919 * (i : Int) * i + 11) % 2305843009213693951 ∧ ((5 - 3 * (0 : Int)) % 2305843009213693951 + 7919 * (i : Int) * i + 11) % 2305843009213693951 < 2305843009213693951 := ⟨Int.emod_nonneg _ (by decide), Int.emod_lt_of_pos _ (by decide)⟩
      refine ⟨_, rfl, _, ts_eq (b2_eq (x := .int (5 - 3 * (0 : Int))) rfl (b2_eq rfl rfl pow18) rfl), ?_⟩
      have last : ∀ f3 : PyData, bin2 (gIC cPos fun i j => PyData.int (i % j)) (bin2 gAdd (bin2 gAdd (bin2 (gIC cPos fun i j => PyData.int (i % j)) (getD 2) (cD (PyData.int 2305843009213693951))) (bin2 (gIC cMul fun i j => PyData.int (i * j)) (bin2 (gIC cMul fun i j => PyData.int (i * j)) (cD (PyData.int 7919)) (getD 1)) (getD 1))) (cD (PyData.int 11))) (cD (PyData.int 2305843009213693951)) [.dat (.list (ns.map .int)), .dat (ni i), .dat (.int (5 - 3 * (0 : Int))), .dat f3] = some (.int (((5 - 3 * (0 : Int)) % 2305843009213693951 + 7919 * (i : Int) * i + 11) % 2305843009213693951)) := fun f3 =>
        b2_eq (b2_eq (b2_eq (b2_eq rfl rfl (mod_ps (by decide))) (b2_eq (b2_eq (y := .int i) rfl rfl (mul_sm (by decide))) rfl (mul_sm (by omega))) rfl) rfl rfl) rfl (mod_ps (by decide))
      by_cases c3 : (1000000000000000000 : Int) ≤ (5 - 3 * (0 : Int))
      · exact ifW (decide_eq_true c3) ⟨_, rfl, _, rfl, _, last _, _, rfl, [_, _, _], .stm 0, rfl, (show 3 < 1000000 by decide), ⟨_, _, 0, rfl, by omega, m1.1, m1.2, Nat.le_refl 0⟩, q⟩
      · exact ifN (fun h => c3 (of_decide_eq_true h)) ⟨_, rfl, _, last _, _, rfl, [_, _, _], .stm 0, rfl, (show 3 < 1000000 by decide), ⟨_, _, 0, rfl, by decide, m1.1, m1.2, Nat.le_refl 0⟩, q⟩
    · refine ifN (fun h => c2 (of_decide_eq_true h)) ?_
      have m1 : 0 ≤ ((0 : Int) % 2305843009213693951 + 7919 * (i : Int) * i + 11) % 2305843009213693951 ∧ ((0 : Int) % 2305843009213693951 + 7919 * (i : Int) * i + 11) % 2305843009213693951 < 2305843009213693951 := ⟨Int.emod_nonneg _ (by decide), Int.emod_lt_of_pos _ (by decide)⟩
      refine ⟨_, rfl, _, ts_eq (b2_eq (x := .int (0 : Int)) rfl (b2_eq rfl rfl pow18) rfl), ?_⟩
      have last : ∀ f3 : PyData, bin2 (gIC cPos fun i j => PyData.int (i % j)) (bin2 gAdd (bin2 gAdd (bin2 (gIC cPos fun i j => PyData.int (i % j)) (getD 2) (cD (PyData.int 2305843009213693951))) (bin2 (gIC cMul fun i j => PyData.int (i * j)) (bin2 (gIC cMul fun i j => PyData.int (i * j)) (cD (PyData.int 7919)) (getD 1)) (getD 1))) (cD (PyData.int 11))) (cD (PyData.int 2305843009213693951)) [.dat (.list (ns.map .int)), .dat (ni i), .dat (.int (0 : Int)), .dat f3] = some (.int (((0 : Int) % 2305843009213693951 + 7919 * (i : Int) * i + 11) % 2305843009213693951)) := fun f3 =>
        b2_eq (b2_eq (b2_eq (b2_eq rfl rfl (mod_ps (by decide))) (b2_eq (b2_eq (y := .int i) rfl rfl (mul_sm (by decide))) rfl (mul_sm (by omega))) rfl) rfl rfl) rfl (mod_ps (by decide))
      by_cases c3 : (1000000000000000000 : Int) ≤ (0 : Int)
      · exact ifW (decide_eq_true c3) ⟨_, rfl, _, rfl, _, last _, _, rfl, [_, _, _], .stm 0, rfl, (show 3 < 1000000 by decide), ⟨_, _, 0, rfl, by omega, m1.1, m1.2, Nat.le_refl 0⟩, q⟩
      · exact ifN (fun h => c3 (of_decide_eq_true h)) ⟨_, rfl, _, last _, _, rfl, [_, _, _], .stm 0, rfl, (show 3 < 1000000 by decide), ⟨_, _, 0, rfl, by decide, m1.1, m1.2, Nat.le_refl 0⟩, q⟩
theorem okW__law_seen (T : Tx K mg a) : FnG P w K mg base (L2.CX P w) 4 a.f__law_seen a.d__law_seen ["_law_bench"] (spW K mg 1 (detC (P_lseen a.c_Bench))) := by
  refine fn_Wc (k := 3) T.F__law_seen sc__law_seen rfl fun cdv A outer s H E S W ok hgd hr tk => ?_
  have nd := sc__law_seen.nd
  refine ⟨_, (pws_one (pws_ret (pw_tup ok (pwa_cons (pw_meth0 tk (M := 2) ⟨let ⟨_, bv, bb⟩ := T.b_Bench_table; ⟨_, _, _, _, _, _, T.cl_Bench, T.M_Bench_table, okW_Bench_table T, (hr.mono (by decide)), bb, bv, dfl_non, detC_mono _⟩⟩ hgd (pw_name (i := 0) ok rfl (by first | exact Or.inl rfl | exact Or.inr (Or.inl rfl) | exact Or.inr (Or.inr rfl)))) (pwa_cons (pw_meth0 tk (M := 1) ⟨⟨_, _, _, _, _, _, T.cl_Bench, T.M_Bench_edits, okW_Bench_edits T, (hr.mono (by decide)), T.b_Bench_edits, .nil, dfl_nil, detC_mono _⟩⟩ hgd (pw_name (i := 0) ok rfl (by first | exact Or.inl rfl | exact Or.inr (Or.inl rfl) | exact Or.inr (Or.inr rfl)))) (pwa_cons (pw_lenO (detC_mono _) T.M_Bench___len__ (okW_Bench___len__ T) hgd (hr.mono (by decide)) T.b_Bench___len__ (by rfl) T.z_len (pw_name (i := 0) ok rfl (by first | exact Or.inl rfl | exact Or.inr (Or.inl rfl) | exact Or.inr (Or.inr rfl)))) (pwa_cons (pw_strO (detC_mono _) T.M_Bench___str__ (okW_Bench___str__ T) hgd (hr.mono (by decide)) T.b_Bench___str__ (by rfl) T.z_str (pw_name (i := 0) ok rfl (by first | exact Or.inl rfl | exact Or.inr (Or.inl rfl) | exact Or.inr (Or.inr rfl)))) (pwa_cons (pw_prop (detC_mono _) T.cl_Bench T.P_Bench_version (okW_Bench_version T) hgd (hr.mono (by decide)) T.b_Bench_version (pw_name (i := 0) ok rfl (by first | exact Or.inl rfl | exact Or.inr (Or.inl rfl) | exact Or.inr (Or.inr rfl)))) (pwa_cons (pw_prop (detC_mono _) T.cl_Bench T.P_Bench_size (okW_Bench_size T) hgd (hr.mono (by decide)) T.b_Bench_size (pw_name (i := 0) ok rfl (by first | exact Or.inl rfl | exact Or.inr (Or.inl rfl) | exact Or.inr (Or.inr rfl)))) pwa_nil))))))))), fun xs w Q E hl h => ?_⟩
  obtain ⟨r, ⟨o, sts, eds, k, bz, d, rfl, hb, le, e, rfl⟩, q⟩ := h
  obtain ⟨t, e1, e⟩ := Option.bind_eq_some_iff.mp e
  obtain ⟨m, e2, e⟩ := Option.bind_eq_some_iff.mp e
  obtain ⟨s, e3, e⟩ := Option.bind_eq_some_iff.mp e
  cases e
  refine ⟨_, rfl, o, _, rfl, hb, bn_no (by decide +kernel), rfl, _, ⟨o, .none, sts, eds, k, bz, .ok t, rfl, hb, ?_, rfl⟩, ?_⟩
  · show (lastD sts).map Except.ok = _
    rw [e1]
    rfl
  refine ⟨_, rfl, o, _, rfl, hb, bn_no (by decide +kernel), rfl, _, ⟨o, sts, eds, k, bz, _, rfl, hb, rfl, rfl⟩, ?_⟩
  refine ⟨_, rfl, o, _, rfl, hb, _, ⟨o, sts, eds, k, bz, _, rfl, hb, rfl, rfl⟩, ⟨_, rfl, by omega, by omega⟩, ?_⟩
  refine ⟨_, rfl, o, _, rfl, hb, _, ⟨o, sts, eds, k, bz, _, rfl, hb, e3, rfl⟩, by
    obtain ⟨y, rfl⟩ := g_str_str e3
    exact ⟨y, rfl⟩, ?_⟩
  refine ⟨_, rfl, o, _, rfl, hb, _, ⟨o, sts, eds, k, bz, _, rfl, hb, rfl, rfl⟩, trivial, ?_⟩
  refine ⟨_, rfl, o, _, rfl, hb, _, ⟨o, sts, eds, k, bz, _, rfl, hb, (show (lastD sts).bind _ = _ by rw [e1, Option.bind_some, e2]), rfl⟩, trivial, ?_⟩
  exact ⟨[_, _, _, _, _, _], rfl, (show 6 < 1000000 by decide), q⟩
theorem okW__law_do (T : Tx K mg a) : FnG P w K mg base (L2.CX P w) 9 a.f__law_do a.d__law_do ["_law_bench", "_law_edit"] (spW K mg 2 (detC (P_ldo a.c_Bench))) := by
  refine fn_Wc (k := 8) T.F__law_do sc__law_do rfl fun cdv A outer s H E S W ok hgd hr tk => ?_
  have nd := sc__law_do.nd
  refine ⟨_, (pws_cons (pws_if (pwt_pf ok (pft_cmp (of_eq hr.units) (pf_ix (pf_v 1) pf_int) pf_str (nomark _))) (pws_one (pws_ret (pw_meth tk (M := 3) ⟨⟨_, _, _, _, _, _, T.cl_Bench, T.M_Bench_turn, okW_Bench_turn T, (hr.mono (by decide)), T.b_Bench_turn, .nil, dfl_nil, detC_mono _⟩⟩ hgd (pw_name (i := 0) ok rfl (by first | exact Or.inl rfl | exact Or.inr (Or.inl rfl) | exact Or.inr (Or.inr rfl))) (pwa_cons (pw_pf ok (pf_ix (pf_v 1) pf_int)) (pwa_cons (pw_pf ok (pf_ix (pf_v 1) pf_int)) pwa_nil))))) pws_nil)
      (pws_cons (pws_if (pwt_pf ok (pft_cmp (of_eq hr.units) (pf_ix (pf_v 1) pf_int) pf_str (nomark _))) (pws_one (pws_ret (pw_meth tk (M := 2) ⟨⟨_, _, _, _, _, _, T.cl_Bench, T.M_Bench_add, okW_Bench_add T, (hr.mono (by decide)), T.b_Bench_add, .nil, dfl_nil, detC_mono _⟩⟩ hgd (pw_name (i := 0) ok rfl (by first | exact Or.inl rfl | exact Or.inr (Or.inl rfl) | exact Or.inr (Or.inr rfl))) (pwa_cons (pw_pf ok (pf_ix (pf_v 1) pf_int)) pwa_nil)))) pws_nil)
      (pws_one (pws_ret (pw_meth tk (M := 2) ⟨⟨_, _, _, _, _, _, T.cl_Bench, T.M_Bench_remove, okW_Bench_remove T, (hr.mono (by decide)), T.b_Bench_remove, .nil, dfl_nil, detC_mono _⟩⟩ hgd (pw_name (i := 0) ok rfl (by first | exact Or.inl rfl | exact Or.inr (Or.inl rfl) | exact Or.inr (Or.inr rfl))) (pwa_cons (pw_pf ok (pf_ix (pf_v 1) pf_int)) pwa_nil)))))), fun xs w Q E hl h => ?_⟩
  obtain ⟨r, ⟨o, ed, rfl, h1, h⟩, q⟩ := h
  have eq : ∀ x (xs : List PyData) y, tstF (bin2 gEq (bin2 ixD (getD 1) (cD (.int 0))) (cD (.str y))) [.err o none none, .dat (.tuple (.str x :: xs))] = some (x == y) := fun x xs y => by
    simp
  have hb : ∃ fs, w o = some (.ins a.c_Bench fs) ∧ ∀ m : Str, (m == ("states" : Str)) = false ∧ (m == ("standing" : Str)) = false ∧ (m == ("chosen" : Str)) = false ∧ (m == ("busy" : Str)) = false → fs.lookup m = none := by
    obtain ⟨o', ed', sts, eds, k, bz, e, hb, _⟩ := h
    cases e
    exact ⟨_, hb, fun m h => bn_no h⟩
  obtain ⟨fs, hb, no⟩ := hb
  rcases h1 with ⟨x, y, rfl⟩ | ⟨x, rfl⟩ | ⟨x, rfl⟩
  · refine ⟨_, eq _ _ _, ifW (by decide +kernel) ?_⟩
    exact ⟨_, rfl, o, _, rfl, hb, no _ (by decide +kernel), _, rfl, _, rfl, rfl, r, ⟨o, x, y, rfl, h⟩, q⟩
  · refine ⟨_, eq _ _ _, ifN (by decide +kernel) ?_⟩
    refine ⟨_, eq _ _ _, ifW (by decide +kernel) ?_⟩
    exact ⟨_, rfl, o, _, rfl, hb, no _ (by decide +kernel), _, rfl, rfl, r, ⟨o, x, rfl, h⟩, q⟩
  · refine ⟨_, eq _ _ _, ifN (by decide +kernel) ?_⟩
    refine ⟨_, eq _ _ _, ifN (by decide +kernel) ?_⟩
    exact ⟨_, rfl, o, _, rfl, hb, no _ (by decide +kernel), _, rfl, rfl, r, ⟨o, x, rfl, h⟩, q⟩
end
end DS
set_option maxHeartbeats 4000000
namespace DS
open PySem PySem.Spec PyProof.Rows L2
/-! ### is_table of any value -/
/-- a loop that returns at the first wrong item something of a kind -/
theorem for_chkP {α : Type} {fi : Dn → Option (List PyData)} {g : PyData → Dn → Option Dn} {f : SF} {l : List α} {h : α → PyData} {ρ : Dn} (p : α → Bool) (P : PyData → Prop) (I : Dn → Prop) (e : fi ρ = some (l.map h)) (h0 : I ρ)
    (hs : ∀ x ∈ l, ∀ ρ, I ρ → (p x = true ∧ ∃ ρ2, I ρ2 ∧ (g (h x) ρ).bind f = some (.nx ρ2)) ∨ (p x = false ∧ ∃ d, P d ∧ (g (h x) ρ).bind f = some (.rt d))) :
    (l.all p = true ∧ ∃ ρ', I ρ' ∧ sFor fi g f ρ = some (.nx ρ')) ∨ (l.all p = false ∧ ∃ d, P d ∧ sFor fi g f ρ = some (.rt d)) := by
  have key : ∀ (l : List α) (ρ : Dn), I ρ → (∀ x ∈ l, ∀ ρ, I ρ → (p x = true ∧ ∃ ρ2, I ρ2 ∧ (g (h x) ρ).bind f = some (.nx ρ2)) ∨ (p x = false ∧ ∃ d, P d ∧ (g (h x) ρ).bind f = some (.rt d))) →
      (l.all p = true ∧ ∃ ρ', I ρ' ∧ runFor g f (l.map h) ρ = some (.nx ρ')) ∨ (l.all p = false ∧ ∃ d, P d ∧ runFor g f (l.map h) ρ = some (.rt d)) := by
    intro l
    induction l with
    | nil => exact fun ρ i0 _ => .inl ⟨rfl, ρ, i0, rfl⟩
    | cons x l ih =>
      intro ρ i0 hs
      rcases hs x List.mem_cons_self ρ i0 with ⟨px, ρ2, i2, e2⟩ | ⟨px, d, pd, e2⟩
      · obtain ⟨ρ1, g1, f1⟩ := Option.bind_eq_some_iff.mp e2
        have er : runFor g f ((x :: l).map h) ρ = runFor g f (l.map h) ρ2 := by
          show (g (h x) ρ).bind _ = _
          rw [g1]
          show (f ρ1).bind _ = _
          rw [f1]
          rfl
        rw [er, List.all_cons, px, Bool.true_and]
        exact ih ρ2 i2 fun y hy => hs y (List.mem_cons_of_mem _ hy)
      · obtain ⟨ρ1, g1, f1⟩ := Option.bind_eq_some_iff.mp e2
        have er : runFor g f ((x :: l).map h) ρ = some (.rt d) := by
          show (g (h x) ρ).bind _ = _
          rw [g1]
          show (f ρ1).bind _ = _
          rw [f1]
          rfl
        rw [er, List.all_cons, px, Bool.false_and]
        exact .inr ⟨rfl, d, pd, rfl⟩
  rcases key l ρ h0 hs with ⟨a, ρ', i1, e1⟩ | ⟨a, d, pd, e1⟩
  · exact .inl ⟨a, ρ', i1, for_yes e e1⟩
  · exact .inr ⟨a, d, pd, for_no e e1⟩
def rowJ (n : Nat) : PyData → Bool
  | .str x => x.length == n
  | _ => false
/-- texts short enough -/
def TxtS (ys : List PyData) : Prop := ∀ x, PyData.str x ∈ ys → x.length < 1000000
theorem getD_mem {ys : List PyData} {j : Nat} (h : j < ys.length) : ys.getD j .none ∈ ys := by
  rw [List.getD_eq_getElem?_getD, List.getElem?_eq_getElem h]
  exact List.getElem_mem h
theorem all_getD {ys : List PyData} {p : PyData → Bool} : ((List.range ys.length).all fun j => p (ys.getD j .none)) = ys.all p := by
  rw [Bool.eq_iff_iff, List.all_eq_true, List.all_eq_true]
  constructor
  · intro h y hy
    obtain ⟨j, hj, e⟩ := List.getElem_of_mem hy
    have := h j (List.mem_range.mpr hj)
    rw [List.getD_eq_getElem?_getD, List.getElem?_eq_getElem hj] at this
    rw [← e]
    exact this
  · exact fun h j hj => h _ (getD_mem (List.mem_range.mp hj))
theorem row_err {ys : List PyData} (hl : ys.length < 1000000) (ht : TxtS ys) : (ys.all (rowJ ys.length) = true ∧ sem_row_error [.tuple ys] = some .none) ∨ (ys.all (rowJ ys.length) = false ∧ ∃ d, isNone d = false ∧ sem_row_error [.tuple ys] = some d) := by
  have key := for_chkP (fi := enumI (getD 0)) (g := setT [1, 2]) (f := (sIf (orT (notT (tstF (isiF "str" (getD 2)))) (tstF (bin2 gNe (callA lenD (consA (getD 2) nilA)) (callA lenD (consA (getD 0) nilA))))) (sRet (tupF (consA (getD 1) (consA (cD .none) (consA (cD (.str "row")) nilA))))) sNil)) (l := List.range ys.length) (h := fun j => .tuple [ni j, ys.getD j .none]) (ρ := startD 3 [.tuple ys])
    (fun j => rowJ ys.length (ys.getD j .none)) (fun d => isNone d = false) (fun ρ => ∃ e1 e2, ρ = [.dat (.tuple ys), e1, e2]) (by simp [enum_range]) ⟨_, _, rfl⟩ fun j hj ρ hI => by
      obtain ⟨e1, e2, rfl⟩ := hI
      have hm := getD_mem (List.mem_range.mp hj)
      generalize ys.getD j .none = y at hm ⊢
      cases y with
      | str x =>
        have hx := ht x hm
        by_cases e : x.length = ys.length
        · refine .inl ⟨by simp [rowJ, e], [.dat (.tuple ys), .dat (ni j), .dat (.str x)], ⟨_, _, rfl⟩, ?_⟩
          simp [lenD, show x.length < lim from hx, show ys.length < lim from hl, e]
        · refine .inr ⟨by simp [rowJ, e], .tuple [ni j, .none, .str "row"], rfl, ?_⟩
          simp [lenD, show x.length < lim from hx, show ys.length < lim from hl, e]
      | _ => exact .inr ⟨rfl, .tuple [ni j, .none, .str "row"], rfl, by simp⟩
  rw [all_getD] at key
  rcases key with ⟨a, ρ', ⟨e1, e2, rfl⟩, e⟩ | ⟨a, d, pd, e⟩
  · exact .inl ⟨a, sem_of (seq_nx e rfl)⟩
  · exact .inr ⟨a, d, pd, sem_of (seq_rt e)⟩
/-- a sign of a row -/
def sgY (ys : List PyData) (i j : Nat) : Nat := match ys.getD i .none with
  | .str x => x.cps.toList.getD j 0
  | _ => 0
structure RowsY (ys : List PyData) : Prop where
  n9 : ys.length ≤ 9
  rows : ys.all (rowJ ys.length) = true
theorem RowsY.get {ys : List PyData} (h : RowsY ys) {i : Nat} (hi : i < ys.length) : ∃ x : Str, ys.getD i .none = .str x ∧ x.length = ys.length ∧ ∀ j, x.cps.toList.getD j 0 = sgY ys i j := by
  have := List.all_eq_true.mp h.rows _ (getD_mem hi)
  unfold sgY
  generalize ys.getD i .none = y at this
  cases y with
  | str x => exact ⟨x, rfl, by simpa [rowJ] using this, fun j => rfl⟩
  | _ => cases this
theorem ix_str {x : Str} {j n : Nat} (hl : x.length = n) (h9 : n ≤ 9) (hj : j < n) : ixD (.str x) (ni j) = some (.str ⟨#[x.cps.toList.getD j 0]⟩) := by
  have hx : x.length < lim := by show x.length < 1000000; omega
  have hj2 : j < x.cps.toList.length := by
    rw [len_str]
    omega
  show (if x.length < lim then (atI x.cps.toList (j : Int)).map fun c => PyData.str ⟨#[c]⟩ else none) = _
  rw [if_pos hx, atI_nat (List.getElem?_eq_getElem hj2)]
  rw [List.getD_eq_getElem?_getD, List.getElem?_eq_getElem hj2]
  rfl
def signJ (ys : List PyData) (i j : Nat) : Bool := if i = j then decide (sgY ys i j = 46) else decide (sgY ys i j = 43 ∨ sgY ys i j = 45)
theorem chrs_enum {x : Str} {n : Nat} (hl : x.length = n) : enumD (chrsD x) = (List.range n).map fun j => .tuple [ni j, .str ⟨#[x.cps.toList.getD j 0]⟩] := by
  rw [enum_range]
  have e : (chrsD x).length = n := by
    unfold chrsD
    rw [List.length_map, len_str, hl]
  rw [e]
  refine List.map_congr_left fun j hj => ?_
  have hj := List.mem_range.mp hj
  have hj2 : j < x.cps.toList.length := by
    rw [len_str]
    omega
  unfold chrsD
  rw [List.getD_eq_getElem?_getD, List.getElem?_map, List.getElem?_eq_getElem hj2, List.getD_eq_getElem?_getD, List.getElem?_eq_getElem hj2]
  rfl
theorem sign_err {ys : List PyData} (R : RowsY ys) : (((List.range ys.length).all fun i => (List.range ys.length).all fun j => signJ ys i j) = true ∧ sem_sign_error [.tuple ys] = some .none) ∨ (((List.range ys.length).all fun i => (List.range ys.length).all fun j => signJ ys i j) = false ∧ ∃ d, isNone d = false ∧ sem_sign_error [.tuple ys] = some d) := by
  have h9 := R.n9
  have key := for_chkP (fi := enumI (getD 0)) (g := setT [1, 2]) (f := (sFor (enumI (getD 2)) (setT [3, 4]) (sIf (tstF (bin2 (gInT true) (getD 4) (ifF (tstF (bin2 gEq (getD 1) (getD 3))) (cD (.str ".")) (cD (.str "+-"))))) (sRet (tupF (consA (getD 1) (consA (getD 3) (consA (cD (.str "sign")) nilA))))) sNil))) (l := List.range ys.length) (h := fun j => .tuple [ni j, ys.getD j .none]) (ρ := startD 5 [.tuple ys])
    (fun i => (List.range ys.length).all fun j => signJ ys i j) (fun d => isNone d = false) (fun ρ => ∃ e1 e2 e3 e4, ρ = [.dat (.tuple ys), e1, e2, e3, e4]) (by simp [enum_range]) ⟨_, _, _, _, rfl⟩ fun i hi ρ hI => by
      obtain ⟨e1, e2, e3, e4, rfl⟩ := hI
      obtain ⟨x, ex, hx, sx⟩ := R.get (List.mem_range.mp hi)
      rw [ex]
      have k2 := for_chkP (fi := enumI (getD 2)) (g := setT [3, 4]) (f := (sIf (tstF (bin2 (gInT true) (getD 4) (ifF (tstF (bin2 gEq (getD 1) (getD 3))) (cD (.str ".")) (cD (.str "+-"))))) (sRet (tupF (consA (getD 1) (consA (getD 3) (consA (cD (.str "sign")) nilA))))) sNil)) (l := List.range ys.length) (h := fun j => .tuple [ni j, .str ⟨#[x.cps.toList.getD j 0]⟩]) (ρ := [.dat (.tuple ys), .dat (ni i), .dat (.str x), e3, e4])
        (fun j => signJ ys i j) (fun d => isNone d = false) (fun ρ => ∃ e3 e4, ρ = [.dat (.tuple ys), .dat (ni i), .dat (.str x), e3, e4]) (by
          show some (enumD (chrsD x)) = _
          rw [chrs_enum hx]) ⟨_, _, rfl⟩ fun j hj ρ hI => by
          obtain ⟨e3, e4, rfl⟩ := hI
          rw [sx j]
          have dot : (Str.ofString ".").cps.toList = [46] := by decide +kernel
          have pm : (Str.ofString "+-").cps.toList = [43, 45] := by decide +kernel
          by_cases e : i = j
          · by_cases c : sgY ys i j = 46
            · refine .inl ⟨by simp [signJ, e]; rw [← e]; rw [e] at c ⊢; exact c, [.dat (.tuple ys), .dat (ni i), .dat (.str x), .dat (ni j), .dat (.str ⟨#[sgY ys i j]⟩)], ⟨_, _, rfl⟩, ?_⟩
              simp [e, inT_one, dot]
              rw [e] at c
              exact c
            · refine .inr ⟨by simp [signJ, e]; rw [e] at c; exact c, .tuple [ni i, ni j, .str "sign"], rfl, ?_⟩
              simp [e, inT_one, dot]
              rw [e] at c
              exact c
          · by_cases c : sgY ys i j = 43 ∨ sgY ys i j = 45
            · refine .inl ⟨by simp [signJ, e, c], [.dat (.tuple ys), .dat (ni i), .dat (.str x), .dat (ni j), .dat (.str ⟨#[sgY ys i j]⟩)], ⟨_, _, rfl⟩, ?_⟩
              simp [e, inT_one, pm]
              exact fun h => c.resolve_left h
            · refine .inr ⟨by simp [signJ, e]; exact ⟨fun h => c (.inl h), fun h => c (.inr h)⟩, .tuple [ni i, ni j, .str "sign"], rfl, ?_⟩
              simp [e, inT_one, pm]
              exact ⟨fun h => c (.inl h), fun h => c (.inr h)⟩
      rcases k2 with ⟨a, ρ', ⟨e3', e4', rfl⟩, e⟩ | ⟨a, d, pd, e⟩
      · exact .inl ⟨a, _, ⟨_, _, _, _, rfl⟩, e⟩
      · exact .inr ⟨a, d, pd, e⟩
  rcases key with ⟨a, ρ', ⟨e1, e2, e3, e4, rfl⟩, e⟩ | ⟨a, d, pd, e⟩
  · exact .inl ⟨a, sem_of (seq_nx e rfl)⟩
  · exact .inr ⟨a, d, pd, sem_of (seq_rt e)⟩
theorem pair_err {ys : List PyData} (R : RowsY ys) : (((List.range ys.length).all fun i => (List.range (ys.length - (i + 1))).all fun c => !(sgY ys i (i + 1 + c) == sgY ys (i + 1 + c) i)) = true ∧ sem_pair_error [.tuple ys] = some .none) ∨ (((List.range ys.length).all fun i => (List.range (ys.length - (i + 1))).all fun c => !(sgY ys i (i + 1 + c) == sgY ys (i + 1 + c) i)) = false ∧ ∃ d, isNone d = false ∧ sem_pair_error [.tuple ys] = some d) := by
  have h9 := R.n9
  have key := for_chkP (fi := enumI (getD 0)) (g := setT [1, 2]) (f := (sFor (rng2I (bin2 gAdd (getD 1) (cD (.int 1))) (callA lenD (consA (getD 0) nilA))) (setN 3) (sIf (tstF (bin2 gEq (bin2 ixD (getD 2) (getD 3)) (bin2 ixD (bin2 ixD (getD 0) (getD 3)) (getD 1)))) (sRet (tupF (consA (getD 1) (consA (getD 3) (consA (cD (.str "pair")) nilA))))) sNil))) (l := List.range ys.length) (h := fun j => .tuple [ni j, ys.getD j .none]) (ρ := startD 4 [.tuple ys])
    (fun i => (List.range (ys.length - (i + 1))).all fun c => !(sgY ys i (i + 1 + c) == sgY ys (i + 1 + c) i)) (fun d => isNone d = false) (fun ρ => ∃ e1 e2 e3, ρ = [.dat (.tuple ys), e1, e2, e3]) (by simp [enum_range]) ⟨_, _, _, rfl⟩ fun i hi ρ hI => by
      obtain ⟨e1, e2, e3, rfl⟩ := hI
      have hi := List.mem_range.mp hi
      obtain ⟨x, ex, hx, sx⟩ := R.get hi
      rw [ex, show setT [1, 2] (.tuple [ni i, .str x]) [.dat (.tuple ys), e1, e2, e3] = some [.dat (.tuple ys), .dat (ni i), .dat (.str x), e3] from rfl, Option.bind_some]
      have k2 := for_chkP (fi := rng2I (bin2 gAdd (getD 1) (cD (.int 1))) (callA lenD (consA (getD 0) nilA))) (g := setN 3) (f := (sIf (tstF (bin2 gEq (bin2 ixD (getD 2) (getD 3)) (bin2 ixD (bin2 ixD (getD 0) (getD 3)) (getD 1)))) (sRet (tupF (consA (getD 1) (consA (getD 3) (consA (cD (.str "pair")) nilA))))) sNil)) (l := List.range (ys.length - (i + 1))) (h := fun c => ni (i + 1 + c)) (ρ := [.dat (.tuple ys), .dat (ni i), .dat (.str x), e3])
        (fun c => !(sgY ys i (i + 1 + c) == sgY ys (i + 1 + c) i)) (fun d => isNone d = false) (fun ρ => ∃ e3, ρ = [.dat (.tuple ys), .dat (ni i), .dat (.str x), e3]) (rng2_nat (l := i + 1) (m := ys.length) (by simp [ni]) rfl (by omega) (by omega)) ⟨_, rfl⟩ fun c hc ρ hI => by
          obtain ⟨e3, rfl⟩ := hI
          have hc := List.mem_range.mp hc
          obtain ⟨y, ey, hy, sy⟩ := R.get (i := i + 1 + c) (by omega)
          have i1 := ix_str hx h9 (j := i + 1 + c) (by omega)
          have i2 : ixD (.tuple ys) (ni (i + 1 + c)) = some (.str y) := by rw [e_ixT (by omega), ey]
          have i3 := ix_str hy h9 (j := i) hi
          rw [sx] at i1
          rw [sy] at i3
          by_cases e : sgY ys i (i + 1 + c) = sgY ys (i + 1 + c) i
          · refine .inr ⟨by simp [e], .tuple [ni i, ni (i + 1 + c), .str "pair"], rfl, ?_⟩
            simp [i1, i2, i3, e]
          · refine .inl ⟨by simp [e], [.dat (.tuple ys), .dat (ni i), .dat (.str x), .dat (ni (i + 1 + c))], ⟨_, rfl⟩, ?_⟩
            simp [i1, i2, i3, e]
      rcases k2 with ⟨a, ρ', ⟨e3', rfl⟩, e⟩ | ⟨a, d, pd, e⟩
      · exact .inl ⟨a, _, ⟨_, _, _, rfl⟩, e⟩
      · exact .inr ⟨a, d, pd, e⟩
  rcases key with ⟨a, ρ', ⟨e1, e2, e3, rfl⟩, e⟩ | ⟨a, d, pd, e⟩
  · refine .inl ⟨a, sem_end ?_⟩
    unfold z_pair_error
    exact seq_nx e rfl
  · refine .inr ⟨a, d, pd, sem_end ?_⟩
    unfold z_pair_error
    exact seq_rt e
/-- a table, as a value -/
def tblJ : PyData → Bool
  | .tuple ys => decide (1 ≤ ys.length ∧ ys.length ≤ 9) && (ys.all (rowJ ys.length) && (((List.range ys.length).all fun i => (List.range ys.length).all fun j => signJ ys i j) && ((List.range ys.length).all fun i => (List.range (ys.length - (i + 1))).all fun c => !(sgY ys i (i + 1 + c) == sgY ys (i + 1 + c) i))))
  | _ => false
theorem tblJ_tup {ys : List PyData} : tblJ (.tuple ys) = (decide (1 ≤ ys.length ∧ ys.length ≤ 9) && (ys.all (rowJ ys.length) && (((List.range ys.length).all fun i => (List.range ys.length).all fun j => signJ ys i j) && ((List.range ys.length).all fun i => (List.range (ys.length - (i + 1))).all fun c => !(sgY ys i (i + 1 + c) == sgY ys (i + 1 + c) i))))) := rfl
theorem is_table_any (d : PyData) (ht : ∀ ys, d = .tuple ys → TxtS ys) : sem_is_table [d] = some (.bool (tblJ d)) := by
  cases d with
  | tuple ys =>
    have ht := ht ys rfl
    have nn0 : isNone .none = true := rfl
    rw [tblJ_tup]
    by_cases h : 1 ≤ ys.length ∧ ys.length ≤ 9
    · have nn : ¬ ((9 : Int) < ys.length) := by omega
      have g1 : (1 : Int) ≤ ys.length := by omega
      have g2 : (ys.length : Int) ≤ 9 := by omega
      rcases row_err (by omega) ht with ⟨r1, e1⟩ | ⟨r1, d1, n1, e1⟩
      · have R : RowsY ys := ⟨h.2, r1⟩
        rcases sign_err R with ⟨r2, e2⟩ | ⟨r2, d2, n2, e2⟩
        · rcases pair_err R with ⟨r3, e3⟩ | ⟨r3, d3, n3, e3⟩
          · rw [decide_eq_true h, r1, r2, r3]
            simp [sem_is_table, z_is_table, sem_table_error, z_table_error, lenD, h.1, h.2, g1, g2, e1, e2, e3, nn0]
          · rw [decide_eq_true h, r1, r2, r3]
            simp [sem_is_table, z_is_table, sem_table_error, z_table_error, lenD, h.1, h.2, g1, g2, e1, e2, e3, n3, nn0]
        · rw [decide_eq_true h, r1, r2]
          simp [sem_is_table, z_is_table, sem_table_error, z_table_error, lenD, h.1, h.2, g1, g2, e1, e2, n2, nn0]
      · rw [decide_eq_true h, r1]
        simp [sem_is_table, z_is_table, sem_table_error, z_table_error, lenD, h.1, h.2, g1, g2, e1, n1, nn0]
    · rw [decide_eq_false h]
      have : ¬ ((1 : Int) ≤ ys.length ∧ (ys.length : Int) ≤ 9) := fun z => h ⟨by omega, by omega⟩
      simp [sem_is_table, z_is_table, sem_table_error, z_table_error, lenD, isNone]
      exact fun a b => absurd ⟨a, b⟩ this
  | _ => simp [sem_is_table, z_is_table, sem_table_error, z_table_error, tblJ, isNone]
end DS
set_option maxHeartbeats 4000000
namespace DS
open PySem PySem.Spec PyProof.Rows L2
/-! ### the first error of a value that is no table -/
end DS
set_option maxHeartbeats 4000000
namespace DS
open PySem PySem.Spec PyProof.Rows L2
/-! ### a table is one -/
section
def lawJ (ys : List PyData) (i j : Nat) : Bool := if i = j then decide (sgY ys i j = 46 ∧ sgY ys j i = 46) else decide ((sgY ys i j = 43 ∧ sgY ys j i = 45) ∨ (sgY ys i j = 45 ∧ sgY ys j i = 43))
theorem law_tbl {ys : List PyData} : (((List.range ys.length).all fun i => (List.range ys.length).all fun j => signJ ys i j) && ((List.range ys.length).all fun i => (List.range (ys.length - (i + 1))).all fun c => !(sgY ys i (i + 1 + c) == sgY ys (i + 1 + c) i))) = ((List.range ys.length).all fun i => (List.range ys.length).all fun j => lawJ ys i j) := by
  rw [Bool.eq_iff_iff]
  simp only [Bool.and_eq_true, List.all_eq_true, List.mem_range]
  constructor
  · rintro ⟨h1, h2⟩ i hi j hj
    have a := h1 i hi j hj
    have b := h1 j hj i hi
    unfold lawJ
    unfold signJ at a b
    by_cases e : i = j
    · subst e
      simp at a ⊢
      exact a
    · have ne : sgY ys i j ≠ sgY ys j i := by
        by_cases lt : i < j
        · have := h2 i hi (j - (i + 1)) (by omega)
          rw [show i + 1 + (j - (i + 1)) = j by omega] at this
          simpa using this
        · have := h2 j hj (i - (j + 1)) (by omega)
          rw [show j + 1 + (i - (j + 1)) = i by omega] at this
          have := (by simpa using this : ¬ sgY ys j i = sgY ys i j)
          exact fun e => this e.symm
      rw [if_neg e] at a ⊢
      rw [if_neg (fun h => e h.symm)] at b
      have a := of_decide_eq_true a
      have b := of_decide_eq_true b
      refine decide_eq_true ?_
      omega
  · intro h
    refine ⟨fun i hi j hj => ?_, fun i hi c hc => ?_⟩
    · have a := h i hi j hj
      unfold lawJ at a
      unfold signJ
      by_cases e : i = j
      · rw [if_pos e] at a ⊢
        exact decide_eq_true (of_decide_eq_true a).1
      · rw [if_neg e] at a ⊢
        have a := of_decide_eq_true a
        refine decide_eq_true ?_
        omega
    · have a := h i hi (i + 1 + c) (by omega)
      unfold lawJ at a
      rw [if_neg (by omega)] at a
      have a := of_decide_eq_true a
      simp
      omega
end
theorem sgY_tabE {n : Nat} {b : Nat → Nat → Bool} {ys : List PyData} (e : ys = (List.range n).map fun i => .str (rowS n b i)) {i j : Nat} (hi : i < n) (hj : j < n) : sgY ys i j = sgn b i j := by
  subst e
  unfold sgY
  rw [List.getD_eq_getElem?_getD, List.getElem?_map, List.getElem?_range hi]
  show (((List.range n).map (sgn b i)).toArray.toList).getD j 0 = _
  rw [List.getD_eq_getElem?_getD, List.getElem?_map, List.getElem?_range hj]
  rfl
theorem tblJ_tab {n : Nat} {b : Nat → Nat → Bool} (t : Tour n b) : tblJ (tabD n b) = true := by
  obtain ⟨ys, e⟩ : ∃ ys : List PyData, ys = (List.range n).map fun i => .str (rowS n b i) := ⟨_, rfl⟩
  have l : ys.length = n := by rw [e]; simp
  show tblJ (.tuple ((List.range n).map fun i => .str (rowS n b i))) = true
  rw [← e, tblJ_tup, law_tbl, l]
  have t1 := t.one
  have t9 := t.nine
  have r : ys.all (rowJ n) = true := List.all_eq_true.mpr fun y hy => by
    rw [e] at hy
    obtain ⟨i, hi, rfl⟩ := List.mem_map.mp hy
    simp [rowJ, rowS, Str.length]
  rw [r, decide_eq_true ⟨t1, t9⟩, Bool.true_and, Bool.true_and]
  refine List.all_eq_true.mpr fun i hi => List.all_eq_true.mpr fun j hj => ?_
  have hi := List.mem_range.mp hi
  have hj := List.mem_range.mp hj
  unfold lawJ
  rw [sgY_tabE e hi hj, sgY_tabE e hj hi]
  unfold sgn
  by_cases h : i = j
  · subst h
    simp
  · rw [if_neg h, if_neg h, if_neg (Ne.symm h)]
    have an := t.anti i j hi hj h
    refine decide_eq_true ?_
    rw [an]
    cases b j i <;> simp
theorem is_tab {n : Nat} {b : Nat → Nat → Bool} (t : Tour n b) : sem_is_table [tabD n b] = some (.bool true) := by
  rw [is_table_any (tabD n b) fun ys e => ?_, tblJ_tab t]
  have e : ys = (List.range n).map fun i => .str (rowS n b i) := (PyData.tuple.inj e).symm
  have t9 := t.nine
  intro x hx
  rw [e] at hx
  obtain ⟨i, hi, e2⟩ := List.mem_map.mp hx
  cases e2
  show (rowS n b i).length < 1000000
  simp [rowS, Str.length]
  omega
end DS
set_option maxHeartbeats 4000000
namespace DS
open PySem PySem.Spec PyProof.Rows L2
/-! ### chains of any value -/
section
variable {n : Nat} {b : Nat → Nat → Bool} {xs : List Nat} {i : Nat}
@[simp] theorem e_sliceN {lo hi : Option Int} : sliceD (tupN xs) lo hi = some (.tuple (cutD (xs.map ni) lo hi)) := rfl
end
end DS
set_option maxHeartbeats 4000000
namespace DS
open PySem PySem.Spec PyProof.Rows L2
/-! ### orders of any value -/
section
variable {n : Nat} {b : Nat → Nat → Bool} {xs : List Nat} {i : Nat} {ρ : Dn}
@[simp] theorem x_raise0 {c : Str} : sRaise0 c ρ = some (.error (⟨c, none⟩, ρ)) := rfl
end
end DS
set_option maxHeartbeats 4000000
namespace DS
open PySem PySem.Spec PyProof.Rows L2
/-! ### texts, split and joined -/
/-- a number's text -/
def nm (i : Nat) : Str := Str.ofString (toString (i : Int))
@[simp] theorem e_repL {g : Dn → Option (List PyData)} {f : DF} {ρ : Dn} : repL g f ρ = (g ρ).bind fun ds => (f ρ).bind fun e => (toI e).bind fun k => if okR k && decide (ds.length * k.toNat < 1000000) && decide (ds.length < 1000000) then some (List.replicate k.toNat ds).flatten else none := rfl
end DS
namespace DS
open PySem PySem.Spec PyProof.Rows L2
/-! ### a.join(b) where the parts draw; a.replace behind other writings -/
section
variable {X : Cx} {S : Fr} {a b e : Expr} {Ta Tb : TXP} {es : List Expr} {te : TE} {ta : TA} {pos : Pos} {f fa fb : DF} {g : Dn → Option (List PyData)}
/-! a written text first: behind it a token is out -/
/-! a text of some signs, repeated -/
/-! a new list of one's own, joined of two that draw -/
end
end DS
set_option maxHeartbeats 4000000
namespace DS
open PySem PySem.Spec PyProof.Rows L2
/-! ### the texts of tables and of numbers; texts split and joined again -/
theorem av_tab {m : Nat} {b : Nat → Nat → Bool} (h9 : m ≤ 9) : AV 0 1 90 (tabD m b) := by
  refine (AV.all (c := 0) (k := 0) (B := 9) fun d hd => ?_).up (Nat.le_refl _) (Nat.le_refl _) ?_
  · obtain ⟨i, _, rfl⟩ := List.mem_map.mp hd
    refine av_str.mpr ⟨fun q hq => ?_, ?_⟩
    · unfold rowS at hq
      rw [List.toList_toArray] at hq
      obtain ⟨j, _, rfl⟩ := List.mem_map.mp hq
      unfold sgn
      split
      · decide
      · split <;> decide
    · unfold rowS
      simp
      exact h9
  · simp
    omega
section
variable {n : Nat} {b : Nat → Nat → Bool}
end
section
end
section
variable {n : Nat} {b : Nat → Nat → Bool}
end
section
variable {ρ : Dn} {n : Nat} {Q : PyData → Dn → Nat → Prop} {Ta Tb : TXP}
end
section
variable {ρ : Dn} {n : Nat} {DD : EnD} {U : TD}
end
end DS
set_option maxHeartbeats 4000000
namespace DS
open PySem PySem.Spec PyProof.Rows L2
theorem rng_atW {n i : Nat} {x : PyData} (h : (rngD 0 n)[i]? = some x) : i < n ∧ x = ni i := by
  unfold rngD at h
  rw [List.getElem?_map] at h
  cases e : (List.range n)[i]? with
  | none => rw [e] at h; cases h
  | some y =>
    rw [e] at h
    have l := (List.getElem?_eq_some_iff.mp e).1
    rw [List.length_range] at l
    rw [List.getElem?_range l] at e
    cases e
    cases h
    exact ⟨l, by simp⟩
theorem gNe_same {x : Str} : gNe (.str x) (.str x) = some (.bool false) := by simp
theorem tup2_eq {fa fb : DF} {ρ : Dn} {x y : PyData} (h1 : fa ρ = some x) (h2 : fb ρ = some y) : tupF (consA fa (consA fb nilA)) ρ = some (.tuple [x, y]) := by
  simp [tupF, consA, nilA, h1, h2, limA, lim]
/-! ### what is seen of a bench -/
theorem tab_err {n : Nat} {b : Nat → Nat → Bool} (t : Tour n b) : ∃ e, sem_table_error [tabD n b] = some e ∧ isNone e = true := by
  have h := is_tab t
  cases e : sem_table_error [tabD n b] with
  | none => simp [sem_is_table, z_is_table, e] at h
  | some x =>
    refine ⟨x, rfl, ?_⟩
    simpa [sem_is_table, z_is_table, e] using h
def textS (m n : Nat) : Str := (Str.ofString (toString (m : Int)) ++ Str.ofString " alternatives, ") ++ Str.ofString (toString (n : Int)) ++ Str.ofString " edits"
theorem nat_log {n : Nat} (h : n ≤ 1000000) : ((n : Nat) : Int).natAbs.log2 < 1920 := log_ok (by
  show n < 10 ^ 40
  have : (1000000 : Nat) < 10 ^ 40 := by decide
  omega)
theorem natW_eq {n : Nat} (h : n ≤ 1000000) : natW n = some (Str.ofString (toString (n : Int))) := if_pos (nat_log h)
theorem nat_len {n : Nat} (h : n ≤ 1000000) : (Str.ofString (toString (n : Int))).length < 100 := by
  have := (av_num (c := 0) (k := 0) (i := (n : Int)) (by decide) (by
    show n ≤ _
    have : (1000000 : Nat) < 10 ^ 29 := by decide
    omega)).bk
  simp only [PyData.bulk] at this
  have this : (Str.ofString (toString (n : Int))).length ≤ 31 := this
  omega
theorem at_snoc (xs : List PyData) (d : PyData) : atI (xs ++ [d]) (-1) = some d := by
  have e : ixN (xs ++ [d]).length (-1) = some xs.length := by
    rw [List.length_append, List.length_singleton]
    unfold ixN
    simp
    omega
  unfold atI
  rw [e, Option.bind_some, List.getElem?_append_right (Nat.le_refl _), Nat.sub_self]
  rfl
theorem last_snoc {sts : List PyData} {t : PyData} : lastD (sts ++ [t]) = some t := at_snoc sts t
theorem g_str_tab {sts eds : List PyData} {k : PyData} {n : Nat} {b : Nat → Nat → Bool} (h : lastD sts = some (tabD n b)) (hn : n ≤ 1000000) (he : eds.length ≤ 1000000) : g_str sts eds k = some (.str (textS n eds.length)) := by
  unfold g_str
  rw [h, Option.bind_some, e_len_tab, Option.bind_some]
  show (if 0 ≤ (n : Int) then (textB (n : Int).toNat eds.length).map PyData.str else none) = _
  rw [if_pos (by omega)]
  show (textB n eds.length).map PyData.str = _
  unfold textB
  rw [natW_eq hn, Option.bind_some, natW_eq he, Option.bind_some, if_pos ⟨nat_len hn, nat_len he⟩]
  rfl
theorem seen_tab {sts eds : List PyData} {k : PyData} {n : Nat} {b : Nat → Nat → Bool} (h : lastD sts = some (tabD n b)) (hn : n ≤ 1000000) (he : eds.length ≤ 1000000) : seenD sts eds k = some (.tuple [tabD n b, .tuple eds, ni eds.length, .str (textS n eds.length), ni eds.length, ni n]) := by
  unfold seenD
  rw [g_str_tab h hn he, h]
  simp
theorem law_text_eq {n m : Nat} {b : Nat → Nat → Bool} (hn : n ≤ 1000000) (hm : m ≤ 1000000) : sem__law_text [tabD n b, ni m] = some (.str (textS n m)) := by
  have l1 : (Str.ofString " alternatives, ").length = 15 := by decide +kernel
  have l2 : (Str.ofString " edits").length = 6 := by decide +kernel
  have n1 := nat_len hn
  have n2 := nat_len hm
  have s1 : ∀ n : Nat, n ≤ 1000000 → strD [ni n] = some (.str (Str.ofString (toString (n : Int)))) := fun n h => if_pos (by
    show n < 10 ^ 40
    have : (1000000 : Nat) < 10 ^ 40 := by decide
    omega)
  simp [sem__law_text, z__law_text, s1 _ hn, s1 _ hm]
  have n1 : (Str.ofString (n : Int).repr).length < 100 := n1
  have n2 : (Str.ofString (m : Int).repr).length < 100 := n2
  refine ⟨by omega, ?_, ?_, rfl⟩
  · rw [str_len]
    omega
  · rw [str_len, str_len]
    omega
theorem due_seen_tab {n : Nat} {b : Nat → Nat → Bool} {eds : List PyData} (hn : n ≤ 1000000) (he : eds.length ≤ 1000000) : sem__law_due_seen [tabD n b, .tuple eds] = some (.tuple [tabD n b, .tuple eds, ni eds.length, .str (textS n eds.length), ni eds.length, ni n]) := by
  simp [sem__law_due_seen, z__law_due_seen, law_text_eq hn he]
theorem equal_same {d : PyData} {k B : Nat} (h : AV 0 k B d) (hk : k ≤ 40) (hB : B ≤ 15000) : sem__law_equal [d, d] = some (.bool true) := by
  have := (h.shw (by decide)).repr hk hB
  simp [sem__law_equal, z__law_equal, this]
theorem av_textS {n m : Nat} (hn : n ≤ 1000000) (hm : m ≤ 1000000) : AV 0 0 100 (.str (textS n m)) := by
  have a : ∀ n : Nat, n ≤ 1000000 → AV 0 0 31 (.str (Str.ofString (toString (n : Int)))) := fun n h => av_num (by decide) (by
    show n ≤ _
    have : (1000000 : Nat) < 10 ^ 29 := by decide
    omega)
  exact (av_cat (av_cat (av_cat (a n hn) (av_text " alternatives, " (B := 15) (by decide))) (a m hm)) (av_text " edits" (B := 6) (by decide))).up (Nat.le_refl _) (Nat.le_refl _) (by decide)
theorem av_ed {n most : Nat} (h9 : n ≤ 9) : ∀ {e : Ed}, e.okS n most → AV 0 2 40 e.d
  | .turn i j, ⟨h1, h2⟩ => ((av_text "turn" (B := 4) (by decide)).consT ((av_nat (c := 0) (k := 1) (B := 0) (n := i) (by omega)).consT ((av_nat (c := 0) (k := 1) (B := 0) (n := j) (by omega)).consT (AV.nil (B := 0))))).up (Nat.le_refl _) (Nat.le_refl _) (by decide)
  | .add M, ⟨h1, _⟩ => ((av_text "add" (B := 3) (by decide)).consT ((av_nats (c := 0) (k := 0) (m := 9) (n := 9) (M := M) (fun x hx => by
      have := set_low h1 x hx
      omega) (by decide) (by
      have := set_len h1
      omega)).consT (AV.nil (B := 0)))).up (Nat.le_refl _) (Nat.le_refl _) (by decide)
  | .rem i, h1 => ((av_text "remove" (B := 6) (by decide)).consT ((av_nat (c := 0) (k := 1) (B := 0) (n := i) (by
      have h1 : i < n := h1
      omega)).consT (AV.nil (B := 0)))).up (Nat.le_refl _) (Nat.le_refl _) (by decide)
theorem okS_of {n most : Nat} : ∀ {e : Ed}, e.okV n → (∀ M, e = .add M → n < most) → e.okS n most
  | .turn i j, ⟨h1, h2, _⟩, _ => ⟨h1, h2⟩
  | .add M, ⟨h1, _⟩, h => ⟨h1, h M rfl⟩
  | .rem i, ⟨h1, _⟩, _ => h1
theorem av_eds {eds : List PyData} (h : ∀ d ∈ eds, AV 0 2 40 d) : AV 0 3 (41 * eds.length) (.tuple eds) := by
  refine AV.tup.mpr ⟨fun y hy => ⟨(h y hy).ok, (h y hy).dp⟩, ?_⟩
  induction eds with
  | nil => exact Nat.zero_le _
  | cons x l ih =>
    have h1 := (h x List.mem_cons_self).bk
    have h2 := ih fun d hd => h d (List.mem_cons_of_mem _ hd)
    simp only [bsum, List.length_cons]
    omega
theorem av_seen {n : Nat} {b : Nat → Nat → Bool} {eds : List PyData} (h9 : n ≤ 9) (h : ∀ d ∈ eds, AV 0 2 40 d) (l : eds.length ≤ 60) : AV 0 4 2700 (.tuple [tabD n b, .tuple eds, ni eds.length, .str (textS n eds.length), ni eds.length, ni n]) := by
  have t : AV 0 3 90 (tabD n b) := (av_tab h9).up (Nat.le_refl _) (by decide) (Nat.le_refl _)
  have s : AV 0 3 100 (.str (textS n eds.length)) := (av_textS (by omega) (by omega)).up (Nat.le_refl _) (by decide) (Nat.le_refl _)
  have i : ∀ n : Nat, n ≤ 1000000 → AV 0 3 0 (ni n) := fun n h => av_nat h
  refine (t.consT ((av_eds h).consT ((i _ (by omega)).consT (s.consT ((i _ (by omega)).consT ((i n (by omega)).consT (AV.nil (B := 0)))))))).up (Nat.le_refl _) (Nat.le_refl _) (by omega)
end DS
set_option maxHeartbeats 4000000
namespace DS
open PySem PySem.Spec PyProof.Rows L2
section
variable {P : Program} {w : World} {K : PySem.W.Frag} {mg : Str → Option Value} {base : Heap} {a : Ad}
theorem ok_law (T : Tx K mg a) : FnG P w K mg base CX0 10 a.f_law a.d_law ["_law_script"] (spLaw K) := by
  refine fn_lawW (k := 9) T.F_law sc_law fun cdv A outer s H E S ok hgd hr => ?_
  have nd := sc_law.nd
  have tk : ∀ {X : Cx}, Takes X (fun _ _ _ _ => False) := takes_no
  refine ⟨_, (pws_cons (pws_for ok PassesOwn.never rfl (pwi_pure ok (pif_range1 (by rfl) T.z_range pf_int)) (pgf_name (i := 1) nd rfl (by first | exact Or.inl rfl | exact Or.inr rfl)) (sets_name 1)
      (pws_cons (pws_set (i := 2) nd rfl (by first | exact Or.inl rfl | exact Or.inr rfl) (pw_callW tk (m := 2) mono_c_stream ((okW__law_stream T).up (by first | decide | omega)) hgd hr (by rfl) T.g__law_stream T.F__law_stream.kp T.b__law_stream .nil dfl_nil (pwa_cons (pw_pf ok (pf_v 0)) (pwa_cons (pw_pf ok (pf_v 1)) pwa_nil))))
      (pws_cons (pws_set (i := 3) nd rfl (by first | exact Or.inl rfl | exact Or.inr rfl) (pw_draw (m := 1) mono__law_table ((ok__law_table T).up (by first | decide | omega)) hgd hr (by rfl) T.g__law_table T.F__law_table.kp T.b__law_table (pwa_cons (pw_name (i := 2) ok rfl (by first | exact Or.inl rfl | exact Or.inr (Or.inl rfl) | exact Or.inr (Or.inr rfl))) (pwa_cons (pw_pf ok pf_int) pwa_nil))))
      (pws_cons (pws_par (i := 4) (j := 5) rfl nd rfl rfl (by decide) rfl rfl (pwa_cons (pw_make tk (detC_mono _) T.mk_Bench (okW_Bench___init__ T) hgd (hr.mono (by decide)) (by rfl) T.g_Bench T.b_Bench___init__ (pwa_cons (pw_pf ok (pf_v 3)) pwa_nil)) (pwa_cons (pw_pf ok (pf_tup pfa_nil)) pwa_nil)) (by rfl))
      (pws_cons (pws_if (pwt_not (pwt_val (pw_callF ok (E := fun _ _ _ => False) ((ok__law_equal T).up (by first | decide | omega)) hgd hr (by rfl) T.g__law_equal T.F__law_equal.kp T.b__law_equal (pwa_cons (pw_callW tk (m := 1) (detC_mono _) ((okW__law_seen T).up (by first | decide | omega)) hgd hr (by rfl) T.g__law_seen T.F__law_seen.kp T.b__law_seen .nil dfl_nil (pwa_cons (pw_name (i := 4) ok rfl (by first | exact Or.inl rfl | exact Or.inr (Or.inl rfl) | exact Or.inr (Or.inr rfl))) pwa_nil)) (pwa_cons (pw_pf ok (pf_call ((ok__law_due_seen T).up (by first | decide | omega)) hgd hr (by rfl) T.g__law_due_seen T.F__law_due_seen.kp T.b__law_due_seen pass0 (pfa_cons (pf_v 3) (pfa_cons (pf_v 5) pfa_nil)))) pwa_nil))))) (pws_one (pws_ret (pw_pf ok pf_bl))) pws_nil)
      (pws_one (pws_for ok PassesOwn.never rfl (pwi_range (by rfl) T.z_range (pw_op ok of_addA (pw_pf ok pf_int) (pw_draw (m := 1) mono__law_take ((ok__law_take T).up (by first | decide | omega)) hgd hr (by rfl) T.g__law_take T.F__law_take.kp T.b__law_take (pwa_cons (pw_name (i := 2) ok rfl (by first | exact Or.inl rfl | exact Or.inr (Or.inl rfl) | exact Or.inr (Or.inr rfl))) (pwa_cons (pw_pf ok pf_int) pwa_nil))))) (pgf_name (i := 6) nd rfl (by first | exact Or.inl rfl | exact Or.inr rfl)) (sets_name 6)
      (pws_cons (pws_set (i := 7) nd rfl (by first | exact Or.inl rfl | exact Or.inr rfl) (let ⟨_, bv, bb⟩ := T.b1__law_valid_edit; pw_drawD (m := 2) mono__law_valid_edit ((ok__law_valid_edit T).up (by first | decide | omega)) hgd hr (by rfl) T.g__law_valid_edit T.F__law_valid_edit.kp bb bv dfl_int (pwa_cons (pw_name (i := 2) ok rfl (by first | exact Or.inl rfl | exact Or.inr (Or.inl rfl) | exact Or.inr (Or.inr rfl))) (pwa_cons (pw_pf ok (pf_v 3)) pwa_nil))))
      (pws_cons (pws_set (i := 8) nd rfl (by first | exact Or.inl rfl | exact Or.inr rfl) (pw_pf ok (pf_callB (cf_repr hgd hr.units) (by rfl) T.z_repr (by decide +kernel) (pfa_cons (pf_tup (pfa_cons (pf_v 7) (pfa_cons (pf_v 3) pfa_nil))) pfa_nil))))
      (pws_cons (pws_set (i := 9) nd rfl (by first | exact Or.inl rfl | exact Or.inr rfl) (pw_callW tk (m := 2) (detC_mono _) ((okW__law_do T).up (by first | decide | omega)) hgd hr (by rfl) T.g__law_do T.F__law_do.kp T.b__law_do .nil dfl_nil (pwa_cons (pw_name (i := 4) ok rfl (by first | exact Or.inl rfl | exact Or.inr (Or.inl rfl) | exact Or.inr (Or.inr rfl))) (pwa_cons (pw_pf ok (pf_v 7)) pwa_nil))))
      (pws_cons (pws_if (pwt_pf ok (pft_cmp (of_ne hr.units) (pf_callB (cf_repr hgd hr.units) (by rfl) T.z_repr (by decide +kernel) (pfa_cons (pf_tup (pfa_cons (pf_v 7) (pfa_cons (pf_v 3) pfa_nil))) pfa_nil)) (pf_v 8) (nomark _))) (pws_one (pws_ret (pw_pf ok pf_bl))) pws_nil)
      (pws_cons (pws_par (i := 3) (j := 5) rfl nd rfl rfl (by decide) rfl rfl (pwa_cons (pw_pf ok (pf_ix (pf_call ((ok__law_due T).up (by first | decide | omega)) hgd hr (by rfl) T.g__law_due T.F__law_due.kp T.b__law_due pass0 (pfa_cons (pf_v 3) (pfa_cons (pf_v 7) pfa_nil))) pf_int)) (pwa_cons (pw_pf ok (pf_op of_addA (pf_v 5) (pf_tup (pfa_cons (pf_v 7) pfa_nil)))) pwa_nil)) (by rfl))
      (pws_cons (pws_if (pwt_not (pwt_val (pw_callF ok (E := fun _ _ _ => False) ((ok__law_equal T).up (by first | decide | omega)) hgd hr (by rfl) T.g__law_equal T.F__law_equal.kp T.b__law_equal (pwa_cons (pw_tup ok (pwa_cons (pw_pf ok (pf_v 9)) (pwa_cons (pw_callW tk (m := 1) (detC_mono _) ((okW__law_seen T).up (by first | decide | omega)) hgd hr (by rfl) T.g__law_seen T.F__law_seen.kp T.b__law_seen .nil dfl_nil (pwa_cons (pw_name (i := 4) ok rfl (by first | exact Or.inl rfl | exact Or.inr (Or.inl rfl) | exact Or.inr (Or.inr rfl))) pwa_nil)) pwa_nil))) (pwa_cons (pw_pf ok (pf_tup (pfa_cons (pf_callB cf_len (by rfl) T.z_len (by decide +kernel) (pfa_cons (pf_v 5) pfa_nil)) (pfa_cons (pf_call ((ok__law_due_seen T).up (by first | decide | omega)) hgd hr (by rfl) T.g__law_due_seen T.F__law_due_seen.kp T.b__law_due_seen pass0 (pfa_cons (pf_v 3) (pfa_cons (pf_v 5) pfa_nil))) pfa_nil)))) pwa_nil))))) (pws_one (pws_ret (pw_pf ok pf_bl))) pws_nil)
      (pws_one (pws_if (pwt_not (pwt_val (pw_callF ok (E := fun _ _ _ => False) ((ok__law_equal T).up (by first | decide | omega)) hgd hr (by rfl) T.g__law_equal T.F__law_equal.kp T.b__law_equal (pwa_cons (pw_prop (detC_mono _) T.cl_Bench T.P_Bench_kind (okW_Bench_kind T) hgd (hr.mono (by decide)) T.b_Bench_kind (pw_name (i := 4) ok rfl (by first | exact Or.inl rfl | exact Or.inr (Or.inl rfl) | exact Or.inr (Or.inr rfl)))) (pwa_cons (pw_pf ok pf_str) pwa_nil))))) (pws_one (pws_ret (pw_pf ok pf_bl))) pws_nil)))))))))))))))
      (pws_one (pws_ret (pw_pf ok pf_bl)))), fun ns hn => ?_⟩
  refine ⟨_, rfl, fun i ρ' w' => ∃ e1 e2 e3 e4 e5 e6 e7 e8 e9, ρ' = [.dat (.list (ns.map .int)), e1, e2, e3, e4, e5, e6, e7, e8, e9], ⟨_, _, _, _, _, _, _, _, _, rfl⟩, fun i x ρ' w' hx inv => ?_, fun ρ' w' inv => ?_⟩
  · obtain ⟨e1, e2, e3, e4, e5, e6, e7, e8, e9, rfl⟩ := inv
    refine ⟨_, rfl, ?_⟩
    obtain ⟨hi, rfl⟩ := rng_atW hx
    have hi : i < 3 := hi
    refine ⟨_, rfl, _, rfl, rfl, ns, i, rfl, hn, by omega, fun s hs => ?_⟩
    refine ⟨_, rfl, _, rfl, s, [_], 0, rfl, Wd.put_same, rfl, 9, rfl, by decide, by decide, by decide, fun m b n0 t hm hn0 => ?_⟩
    refine ⟨_, rfl, rfl, fun o ho => ?_⟩
    have so : s ≠ o := fun c => by
      rw [c, Wd.put_same] at ho
      cases ho
    obtain ⟨e0, te1, te2⟩ := tab_err t
    refine ⟨_, ⟨o, _, e0, rfl, Wd.put_same, te1, rfl⟩, ?_⟩
    rw [if_pos te2]
    refine ⟨rfl, _, rfl, _, _, rfl, ?_⟩
    have hl : lastD [tabD m b] = some (tabD m b) := last_snoc (sts := [])
    refine ⟨_, rfl, rfl, _, ⟨o, [tabD m b], [], .str "support", false, _, rfl, Wd.put_same, by decide, seen_tab hl (by omega) (by decide), rfl⟩, ?_⟩
    refine ⟨_, due_seen_tab (by omega) (by decide), [_, _], _, rfl, rfl, equal_same (av_seen (b := b) (eds := []) hm (fun d hd => nomatch hd) (by decide)) (by decide) (by decide), true, rfl, ifN (by decide) ?_⟩
    refine ⟨_, rfl, _, rfl, _, rfl, s, [_], n0, rfl, (Wd.put_ne so).trans ((Wd.put_ne so).trans Wd.put_same), rfl, 14, rfl, by decide, by decide, by omega, fun q hq1 hq2 => ?_⟩
    obtain ⟨j, rfl⟩ : ∃ j : Nat, q = (j : Int) := ⟨q.toNat, (Int.toNat_of_nonneg hq1).symm⟩
    refine ⟨_, _, _, rfl, rfl, rfl, _, rfl, ?_, fun k ρ' w' => ∃ m b sts eds n e6 e7 e8 e9, ρ' = [.dat (.list (ns.map .int)), .dat (ni i), .err s none none, .dat (tabD m b), .err o none none, .dat (.tuple eds), e6, e7, e8, e9] ∧ Tour m b ∧ w' s = some (.stm n) ∧ n ≤ 300 + 150 * k ∧ BnAt a.c_Bench w' o sts eds (.str "support") false ∧ lastD sts = some (tabD m b) ∧ eds.length = k ∧ sts.length = k + 1 ∧ ∀ d ∈ eds, AV 0 2 40 d, ?_, fun k x ρ' w' hx inv => ?_, fun ρ' w' inv => ?_⟩
    · show decide _ = true
      exact decide_eq_true ⟨by omega, by omega⟩
    · refine ⟨m, b, [_], [], n0 + 1, _, _, _, _, rfl, t, Wd.put_same, by omega, ?_, hl, rfl, rfl, fun d hd => nomatch hd⟩
      exact (Wd.put_ne (Ne.symm so)).trans Wd.put_same
    · obtain ⟨m, b, sts, eds, n, e6, e7, e8, e9, rfl, t, hs, hn, hb, hl, le, ls, av⟩ := inv
      obtain ⟨hk, rfl⟩ := rng_atW hx
      have hk : k < 14 := by omega
      refine ⟨_, rfl, ?_⟩
      refine ⟨_, rfl, _, rfl, s, [_], n, rfl, hs, rfl, m, 10, b, t, rfl, by decide, by decide, by omega, fun e n' okv hmo hn' => ?_⟩
      have h9 := t.nine
      have oks := okS_of okv hmo
      have ae := av_ed h9 oks
      have rp : reprD [.tuple [e.d, tabD m b]] = some (.str (PyData.tuple [e.d, tabD m b]).shown) := ((ae.consT (((av_tab h9).up (c' := 0) (k' := 2) (B' := 90) (Nat.le_refl _) (by decide) (Nat.le_refl _)).consT (AV.nil (B := 0)))).shw (by decide)).repr (by decide) (by decide)
      refine ⟨_, rp, ?_⟩
      have ft := edited_eq t okv
      have hb' : BnAt a.c_Bench (w'.put s (.stm n')) o sts eds (.str "support") false := hb.ne (Ne.symm so)
      have el : eds.length + 1 = (eds ++ [e.d]).length := by rw [List.length_append, List.length_singleton]
      have hb2 : BnAt a.c_Bench ((w'.put s (.stm n')).put o (.ins a.c_Bench (bnF (sts ++ [tabD (e.n' m) (e.b' m b)]) (eds ++ [e.d]) (.str "support") false))) o (sts ++ [tabD (e.n' m) (e.b' m b)]) (eds ++ [e.d]) (.str "support") false := BnAt.put
      have t2 := Ed.tour t okv
      have hl2 : lastD (sts ++ [tabD (e.n' m) (e.b' m b)]) = some (tabD (e.n' m) (e.b' m b)) := last_snoc
      have av2 : ∀ d ∈ eds ++ [e.d], AV 0 2 40 d := fun d hd => (List.mem_append.mp hd).elim (av d) fun h => by rw [List.mem_singleton.mp h]; exact ae
      have n9 := t2.nine
      refine ⟨_, rfl, _, rfl, rfl, (.ok (.d (ni (eds ++ [e.d]).length)), (w'.put s (.stm n')).put o (.ins a.c_Bench (bnF (sts ++ [tabD (e.n' m) (e.b' m b)]) (eds ++ [e.d]) (.str "support") false))), ⟨o, e.d, rfl, ?_, ⟨o, e.d, sts, eds, .str "support", false, rfl, hb', ?_⟩⟩, ?_⟩
      · cases e with
        | turn i j => exact .inl ⟨_, _, rfl⟩
        | add M => exact .inr (.inl ⟨_, rfl⟩)
        | rem i => exact .inr (.inr ⟨_, rfl⟩)
      · show editR _ _ _ _ _ _ _ _ _ _
        unfold editR
        rw [if_neg (by omega), el]
        exact ⟨by omega, _, _, hl, ft, rfl⟩
      refine ⟨_, ts_eq (b2_eq rp rfl gNe_same), ifN (by decide) ?_⟩
      obtain ⟨v, hv, hv2, _⟩ := due_eq t (most := 10) (by decide) oks
      have hv2 := hv2 okv
      subst hv2
      refine ⟨_, b2_eq hv rfl rfl, _, b2_eq (x := .tuple eds) rfl rfl (cat1 (by omega)), _, _, rfl, ?_⟩
      have avs := av_seen (b := e.b' m b) n9 av2 (by omega)
      refine ⟨_, rfl, _, rfl, rfl, _, ⟨o, _, eds ++ [e.d], .str "support", false, _, rfl, hb2, by omega, seen_tab hl2 (by omega) (by omega), rfl⟩, [_, _], rfl, (show 2 < 1000000 by decide), ?_⟩
      have ds := due_seen_tab (n := e.n' m) (b := e.b' m b) (eds := eds ++ [e.d]) (by omega) (by omega)
      refine ⟨_, tup2_eq rfl ds, [_, _], _, rfl, rfl, equal_same (((av_nat (c := 0) (k := 4) (B := 0) (n := (eds ++ [e.d]).length) (by omega)).consT (avs.consT (AV.nil (B := 0))))) (by decide) (by decide), true, rfl, ifN (by decide) ?_⟩
      refine ⟨_, rfl, o, _, rfl, hb2, _, ⟨o, _, _, _, _, _, rfl, hb2, rfl, rfl⟩, trivial, _, rfl, [_, _], _, rfl, rfl, equal_same (av_text "support" (B := 7) (by decide)) (k := 0) (by decide) (by decide), true, rfl, ifN (by decide) ?_⟩
      exact ⟨e.n' m, e.b' m b, _, eds ++ [e.d], n', _, _, _, _, rfl, t2, (Wd.put_ne so).trans Wd.put_same, by omega, hb2, hl2, by omega, by rw [List.length_append, ls]; rfl, av2⟩
    · obtain ⟨m, b, sts, eds, n, e6, e7, e8, e9, rfl, _⟩ := inv
      exact ⟨_, _, _, _, _, _, _, _, _, rfl⟩
  · exact ⟨_, rfl, rfl⟩
end
end DS
set_option maxHeartbeats 4000000
namespace DS
open PySem PySem.Spec PyProof.Rows L2
/-! ### what the top has left: methods, properties, defs with defaults -/
structure InMe (K : PySem.W.Frag) (C : Addr) (m qual : Str) (st : Stmt) (f : Addr) (fd : FuncData) : Prop where
  at_ : PySem.W.findIn K (.ref C) m = some (some (.ref f))
  is : PySem.W.isFn K (.ref f) = true
  fn : Fun K m qual st f fd
structure InPr (K : PySem.W.Frag) (C : Addr) (m qual : Str) (st : Stmt) (p f : Addr) (fd : FuncData) : Prop where
  pr : PropOf K C m p f
  fn : Fun K m qual st f fd
structure InF (K : PySem.W.Frag) (m qual : Str) (st : Stmt) (f : Addr) (fd : FuncData) : Prop where
  fn : Fun K m qual st f fd
section
variable {K : PySem.W.Frag} {C p T D : Addr} {m qual : Str} {st : Stmt} {f : Addr} {oc : Value} {od an : Option Addr} {osl : Array (Option Value)} {kV doc pm cdv ct : Value}
/-- a def with one default, a number -/
structure InDf (K : PySem.W.Frag) (x : Str) (st : Stmt) (i : Int) (f : Addr) (fd : FuncData) : Prop where
  ns : PySem.W.nsIn K mainGlobals x = some (some (.ref f))
  fn : FunD K x x (defArgs st) (defBody st) (defScope st) [V.int i] [] f fd
theorem binds_full {fd : FuncData} {ps : List Str} (h : ∃ ds, Vals (([V.int 0] : List V).drop 1) ds ∧ Binds K fd ps ds) : Binds K fd ps [] := by
  obtain ⟨ds, h1, h2⟩ := h
  cases ds with
  | nil => exact h2
  | cons x xs => cases h1
end
end DS
namespace DS
open PySem PySem.Spec PyProof.Rows L2
/-! ### a module's constant that is a tuple of texts -/
section
variable {X : Cx} {pos : Pos}
end
/-! ### in, among texts, of a value that may be a dict -/
section
variable {X : Cx}
end
end DS
set_option maxHeartbeats 4000000
namespace DS
open PySem PySem.Spec PyProof.Rows L2
theorem initX {K : PySem.W.Frag} {x qual : Str} {ps : Arguments} {bd : List Stmt} {sc : Scope} {f : Addr} {fd : FuncData} (F : FunD K x qual ps bd sc [] [] f fd) (h : nokB K f = true) :
    ∃ oc od osl doc pm an cdv ct, K.lookup f = some ⟨oc, od, .func (PySem.W.fnOf x qual ps bd sc .none .none doc pm an cdv ct), osl⟩ ∧ PySem.W.codeIn K cdv qual = true := by
  obtain ⟨oc, od, dV, kV, doc, pm, an, cdv, ct, osl, e, l, c, hd, _⟩ := F.ex
  rcases hd with ⟨_, e2⟩ | ⟨e2, _⟩
  · subst e2
    unfold nokB at h
    rw [l, e] at h
    have h : kV = .none := of_decide_eq_true h
    subst h
    exact ⟨oc, od, osl, doc, pm, an, cdv, ct, by rw [l, e], c⟩
  · exact absurd rfl e2
theorem in1X {K : PySem.W.Frag} {st : Stmt} {x qual : Str} {f : Addr} {fd : FuncData} {kws : List (Str × V)} (F : FunD K x qual (defArgs st) (defBody st) (defScope st) [] kws f fd) : Fun K x qual st f fd := He5.fun_of F
/-- the end of a law over a head by facts -/
theorem walk_topE {l : PySem.W.OpenLaw} {n k : Nat} {q : Program} {loose : List Str} {XP : (Str → Option Value) → Heap → Prop} {YP : World → Heap → Prop} {d : DefRec} {x : Str}
    (most : l.most = some n) (le : n ≤ sizeLine) (dflt : d.params.defaults = []) (room : Room k callerA)
    (F : ∀ (w : World) (mg : Str → Option Value) (fa : Addr) (h : Heap), YP w h → h.Ns mainGlobals mg → mg d.name = some (.ref fa) →
      ∃ (K : PySem.W.Frag) (fd : FuncData) (sp : Sp), K.In h ∧ (∀ (s : Shared) (u : Value), BindsTo s fd ⟨[u], []⟩ [(x, u)]) ∧
        (∀ (H : Hp) (a : Addr) (ns : List Int), ns.length ≤ n → Only H → SqL K H a (ns.map V.int) → sp [.ref a] H (fun v _ => v = .bl true) fun _ _ _ => False) ∧
        ∀ base : Heap, K.In base → base.Ns mainGlobals mg → FnG l.prog w K mg base CX0 k fa fd [x] sp) :
    PySem.W.WalkO q loose XP YP l.row.toRowW d [] (fun f vs => PySem.call f vs) := by
  refine Att.attach_call most dflt fun w s₀ s₁ mg mb fa o pm cd doc a vs ns G Y ho hd hcd hmg hobj hints hlen hg => ?_
  obtain ⟨K, fd, sp, KX, hb, hsp, hF⟩ := F w mg fa _ Y G.T.g hmg
  exact top_call KX G.T.g G.T.b G.T.builtins G.T.nolimit hg hobj hints (Nat.le_trans hlen le) room hF hb (fun H hO hS => hsp H a ns hlen hO hS) (fun _ _ _ h => h)
end DS
set_option maxHeartbeats 4000000
namespace DS
open PySem PySem.Spec PyProof.Rows L2
/-! ### what the top has left -/
structure In1 (K : PySem.W.Frag) (x : Str) (st : Stmt) (f : Addr) (fd : FuncData) : Prop where
  ns : PySem.W.nsIn K mainGlobals x = some (some (.ref f))
  fn : Fun K x x st f fd
theorem in1 {K : PySem.W.Frag} {x : Str} {st : Stmt} {f : Addr} {oc : Value} {od an : Option Addr} {osl : Array (Option Value)} {kV doc pm cdv ct : Value} (a : PySem.W.nsIn K mainGlobals x = some (some (.ref f)))
    (l : K.lookup f = some ⟨oc, od, .func (PySem.W.fnOf x x (defArgs st) (defBody st) (defScope st) .none kV doc pm an cdv ct), osl⟩) (c : PySem.W.codeIn K cdv x = true) (k : PySem.W.keepIn K (.ref f) = true) :
    In1 K x st f (PySem.W.fnOf x x (defArgs st) (defBody st) (defScope st) .none kV doc pm an cdv ct) := ⟨a, fun_mk l c k⟩
theorem all_mk {l : PySem.W.OpenLaw} {w : World} {K : PySem.W.Frag} {h : Heap} {mg : Str → Option Value} {fa : Addr} {f_is_integer f_is_alternative f_is_set f_require_alternative f_table_error f_row_error f_sign_error f_pair_error f_outsiders f_pick_table f_turn_duel f_turn_sign f_edited_table f_with_another f_without_one f__law_stream f__law_take f__law_from f__law_equal f__law_table f__law_wins f__law_is_set f__law_turned f__law_grown f__law_shrunk f__law_due f__law_do f__law_text f__law_seen f__law_due_seen f_law : Addr} {d_is_integer d_is_alternative d_is_set d_require_alternative d_table_error d_row_error d_sign_error d_pair_error d_outsiders d_pick_table d_turn_duel d_turn_sign d_edited_table d_with_another d_without_one d__law_stream d__law_take d__law_from d__law_equal d__law_table d__law_wins d__law_is_set d__law_turned d__law_grown d__law_shrunk d__law_due d__law_do d__law_text d__law_seen d__law_due_seen d_law : FuncData} {t_MAX_SIZE t_EDITS t_BATCH : Tok} {c_BadTable c_Busy c_LastOne c_NoAlternative c_NoSet c_NoVersion c_SameAlternative c_TooLarge c_TooManyEdits : Addr} {i_BadTable : Addr} {oc_BadTable do_BadTable pm_BadTable cd_BadTable ct_BadTable : Value} {od_BadTable an_BadTable : Option Addr} {sl_BadTable : Array (Option Value)} {i_NoAlternative : Addr} {oc_NoAlternative do_NoAlternative pm_NoAlternative cd_NoAlternative ct_NoAlternative : Value} {od_NoAlternative an_NoAlternative : Option Addr} {sl_NoAlternative : Array (Option Value)} {i_NoSet : Addr} {oc_NoSet do_NoSet pm_NoSet cd_NoSet ct_NoSet : Value} {od_NoSet an_NoSet : Option Addr} {sl_NoSet : Array (Option Value)} {i_NoVersion : Addr} {oc_NoVersion do_NoVersion pm_NoVersion cd_NoVersion ct_NoVersion : Value} {od_NoVersion an_NoVersion : Option Addr} {sl_NoVersion : Array (Option Value)} {i_SameAlternative : Addr} {oc_SameAlternative do_SameAlternative pm_SameAlternative cd_SameAlternative ct_SameAlternative : Value} {od_SameAlternative an_SameAlternative : Option Addr} {sl_SameAlternative : Array (Option Value)} {i_TooLarge : Addr} {oc_TooLarge do_TooLarge pm_TooLarge cd_TooLarge ct_TooLarge : Value} {od_TooLarge an_TooLarge : Option Addr} {sl_TooLarge : Array (Option Value)} {f_Bench___init__ : Addr} {d_Bench___init__ : FuncData} {f_Bench_version : Addr} {d_Bench_version : FuncData} {p_Bench_version : Addr} {f_Bench_size : Addr} {d_Bench_size : FuncData} {p_Bench_size : Addr} {f_Bench_kind : Addr} {d_Bench_kind : FuncData} {p_Bench_kind : Addr} {f_Bench_turn : Addr} {d_Bench_turn : FuncData} {f_Bench_add : Addr} {d_Bench_add : FuncData} {f_Bench_remove : Addr} {d_Bench_remove : FuncData} {f_Bench_edit_once : Addr} {d_Bench_edit_once : FuncData} {f_Bench_do_edit : Addr} {d_Bench_do_edit : FuncData} {f_Bench_require_fit : Addr} {d_Bench_require_fit : FuncData} {f_Bench_require_free : Addr} {d_Bench_require_free : FuncData} {f_Bench_state_at : Addr} {d_Bench_state_at : FuncData} {f_Bench_table : Addr} {d_Bench_table : FuncData} {f_Bench_edits : Addr} {d_Bench_edits : FuncData} {f_Bench___len__ : Addr} {d_Bench___len__ : FuncData} {f_Bench___str__ : Addr} {d_Bench___str__ : FuncData} {c_Bench : Addr} {f__law_some_edit : Addr} {d__law_some_edit : FuncData} {f__law_valid_edit : Addr} {d__law_valid_edit : FuncData} (X : K.In h) (G : h.Ns mainGlobals mg) (hfa : mg "law" = some (.ref fa))
    (i_is_integer : In1 K "is_integer" s_is_integer f_is_integer d_is_integer)
    (i_is_alternative : In1 K "is_alternative" s_is_alternative f_is_alternative d_is_alternative)
    (i_is_set : In1 K "is_set" s_is_set f_is_set d_is_set)
    (i_require_alternative : In1 K "require_alternative" s_require_alternative f_require_alternative d_require_alternative)
    (i_table_error : In1 K "table_error" s_table_error f_table_error d_table_error)
    (i_row_error : In1 K "row_error" s_row_error f_row_error d_row_error)
    (i_sign_error : In1 K "sign_error" s_sign_error f_sign_error d_sign_error)
    (i_pair_error : In1 K "pair_error" s_pair_error f_pair_error d_pair_error)
    (i_outsiders : In1 K "outsiders" s_outsiders f_outsiders d_outsiders)
    (i_pick_table : In1 K "pick_table" s_pick_table f_pick_table d_pick_table)
    (i_turn_duel : In1 K "turn_duel" s_turn_duel f_turn_duel d_turn_duel)
    (i_turn_sign : In1 K "turn_sign" s_turn_sign f_turn_sign d_turn_sign)
    (i_edited_table : In1 K "edited_table" s_edited_table f_edited_table d_edited_table)
    (i_with_another : In1 K "with_another" s_with_another f_with_another d_with_another)
    (i_without_one : In1 K "without_one" s_without_one f_without_one d_without_one)
    (i__law_stream : In1 K "_law_stream" s__law_stream f__law_stream d__law_stream)
    (i__law_take : In1 K "_law_take" s__law_take f__law_take d__law_take)
    (i__law_from : In1 K "_law_from" s__law_from f__law_from d__law_from)
    (i__law_equal : In1 K "_law_equal" s__law_equal f__law_equal d__law_equal)
    (i__law_table : In1 K "_law_table" s__law_table f__law_table d__law_table)
    (i__law_wins : In1 K "_law_wins" s__law_wins f__law_wins d__law_wins)
    (i__law_is_set : In1 K "_law_is_set" s__law_is_set f__law_is_set d__law_is_set)
    (i__law_turned : In1 K "_law_turned" s__law_turned f__law_turned d__law_turned)
    (i__law_grown : In1 K "_law_grown" s__law_grown f__law_grown d__law_grown)
    (i__law_shrunk : In1 K "_law_shrunk" s__law_shrunk f__law_shrunk d__law_shrunk)
    (i__law_due : In1 K "_law_due" s__law_due f__law_due d__law_due)
    (i__law_do : In1 K "_law_do" s__law_do f__law_do d__law_do)
    (i__law_text : In1 K "_law_text" s__law_text f__law_text d__law_text)
    (i__law_seen : In1 K "_law_seen" s__law_seen f__law_seen d__law_seen)
    (i__law_due_seen : In1 K "_law_due_seen" s__law_due_seen f__law_due_seen d__law_due_seen)
    (i_law : In1 K "law" s_law f_law d_law)
    (y_MAX_SIZE : PySem.W.nsIn K mainGlobals "MAX_SIZE" = some (some (.int (9) t_MAX_SIZE)))
    (y_EDITS : PySem.W.nsIn K mainGlobals "EDITS" = some (some (.int (60) t_EDITS)))
    (y_BATCH : PySem.W.nsIn K mainGlobals "BATCH" = some (some (.int (20) t_BATCH)))
    (z_isinstance : PySem.W.nsIn K mainGlobals "isinstance" = some none)
    (z_int : PySem.W.nsIn K mainGlobals "int" = some none)
    (z_bool : PySem.W.nsIn K mainGlobals "bool" = some none)
    (z_len : PySem.W.nsIn K mainGlobals "len" = some none)
    (z_tuple : PySem.W.nsIn K mainGlobals "tuple" = some none)
    (z_enumerate : PySem.W.nsIn K mainGlobals "enumerate" = some none)
    (z_str : PySem.W.nsIn K mainGlobals "str" = some none)
    (z_range : PySem.W.nsIn K mainGlobals "range" = some none)
    (z_all : PySem.W.nsIn K mainGlobals "all" = some none)
    (z_list : PySem.W.nsIn K mainGlobals "list" = some none)
    (z_reversed : PySem.W.nsIn K mainGlobals "reversed" = some none)
    (z_any : PySem.W.nsIn K mainGlobals "any" = some none)
    (z_min : PySem.W.nsIn K mainGlobals "min" = some none)
    (z_sum : PySem.W.nsIn K mainGlobals "sum" = some none)
    (z_max : PySem.W.nsIn K mainGlobals "max" = some none)
    (z_sorted : PySem.W.nsIn K mainGlobals "sorted" = some none)
    (z_repr : PySem.W.nsIn K mainGlobals "repr" = some none)
    (z_set : PySem.W.nsIn K mainGlobals "set" = some none)
    (z_classmethod : PySem.W.nsIn K mainGlobals "classmethod" = some none)
    (z_staticmethod : PySem.W.nsIn K mainGlobals "staticmethod" = some none)
    (z_property : PySem.W.nsIn K mainGlobals "property" = some none)
    (eBadTable_a : PySem.W.nsIn K mainGlobals "BadTable" = some (some (.ref c_BadTable)))
    (eBusy_a : PySem.W.nsIn K mainGlobals "Busy" = some (some (.ref c_Busy)))
    (eLastOne_a : PySem.W.nsIn K mainGlobals "LastOne" = some (some (.ref c_LastOne)))
    (eNoAlternative_a : PySem.W.nsIn K mainGlobals "NoAlternative" = some (some (.ref c_NoAlternative)))
    (eNoSet_a : PySem.W.nsIn K mainGlobals "NoSet" = some (some (.ref c_NoSet)))
    (eNoVersion_a : PySem.W.nsIn K mainGlobals "NoVersion" = some (some (.ref c_NoVersion)))
    (eSameAlternative_a : PySem.W.nsIn K mainGlobals "SameAlternative" = some (some (.ref c_SameAlternative)))
    (eTooLarge_a : PySem.W.nsIn K mainGlobals "TooLarge" = some (some (.ref c_TooLarge)))
    (eTooManyEdits_a : PySem.W.nsIn K mainGlobals "TooManyEdits" = some (some (.ref c_TooManyEdits)))
    (eBadTable_ga : PySem.W.findIn K (.ref c_BadTable) "__getattribute__" = some (some (.builtin "BaseException.__getattribute__")))
    (eBadTable_gg : PySem.W.findIn K (.ref c_BadTable) "__getattr__" = some none)
    (eBadTable_ex : PySem.W.subIn K (.ref c_BadTable) (.type "BaseException") = some true)
    (eBadTable_ty : PySem.W.typeIn K (.ref c_BadTable) = some (.type "type"))
    (eBadTable_hd : PySem.W.hasDictIn K c_BadTable = true)
    (eBadTable_ca : PySem.W.findIn K (.ref c_BadTable) "__class__" = some (some (.builtin "object.__class__")))
    (eBadTable_cg : PySem.W.specialIn K (.builtin "object.__class__") "__get__" = some (some (.builtin "getset_descriptor.__get__")))
    (eBadTable_ct : PySem.W.takesIn K (.builtin "object.__class__") = some true)
    (eBadTable_mo : PySem.W.mroIn K c_BadTable (.type "object") = some true)
    (eBadTable_xi : PySem.W.excInitIn K c_BadTable [.type "ValueError", .type "Exception", .type "BaseException", .type "object"] "ValueError.__new__" = true)
    (eBadTable_xo : PySem.W.excOver K c_BadTable [.type "ValueError", .type "Exception", .type "BaseException", .type "object"] = true)
    (eBadTable_sa : PySem.W.findIn K (.ref c_BadTable) "__setattr__" = some (some (.builtin "object.__setattr__")))
    (eBadTable_no : PySem.W.findIn K (.ref c_BadTable) "error" = some none)
    (eBadTable_ini : PySem.W.findIn K (.ref c_BadTable) "__init__" = some (some (.ref i_BadTable)))
    (eBadTable_ft : PySem.W.typeIn K (.ref i_BadTable) = some (.type "function"))
    (eBadTable_kp : PySem.W.keepIn K (.ref c_BadTable) = true)
    (eBadTable_fn : K.lookup i_BadTable = some ⟨oc_BadTable, od_BadTable, .func (PySem.W.fnOf "__init__" "BadTable.__init__" (initA_error ⟨24, 17, 24, 21⟩ ⟨24, 23, 24, 28⟩) (initB_error ⟨25, 8, 25, 12⟩ ⟨25, 8, 25, 18⟩ ⟨25, 21, 25, 26⟩ ⟨25, 8, 25, 26⟩) initS_error .none .none do_BadTable pm_BadTable an_BadTable cd_BadTable ct_BadTable), sl_BadTable⟩)
    (eBadTable_cc : PySem.W.codeIn K cd_BadTable "BadTable.__init__" = true)
    (eBusy_ga : PySem.W.findIn K (.ref c_Busy) "__getattribute__" = some (some (.builtin "BaseException.__getattribute__")))
    (eBusy_gg : PySem.W.findIn K (.ref c_Busy) "__getattr__" = some none)
    (eBusy_ex : PySem.W.subIn K (.ref c_Busy) (.type "BaseException") = some true)
    (eBusy_ty : PySem.W.typeIn K (.ref c_Busy) = some (.type "type"))
    (eBusy_hd : PySem.W.hasDictIn K c_Busy = true)
    (eBusy_ca : PySem.W.findIn K (.ref c_Busy) "__class__" = some (some (.builtin "object.__class__")))
    (eBusy_cg : PySem.W.specialIn K (.builtin "object.__class__") "__get__" = some (some (.builtin "getset_descriptor.__get__")))
    (eBusy_ct : PySem.W.takesIn K (.builtin "object.__class__") = some true)
    (eBusy_mo : PySem.W.mroIn K c_Busy (.type "object") = some true)
    (eBusy_x0 : PySem.W.excIn K c_Busy [.type "ValueError", .type "Exception", .type "BaseException", .type "object"] "ValueError.__new__" = true)
    (eBusy_kp : PySem.W.keepIn K (.ref c_Busy) = true)
    (eLastOne_ga : PySem.W.findIn K (.ref c_LastOne) "__getattribute__" = some (some (.builtin "BaseException.__getattribute__")))
    (eLastOne_gg : PySem.W.findIn K (.ref c_LastOne) "__getattr__" = some none)
    (eLastOne_ex : PySem.W.subIn K (.ref c_LastOne) (.type "BaseException") = some true)
    (eLastOne_ty : PySem.W.typeIn K (.ref c_LastOne) = some (.type "type"))
    (eLastOne_hd : PySem.W.hasDictIn K c_LastOne = true)
    (eLastOne_ca : PySem.W.findIn K (.ref c_LastOne) "__class__" = some (some (.builtin "object.__class__")))
    (eLastOne_cg : PySem.W.specialIn K (.builtin "object.__class__") "__get__" = some (some (.builtin "getset_descriptor.__get__")))
    (eLastOne_ct : PySem.W.takesIn K (.builtin "object.__class__") = some true)
    (eLastOne_mo : PySem.W.mroIn K c_LastOne (.type "object") = some true)
    (eLastOne_x0 : PySem.W.excIn K c_LastOne [.type "ValueError", .type "Exception", .type "BaseException", .type "object"] "ValueError.__new__" = true)
    (eLastOne_kp : PySem.W.keepIn K (.ref c_LastOne) = true)
    (eNoAlternative_ga : PySem.W.findIn K (.ref c_NoAlternative) "__getattribute__" = some (some (.builtin "BaseException.__getattribute__")))
    (eNoAlternative_gg : PySem.W.findIn K (.ref c_NoAlternative) "__getattr__" = some none)
    (eNoAlternative_ex : PySem.W.subIn K (.ref c_NoAlternative) (.type "BaseException") = some true)
    (eNoAlternative_ty : PySem.W.typeIn K (.ref c_NoAlternative) = some (.type "type"))
    (eNoAlternative_hd : PySem.W.hasDictIn K c_NoAlternative = true)
    (eNoAlternative_ca : PySem.W.findIn K (.ref c_NoAlternative) "__class__" = some (some (.builtin "object.__class__")))
    (eNoAlternative_cg : PySem.W.specialIn K (.builtin "object.__class__") "__get__" = some (some (.builtin "getset_descriptor.__get__")))
    (eNoAlternative_ct : PySem.W.takesIn K (.builtin "object.__class__") = some true)
    (eNoAlternative_mo : PySem.W.mroIn K c_NoAlternative (.type "object") = some true)
    (eNoAlternative_xi : PySem.W.excInitIn K c_NoAlternative [.type "LookupError", .type "Exception", .type "BaseException", .type "object"] "LookupError.__new__" = true)
    (eNoAlternative_xo : PySem.W.excOver K c_NoAlternative [.type "LookupError", .type "Exception", .type "BaseException", .type "object"] = true)
    (eNoAlternative_sa : PySem.W.findIn K (.ref c_NoAlternative) "__setattr__" = some (some (.builtin "object.__setattr__")))
    (eNoAlternative_no : PySem.W.findIn K (.ref c_NoAlternative) "value" = some none)
    (eNoAlternative_ini : PySem.W.findIn K (.ref c_NoAlternative) "__init__" = some (some (.ref i_NoAlternative)))
    (eNoAlternative_ft : PySem.W.typeIn K (.ref i_NoAlternative) = some (.type "function"))
    (eNoAlternative_kp : PySem.W.keepIn K (.ref c_NoAlternative) = true)
    (eNoAlternative_fn : K.lookup i_NoAlternative = some ⟨oc_NoAlternative, od_NoAlternative, .func (PySem.W.fnOf "__init__" "NoAlternative.__init__" (initA ⟨48, 17, 48, 21⟩ ⟨48, 23, 48, 28⟩) (initB ⟨49, 8, 49, 12⟩ ⟨49, 8, 49, 18⟩ ⟨49, 21, 49, 26⟩ ⟨49, 8, 49, 26⟩) initS .none .none do_NoAlternative pm_NoAlternative an_NoAlternative cd_NoAlternative ct_NoAlternative), sl_NoAlternative⟩)
    (eNoAlternative_cc : PySem.W.codeIn K cd_NoAlternative "NoAlternative.__init__" = true)
    (eNoSet_ga : PySem.W.findIn K (.ref c_NoSet) "__getattribute__" = some (some (.builtin "BaseException.__getattribute__")))
    (eNoSet_gg : PySem.W.findIn K (.ref c_NoSet) "__getattr__" = some none)
    (eNoSet_ex : PySem.W.subIn K (.ref c_NoSet) (.type "BaseException") = some true)
    (eNoSet_ty : PySem.W.typeIn K (.ref c_NoSet) = some (.type "type"))
    (eNoSet_hd : PySem.W.hasDictIn K c_NoSet = true)
    (eNoSet_ca : PySem.W.findIn K (.ref c_NoSet) "__class__" = some (some (.builtin "object.__class__")))
    (eNoSet_cg : PySem.W.specialIn K (.builtin "object.__class__") "__get__" = some (some (.builtin "getset_descriptor.__get__")))
    (eNoSet_ct : PySem.W.takesIn K (.builtin "object.__class__") = some true)
    (eNoSet_mo : PySem.W.mroIn K c_NoSet (.type "object") = some true)
    (eNoSet_xi : PySem.W.excInitIn K c_NoSet [.type "ValueError", .type "Exception", .type "BaseException", .type "object"] "ValueError.__new__" = true)
    (eNoSet_xo : PySem.W.excOver K c_NoSet [.type "ValueError", .type "Exception", .type "BaseException", .type "object"] = true)
    (eNoSet_sa : PySem.W.findIn K (.ref c_NoSet) "__setattr__" = some (some (.builtin "object.__setattr__")))
    (eNoSet_no : PySem.W.findIn K (.ref c_NoSet) "value" = some none)
    (eNoSet_ini : PySem.W.findIn K (.ref c_NoSet) "__init__" = some (some (.ref i_NoSet)))
    (eNoSet_ft : PySem.W.typeIn K (.ref i_NoSet) = some (.type "function"))
    (eNoSet_kp : PySem.W.keepIn K (.ref c_NoSet) = true)
    (eNoSet_fn : K.lookup i_NoSet = some ⟨oc_NoSet, od_NoSet, .func (PySem.W.fnOf "__init__" "NoSet.__init__" (initA ⟨12, 17, 12, 21⟩ ⟨12, 23, 12, 28⟩) (initB ⟨13, 8, 13, 12⟩ ⟨13, 8, 13, 18⟩ ⟨13, 21, 13, 26⟩ ⟨13, 8, 13, 26⟩) initS .none .none do_NoSet pm_NoSet an_NoSet cd_NoSet ct_NoSet), sl_NoSet⟩)
    (eNoSet_cc : PySem.W.codeIn K cd_NoSet "NoSet.__init__" = true)
    (eNoVersion_ga : PySem.W.findIn K (.ref c_NoVersion) "__getattribute__" = some (some (.builtin "BaseException.__getattribute__")))
    (eNoVersion_gg : PySem.W.findIn K (.ref c_NoVersion) "__getattr__" = some none)
    (eNoVersion_ex : PySem.W.subIn K (.ref c_NoVersion) (.type "BaseException") = some true)
    (eNoVersion_ty : PySem.W.typeIn K (.ref c_NoVersion) = some (.type "type"))
    (eNoVersion_hd : PySem.W.hasDictIn K c_NoVersion = true)
    (eNoVersion_ca : PySem.W.findIn K (.ref c_NoVersion) "__class__" = some (some (.builtin "object.__class__")))
    (eNoVersion_cg : PySem.W.specialIn K (.builtin "object.__class__") "__get__" = some (some (.builtin "getset_descriptor.__get__")))
    (eNoVersion_ct : PySem.W.takesIn K (.builtin "object.__class__") = some true)
    (eNoVersion_mo : PySem.W.mroIn K c_NoVersion (.type "object") = some true)
    (eNoVersion_xi : PySem.W.excInitIn K c_NoVersion [.type "LookupError", .type "Exception", .type "BaseException", .type "object"] "LookupError.__new__" = true)
    (eNoVersion_xo : PySem.W.excOver K c_NoVersion [.type "LookupError", .type "Exception", .type "BaseException", .type "object"] = true)
    (eNoVersion_sa : PySem.W.findIn K (.ref c_NoVersion) "__setattr__" = some (some (.builtin "object.__setattr__")))
    (eNoVersion_no : PySem.W.findIn K (.ref c_NoVersion) "value" = some none)
    (eNoVersion_ini : PySem.W.findIn K (.ref c_NoVersion) "__init__" = some (some (.ref i_NoVersion)))
    (eNoVersion_ft : PySem.W.typeIn K (.ref i_NoVersion) = some (.type "function"))
    (eNoVersion_kp : PySem.W.keepIn K (.ref c_NoVersion) = true)
    (eNoVersion_fn : K.lookup i_NoVersion = some ⟨oc_NoVersion, od_NoVersion, .func (PySem.W.fnOf "__init__" "NoVersion.__init__" (initA ⟨56, 17, 56, 21⟩ ⟨56, 23, 56, 28⟩) (initB ⟨57, 8, 57, 12⟩ ⟨57, 8, 57, 18⟩ ⟨57, 21, 57, 26⟩ ⟨57, 8, 57, 26⟩) initS .none .none do_NoVersion pm_NoVersion an_NoVersion cd_NoVersion ct_NoVersion), sl_NoVersion⟩)
    (eNoVersion_cc : PySem.W.codeIn K cd_NoVersion "NoVersion.__init__" = true)
    (eSameAlternative_ga : PySem.W.findIn K (.ref c_SameAlternative) "__getattribute__" = some (some (.builtin "BaseException.__getattribute__")))
    (eSameAlternative_gg : PySem.W.findIn K (.ref c_SameAlternative) "__getattr__" = some none)
    (eSameAlternative_ex : PySem.W.subIn K (.ref c_SameAlternative) (.type "BaseException") = some true)
    (eSameAlternative_ty : PySem.W.typeIn K (.ref c_SameAlternative) = some (.type "type"))
    (eSameAlternative_hd : PySem.W.hasDictIn K c_SameAlternative = true)
    (eSameAlternative_ca : PySem.W.findIn K (.ref c_SameAlternative) "__class__" = some (some (.builtin "object.__class__")))
    (eSameAlternative_cg : PySem.W.specialIn K (.builtin "object.__class__") "__get__" = some (some (.builtin "getset_descriptor.__get__")))
    (eSameAlternative_ct : PySem.W.takesIn K (.builtin "object.__class__") = some true)
    (eSameAlternative_mo : PySem.W.mroIn K c_SameAlternative (.type "object") = some true)
    (eSameAlternative_xi : PySem.W.excInitIn K c_SameAlternative [.type "ValueError", .type "Exception", .type "BaseException", .type "object"] "ValueError.__new__" = true)
    (eSameAlternative_xo : PySem.W.excOver K c_SameAlternative [.type "ValueError", .type "Exception", .type "BaseException", .type "object"] = true)
    (eSameAlternative_sa : PySem.W.findIn K (.ref c_SameAlternative) "__setattr__" = some (some (.builtin "object.__setattr__")))
    (eSameAlternative_no : PySem.W.findIn K (.ref c_SameAlternative) "value" = some none)
    (eSameAlternative_ini : PySem.W.findIn K (.ref c_SameAlternative) "__init__" = some (some (.ref i_SameAlternative)))
    (eSameAlternative_ft : PySem.W.typeIn K (.ref i_SameAlternative) = some (.type "function"))
    (eSameAlternative_kp : PySem.W.keepIn K (.ref c_SameAlternative) = true)
    (eSameAlternative_fn : K.lookup i_SameAlternative = some ⟨oc_SameAlternative, od_SameAlternative, .func (PySem.W.fnOf "__init__" "SameAlternative.__init__" (initA ⟨16, 17, 16, 21⟩ ⟨16, 23, 16, 28⟩) (initB ⟨17, 8, 17, 12⟩ ⟨17, 8, 17, 18⟩ ⟨17, 21, 17, 26⟩ ⟨17, 8, 17, 26⟩) initS .none .none do_SameAlternative pm_SameAlternative an_SameAlternative cd_SameAlternative ct_SameAlternative), sl_SameAlternative⟩)
    (eSameAlternative_cc : PySem.W.codeIn K cd_SameAlternative "SameAlternative.__init__" = true)
    (eTooLarge_ga : PySem.W.findIn K (.ref c_TooLarge) "__getattribute__" = some (some (.builtin "BaseException.__getattribute__")))
    (eTooLarge_gg : PySem.W.findIn K (.ref c_TooLarge) "__getattr__" = some none)
    (eTooLarge_ex : PySem.W.subIn K (.ref c_TooLarge) (.type "BaseException") = some true)
    (eTooLarge_ty : PySem.W.typeIn K (.ref c_TooLarge) = some (.type "type"))
    (eTooLarge_hd : PySem.W.hasDictIn K c_TooLarge = true)
    (eTooLarge_ca : PySem.W.findIn K (.ref c_TooLarge) "__class__" = some (some (.builtin "object.__class__")))
    (eTooLarge_cg : PySem.W.specialIn K (.builtin "object.__class__") "__get__" = some (some (.builtin "getset_descriptor.__get__")))
    (eTooLarge_ct : PySem.W.takesIn K (.builtin "object.__class__") = some true)
    (eTooLarge_mo : PySem.W.mroIn K c_TooLarge (.type "object") = some true)
    (eTooLarge_xi : PySem.W.excInitIn K c_TooLarge [.type "ValueError", .type "Exception", .type "BaseException", .type "object"] "ValueError.__new__" = true)
    (eTooLarge_xo : PySem.W.excOver K c_TooLarge [.type "ValueError", .type "Exception", .type "BaseException", .type "object"] = true)
    (eTooLarge_sa : PySem.W.findIn K (.ref c_TooLarge) "__setattr__" = some (some (.builtin "object.__setattr__")))
    (eTooLarge_no : PySem.W.findIn K (.ref c_TooLarge) "limit" = some none)
    (eTooLarge_ini : PySem.W.findIn K (.ref c_TooLarge) "__init__" = some (some (.ref i_TooLarge)))
    (eTooLarge_ft : PySem.W.typeIn K (.ref i_TooLarge) = some (.type "function"))
    (eTooLarge_kp : PySem.W.keepIn K (.ref c_TooLarge) = true)
    (eTooLarge_fn : K.lookup i_TooLarge = some ⟨oc_TooLarge, od_TooLarge, .func (PySem.W.fnOf "__init__" "TooLarge.__init__" (initA_limit ⟨20, 17, 20, 21⟩ ⟨20, 23, 20, 28⟩) (initB_limit ⟨21, 8, 21, 12⟩ ⟨21, 8, 21, 18⟩ ⟨21, 21, 21, 26⟩ ⟨21, 8, 21, 26⟩) initS_limit .none .none do_TooLarge pm_TooLarge an_TooLarge cd_TooLarge ct_TooLarge), sl_TooLarge⟩)
    (eTooLarge_cc : PySem.W.codeIn K cd_TooLarge "TooLarge.__init__" = true)
    (eTooManyEdits_ga : PySem.W.findIn K (.ref c_TooManyEdits) "__getattribute__" = some (some (.builtin "BaseException.__getattribute__")))
    (eTooManyEdits_gg : PySem.W.findIn K (.ref c_TooManyEdits) "__getattr__" = some none)
    (eTooManyEdits_ex : PySem.W.subIn K (.ref c_TooManyEdits) (.type "BaseException") = some true)
    (eTooManyEdits_ty : PySem.W.typeIn K (.ref c_TooManyEdits) = some (.type "type"))
    (eTooManyEdits_hd : PySem.W.hasDictIn K c_TooManyEdits = true)
    (eTooManyEdits_ca : PySem.W.findIn K (.ref c_TooManyEdits) "__class__" = some (some (.builtin "object.__class__")))
    (eTooManyEdits_cg : PySem.W.specialIn K (.builtin "object.__class__") "__get__" = some (some (.builtin "getset_descriptor.__get__")))
    (eTooManyEdits_ct : PySem.W.takesIn K (.builtin "object.__class__") = some true)
    (eTooManyEdits_mo : PySem.W.mroIn K c_TooManyEdits (.type "object") = some true)
    (eTooManyEdits_x0 : PySem.W.excIn K c_TooManyEdits [.type "ValueError", .type "Exception", .type "BaseException", .type "object"] "ValueError.__new__" = true)
    (eTooManyEdits_kp : PySem.W.keepIn K (.ref c_TooManyEdits) = true)
    (i_Bench___init__ : InMe K c_Bench "__init__" "Bench.__init__" s_Bench___init__ f_Bench___init__ d_Bench___init__)
    (i_Bench_version : InPr K c_Bench "version" "Bench.version" s_Bench_version p_Bench_version f_Bench_version d_Bench_version)
    (i_Bench_size : InPr K c_Bench "size" "Bench.size" s_Bench_size p_Bench_size f_Bench_size d_Bench_size)
    (i_Bench_kind : InPr K c_Bench "kind" "Bench.kind" s_Bench_kind p_Bench_kind f_Bench_kind d_Bench_kind)
    (i_Bench_turn : InMe K c_Bench "turn" "Bench.turn" s_Bench_turn f_Bench_turn d_Bench_turn)
    (i_Bench_add : InMe K c_Bench "add" "Bench.add" s_Bench_add f_Bench_add d_Bench_add)
    (i_Bench_remove : InMe K c_Bench "remove" "Bench.remove" s_Bench_remove f_Bench_remove d_Bench_remove)
    (i_Bench_edit_once : InMe K c_Bench "edit_once" "Bench.edit_once" s_Bench_edit_once f_Bench_edit_once d_Bench_edit_once)
    (i_Bench_do_edit : InMe K c_Bench "do_edit" "Bench.do_edit" s_Bench_do_edit f_Bench_do_edit d_Bench_do_edit)
    (i_Bench_require_fit : InMe K c_Bench "require_fit" "Bench.require_fit" s_Bench_require_fit f_Bench_require_fit d_Bench_require_fit)
    (i_Bench_require_free : InMe K c_Bench "require_free" "Bench.require_free" s_Bench_require_free f_Bench_require_free d_Bench_require_free)
    (i_Bench_state_at : InMe K c_Bench "state_at" "Bench.state_at" s_Bench_state_at f_Bench_state_at d_Bench_state_at)
    (i_Bench_table : InMe K c_Bench "table" "Bench.table" s_Bench_table f_Bench_table d_Bench_table)
    (b_Bench_table : ∃ ds, Vals [V.non] ds ∧ Binds K d_Bench_table ["self", "version"] ds)
    (i_Bench_edits : InMe K c_Bench "edits" "Bench.edits" s_Bench_edits f_Bench_edits d_Bench_edits)
    (i_Bench___len__ : InMe K c_Bench "__len__" "Bench.__len__" s_Bench___len__ f_Bench___len__ d_Bench___len__)
    (i_Bench___str__ : InMe K c_Bench "__str__" "Bench.__str__" s_Bench___str__ f_Bench___str__ d_Bench___str__)
    (nc_Bench : PySem.W.nsIn K mainGlobals "Bench" = some (some (.ref c_Bench)))
    (pg_Bench : PySem.W.plainGet K c_Bench Str.empty = true)
    (hd_Bench : PySem.W.hasDictIn K c_Bench = true)
    (po_Bench : PySem.W.plainOver K c_Bench = true)
    (sa_Bench : PySem.W.findIn K (.ref c_Bench) "__setattr__" = some (some (.builtin "object.__setattr__")))
    (mk_Bench : PySem.W.makesIn K c_Bench = true)
    (kc_Bench : PySem.W.keepIn K (.ref c_Bench) = true)
    (na_Bench_states : PySem.W.findIn K (.ref c_Bench) "states" = some none)
    (na_Bench_standing : PySem.W.findIn K (.ref c_Bench) "standing" = some none)
    (na_Bench_chosen : PySem.W.findIn K (.ref c_Bench) "chosen" = some none)
    (na_Bench_busy : PySem.W.findIn K (.ref c_Bench) "busy" = some none)
    (i__law_some_edit : InDf K "_law_some_edit" s__law_some_edit (10) f__law_some_edit d__law_some_edit)
    (i__law_valid_edit : InDf K "_law_valid_edit" s__law_valid_edit (10) f__law_valid_edit d__law_valid_edit)
    : ∃ fd : FuncData, (∀ (s : Shared) (v : Value), BindsTo s fd ⟨[v], []⟩ [("_law_script", v)]) ∧ ∀ base : Heap, K.In base → base.Ns mainGlobals mg → FnG l.prog w K mg base CX0 10 fa fd ["_law_script"] (spLaw K) := by
  have e := hfa.symm.trans (PySem.W.mg_of X G i_law.ns)
  cases e
  have b_is_integer : Binds K d_is_integer ["value"] [] := i_is_integer.fn.binds fun _ _ _ _ _ _ us hl => match us, hl with | [_], _ => rfl
  have b_is_alternative : Binds K d_is_alternative ["table", "value"] [] := i_is_alternative.fn.binds fun _ _ _ _ _ _ us hl => match us, hl with | [_, _], _ => rfl
  have b_is_set : Binds K d_is_set ["table", "value"] [] := i_is_set.fn.binds fun _ _ _ _ _ _ us hl => match us, hl with | [_, _], _ => rfl
  have b_require_alternative : Binds K d_require_alternative ["table", "value"] [] := i_require_alternative.fn.binds fun _ _ _ _ _ _ us hl => match us, hl with | [_, _], _ => rfl
  have b_table_error : Binds K d_table_error ["value"] [] := i_table_error.fn.binds fun _ _ _ _ _ _ us hl => match us, hl with | [_], _ => rfl
  have b_row_error : Binds K d_row_error ["rows"] [] := i_row_error.fn.binds fun _ _ _ _ _ _ us hl => match us, hl with | [_], _ => rfl
  have b_sign_error : Binds K d_sign_error ["rows"] [] := i_sign_error.fn.binds fun _ _ _ _ _ _ us hl => match us, hl with | [_], _ => rfl
  have b_pair_error : Binds K d_pair_error ["rows"] [] := i_pair_error.fn.binds fun _ _ _ _ _ _ us hl => match us, hl with | [_], _ => rfl
  have b_outsiders : Binds K d_outsiders ["table", "members"] [] := i_outsiders.fn.binds fun _ _ _ _ _ _ us hl => match us, hl with | [_, _], _ => rfl
  have b_pick_table : Binds K d_pick_table ["table", "picked"] [] := i_pick_table.fn.binds fun _ _ _ _ _ _ us hl => match us, hl with | [_, _], _ => rfl
  have b_turn_duel : Binds K d_turn_duel ["table", "one", "other"] [] := i_turn_duel.fn.binds fun _ _ _ _ _ _ us hl => match us, hl with | [_, _, _], _ => rfl
  have b_turn_sign : Binds K d_turn_sign ["row", "at"] [] := i_turn_sign.fn.binds fun _ _ _ _ _ _ us hl => match us, hl with | [_, _], _ => rfl
  have b_edited_table : Binds K d_edited_table ["table", "edit"] [] := i_edited_table.fn.binds fun _ _ _ _ _ _ us hl => match us, hl with | [_, _], _ => rfl
  have b_with_another : Binds K d_with_another ["table", "wins"] [] := i_with_another.fn.binds fun _ _ _ _ _ _ us hl => match us, hl with | [_, _], _ => rfl
  have b_without_one : Binds K d_without_one ["table", "one"] [] := i_without_one.fn.binds fun _ _ _ _ _ _ us hl => match us, hl with | [_, _], _ => rfl
  have b__law_stream : Binds K d__law_stream ["_law_script", "_law_turn"] [] := i__law_stream.fn.binds fun _ _ _ _ _ _ us hl => match us, hl with | [_, _], _ => rfl
  have b__law_take : Binds K d__law_take ["_law_stream_here", "_law_many"] [] := i__law_take.fn.binds fun _ _ _ _ _ _ us hl => match us, hl with | [_, _], _ => rfl
  have b__law_from : Binds K d__law_from ["_law_thing", "_law_low", "_law_high"] [] := i__law_from.fn.binds fun _ _ _ _ _ _ us hl => match us, hl with | [_, _, _], _ => rfl
  have b__law_equal : Binds K d__law_equal ["_law_one", "_law_other"] [] := i__law_equal.fn.binds fun _ _ _ _ _ _ us hl => match us, hl with | [_, _], _ => rfl
  have b__law_table : Binds K d__law_table ["_law_stream_here", "_law_most"] [] := i__law_table.fn.binds fun _ _ _ _ _ _ us hl => match us, hl with | [_, _], _ => rfl
  have b__law_wins : Binds K d__law_wins ["_law_stream_here", "_law_size"] [] := i__law_wins.fn.binds fun _ _ _ _ _ _ us hl => match us, hl with | [_, _], _ => rfl
  have b__law_is_set : Binds K d__law_is_set ["_law_size", "_law_value"] [] := i__law_is_set.fn.binds fun _ _ _ _ _ _ us hl => match us, hl with | [_, _], _ => rfl
  have b__law_turned : Binds K d__law_turned ["_law_table_here", "_law_one", "_law_other"] [] := i__law_turned.fn.binds fun _ _ _ _ _ _ us hl => match us, hl with | [_, _, _], _ => rfl
  have b__law_grown : Binds K d__law_grown ["_law_table_here", "_law_wins_here"] [] := i__law_grown.fn.binds fun _ _ _ _ _ _ us hl => match us, hl with | [_, _], _ => rfl
  have b__law_shrunk : Binds K d__law_shrunk ["_law_table_here", "_law_one"] [] := i__law_shrunk.fn.binds fun _ _ _ _ _ _ us hl => match us, hl with | [_, _], _ => rfl
  have b__law_due : Binds K d__law_due ["_law_table_here", "_law_edit"] [] := i__law_due.fn.binds fun _ _ _ _ _ _ us hl => match us, hl with | [_, _], _ => rfl
  have b__law_do : Binds K d__law_do ["_law_bench", "_law_edit"] [] := i__law_do.fn.binds fun _ _ _ _ _ _ us hl => match us, hl with | [_, _], _ => rfl
  have b__law_text : Binds K d__law_text ["_law_table_here", "_law_many"] [] := i__law_text.fn.binds fun _ _ _ _ _ _ us hl => match us, hl with | [_, _], _ => rfl
  have b__law_seen : Binds K d__law_seen ["_law_bench"] [] := i__law_seen.fn.binds fun _ _ _ _ _ _ us hl => match us, hl with | [_], _ => rfl
  have b__law_due_seen : Binds K d__law_due_seen ["_law_table_here", "_law_done"] [] := i__law_due_seen.fn.binds fun _ _ _ _ _ _ us hl => match us, hl with | [_, _], _ => rfl
  have b_law : Binds K d_law ["_law_script"] [] := i_law.fn.binds fun _ _ _ _ _ _ us hl => match us, hl with | [_], _ => rfl
  have x_BadTable : OwnX_error K c_BadTable i_BadTable := ⟨⟨_, _, _, _, PySem.F.excBase_ValueError, PySem.F.store_ValueError, eBadTable_xi, eBadTable_xo⟩, eBadTable_sa, eBadTable_ga, eBadTable_gg, eBadTable_no, eBadTable_ini, eBadTable_ft, eBadTable_kp, eBadTable_ex, eBadTable_ty, eBadTable_hd, eBadTable_ca, eBadTable_cg, eBadTable_ct, eBadTable_mo, ⟨_, _, _, _, _, _, _, _, _, _, _, _, _, _, _, eBadTable_fn, eBadTable_cc⟩⟩
  have x_NoAlternative : OwnX K c_NoAlternative i_NoAlternative := ⟨⟨_, _, _, _, PySem.F.excBase_LookupError, PySem.F.store_LookupError, eNoAlternative_xi, eNoAlternative_xo⟩, eNoAlternative_sa, eNoAlternative_ga, eNoAlternative_gg, eNoAlternative_no, eNoAlternative_ini, eNoAlternative_ft, eNoAlternative_kp, eNoAlternative_ex, eNoAlternative_ty, eNoAlternative_hd, eNoAlternative_ca, eNoAlternative_cg, eNoAlternative_ct, eNoAlternative_mo, ⟨_, _, _, _, _, _, _, _, _, _, _, _, _, _, _, eNoAlternative_fn, eNoAlternative_cc⟩⟩
  have x_NoSet : OwnX K c_NoSet i_NoSet := ⟨⟨_, _, _, _, PySem.F.excBase_ValueError, PySem.F.store_ValueError, eNoSet_xi, eNoSet_xo⟩, eNoSet_sa, eNoSet_ga, eNoSet_gg, eNoSet_no, eNoSet_ini, eNoSet_ft, eNoSet_kp, eNoSet_ex, eNoSet_ty, eNoSet_hd, eNoSet_ca, eNoSet_cg, eNoSet_ct, eNoSet_mo, ⟨_, _, _, _, _, _, _, _, _, _, _, _, _, _, _, eNoSet_fn, eNoSet_cc⟩⟩
  have x_NoVersion : OwnX K c_NoVersion i_NoVersion := ⟨⟨_, _, _, _, PySem.F.excBase_LookupError, PySem.F.store_LookupError, eNoVersion_xi, eNoVersion_xo⟩, eNoVersion_sa, eNoVersion_ga, eNoVersion_gg, eNoVersion_no, eNoVersion_ini, eNoVersion_ft, eNoVersion_kp, eNoVersion_ex, eNoVersion_ty, eNoVersion_hd, eNoVersion_ca, eNoVersion_cg, eNoVersion_ct, eNoVersion_mo, ⟨_, _, _, _, _, _, _, _, _, _, _, _, _, _, _, eNoVersion_fn, eNoVersion_cc⟩⟩
  have x_SameAlternative : OwnX K c_SameAlternative i_SameAlternative := ⟨⟨_, _, _, _, PySem.F.excBase_ValueError, PySem.F.store_ValueError, eSameAlternative_xi, eSameAlternative_xo⟩, eSameAlternative_sa, eSameAlternative_ga, eSameAlternative_gg, eSameAlternative_no, eSameAlternative_ini, eSameAlternative_ft, eSameAlternative_kp, eSameAlternative_ex, eSameAlternative_ty, eSameAlternative_hd, eSameAlternative_ca, eSameAlternative_cg, eSameAlternative_ct, eSameAlternative_mo, ⟨_, _, _, _, _, _, _, _, _, _, _, _, _, _, _, eSameAlternative_fn, eSameAlternative_cc⟩⟩
  have x_TooLarge : OwnX_limit K c_TooLarge i_TooLarge := ⟨⟨_, _, _, _, PySem.F.excBase_ValueError, PySem.F.store_ValueError, eTooLarge_xi, eTooLarge_xo⟩, eTooLarge_sa, eTooLarge_ga, eTooLarge_gg, eTooLarge_no, eTooLarge_ini, eTooLarge_ft, eTooLarge_kp, eTooLarge_ex, eTooLarge_ty, eTooLarge_hd, eTooLarge_ca, eTooLarge_cg, eTooLarge_ct, eTooLarge_mo, ⟨_, _, _, _, _, _, _, _, _, _, _, _, _, _, _, eTooLarge_fn, eTooLarge_cc⟩⟩
  have b__law_some_edit : Binds K d__law_some_edit ["_law_stream_here", "_law_table_here", "_law_most"] [] := binds_full (i__law_some_edit.fn.binds1 3 1 (by simp) rfl fun _ _ _ _ _ _ _ us its hl h1 => match us, hl, its, h1 with | [_, _, _], _, [_], _ => ⟨_, rfl, rfl⟩)
  have b1__law_some_edit : ∃ ds, Vals [V.int 10] ds ∧ Binds K d__law_some_edit ["_law_stream_here", "_law_table_here", "_law_most"] ds := i__law_some_edit.fn.binds1 2 0 (by simp) rfl fun _ _ _ _ _ _ _ us its hl h1 => match us, hl, its, h1 with | [_, _], _, [_], _ => ⟨_, rfl, rfl⟩
  have b__law_valid_edit : Binds K d__law_valid_edit ["_law_stream_here", "_law_table_here", "_law_most"] [] := binds_full (i__law_valid_edit.fn.binds1 3 1 (by simp) rfl fun _ _ _ _ _ _ _ us its hl h1 => match us, hl, its, h1 with | [_, _, _], _, [_], _ => ⟨_, rfl, rfl⟩)
  have b1__law_valid_edit : ∃ ds, Vals [V.int 10] ds ∧ Binds K d__law_valid_edit ["_law_stream_here", "_law_table_here", "_law_most"] ds := i__law_valid_edit.fn.binds1 2 0 (by simp) rfl fun _ _ _ _ _ _ _ us its hl h1 => match us, hl, its, h1 with | [_, _], _, [_], _ => ⟨_, rfl, rfl⟩
  have tx : Tx K mg ⟨f_Bench___init__, d_Bench___init__, f_Bench_version, d_Bench_version, p_Bench_version, f_Bench_size, d_Bench_size, p_Bench_size, f_Bench_kind, d_Bench_kind, p_Bench_kind, f_Bench_turn, d_Bench_turn, f_Bench_add, d_Bench_add, f_Bench_remove, d_Bench_remove, f_Bench_edit_once, d_Bench_edit_once, f_Bench_do_edit, d_Bench_do_edit, f_Bench_require_fit, d_Bench_require_fit, f_Bench_require_free, d_Bench_require_free, f_Bench_state_at, d_Bench_state_at, f_Bench_table, d_Bench_table, f_Bench_edits, d_Bench_edits, f_Bench___len__, d_Bench___len__, f_Bench___str__, d_Bench___str__, c_Bench, c_TooManyEdits, c_TooLarge, i_TooLarge, c_SameAlternative, i_SameAlternative, c_NoVersion, i_NoVersion, c_NoSet, i_NoSet, c_NoAlternative, i_NoAlternative, c_LastOne, c_Busy, c_BadTable, i_BadTable, f_is_integer, d_is_integer, f_is_alternative, d_is_alternative, f_is_set, d_is_set, f_require_alternative, d_require_alternative, f_table_error, d_table_error, f_row_error, d_row_error, f_sign_error, d_sign_error, f_pair_error, d_pair_error, f_outsiders, d_outsiders, f_pick_table, d_pick_table, f_turn_duel, d_turn_duel, f_turn_sign, d_turn_sign, f_edited_table, d_edited_table, f_with_another, d_with_another, f_without_one, d_without_one, f__law_stream, d__law_stream, f__law_take, d__law_take, f__law_from, d__law_from, f__law_equal, d__law_equal, f__law_table, d__law_table, f__law_wins, d__law_wins, f__law_is_set, d__law_is_set, f__law_turned, d__law_turned, f__law_grown, d__law_grown, f__law_shrunk, d__law_shrunk, f__law_due, d__law_due, f__law_do, d__law_do, f__law_some_edit, d__law_some_edit, f__law_valid_edit, d__law_valid_edit, f__law_text, d__law_text, f__law_seen, d__law_seen, f__law_due_seen, d__law_due_seen, fa, d_law⟩ :=
    ⟨i_Bench___init__.fn,
     i_Bench___init__.fn.binds fun _ _ _ _ _ _ us hl => match us, hl with | [_, _], _ => rfl,
     i_Bench_version.fn,
     i_Bench_version.fn.binds fun _ _ _ _ _ _ us hl => match us, hl with | [_], _ => rfl,
     i_Bench_version.pr,
     i_Bench_size.fn,
     i_Bench_size.fn.binds fun _ _ _ _ _ _ us hl => match us, hl with | [_], _ => rfl,
     i_Bench_size.pr,
     i_Bench_kind.fn,
     i_Bench_kind.fn.binds fun _ _ _ _ _ _ us hl => match us, hl with | [_], _ => rfl,
     i_Bench_kind.pr,
     i_Bench_turn.fn,
     i_Bench_turn.fn.binds fun _ _ _ _ _ _ us hl => match us, hl with | [_, _, _], _ => rfl,
     ⟨i_Bench_turn.at_, i_Bench_turn.is, i_Bench_turn.fn.kp⟩,
     i_Bench_add.fn,
     i_Bench_add.fn.binds fun _ _ _ _ _ _ us hl => match us, hl with | [_, _], _ => rfl,
     ⟨i_Bench_add.at_, i_Bench_add.is, i_Bench_add.fn.kp⟩,
     i_Bench_remove.fn,
     i_Bench_remove.fn.binds fun _ _ _ _ _ _ us hl => match us, hl with | [_, _], _ => rfl,
     ⟨i_Bench_remove.at_, i_Bench_remove.is, i_Bench_remove.fn.kp⟩,
     i_Bench_edit_once.fn,
     i_Bench_edit_once.fn.binds fun _ _ _ _ _ _ us hl => match us, hl with | [_, _], _ => rfl,
     ⟨i_Bench_edit_once.at_, i_Bench_edit_once.is, i_Bench_edit_once.fn.kp⟩,
     i_Bench_do_edit.fn,
     i_Bench_do_edit.fn.binds fun _ _ _ _ _ _ us hl => match us, hl with | [_, _], _ => rfl,
     ⟨i_Bench_do_edit.at_, i_Bench_do_edit.is, i_Bench_do_edit.fn.kp⟩,
     i_Bench_require_fit.fn,
     i_Bench_require_fit.fn.binds fun _ _ _ _ _ _ us hl => match us, hl with | [_, _], _ => rfl,
     ⟨i_Bench_require_fit.at_, i_Bench_require_fit.is, i_Bench_require_fit.fn.kp⟩,
     i_Bench_require_free.fn,
     i_Bench_require_free.fn.binds fun _ _ _ _ _ _ us hl => match us, hl with | [_], _ => rfl,
     ⟨i_Bench_require_free.at_, i_Bench_require_free.is, i_Bench_require_free.fn.kp⟩,
     i_Bench_state_at.fn,
     i_Bench_state_at.fn.binds fun _ _ _ _ _ _ us hl => match us, hl with | [_, _], _ => rfl,
     ⟨i_Bench_state_at.at_, i_Bench_state_at.is, i_Bench_state_at.fn.kp⟩,
     i_Bench_table.fn,
     b_Bench_table,
     ⟨i_Bench_table.at_, i_Bench_table.is, i_Bench_table.fn.kp⟩,
     i_Bench_edits.fn,
     i_Bench_edits.fn.binds fun _ _ _ _ _ _ us hl => match us, hl with | [_], _ => rfl,
     ⟨i_Bench_edits.at_, i_Bench_edits.is, i_Bench_edits.fn.kp⟩,
     i_Bench___len__.fn,
     i_Bench___len__.fn.binds fun _ _ _ _ _ _ us hl => match us, hl with | [_], _ => rfl,
     ⟨i_Bench___len__.at_, i_Bench___len__.is, i_Bench___len__.fn.kp⟩,
     i_Bench___str__.fn,
     i_Bench___str__.fn.binds fun _ _ _ _ _ _ us hl => match us, hl with | [_], _ => rfl,
     ⟨i_Bench___str__.at_, i_Bench___str__.is, i_Bench___str__.fn.kp⟩,
     ⟨pg_Bench, hd_Bench, po_Bench, sa_Bench⟩,
     PySem.W.mg_of X G nc_Bench,
     ⟨mk_Bench, i_Bench___init__.at_, i_Bench___init__.is, kc_Bench⟩,
     na_Bench_states,
     na_Bench_standing,
     na_Bench_chosen,
     na_Bench_busy,
     i_is_integer.fn,
     b_is_integer,
     PySem.W.mg_of X G i_is_integer.ns,
     i_is_alternative.fn,
     b_is_alternative,
     PySem.W.mg_of X G i_is_alternative.ns,
     i_is_set.fn,
     b_is_set,
     PySem.W.mg_of X G i_is_set.ns,
     i_require_alternative.fn,
     b_require_alternative,
     PySem.W.mg_of X G i_require_alternative.ns,
     i_table_error.fn,
     b_table_error,
     PySem.W.mg_of X G i_table_error.ns,
     i_row_error.fn,
     b_row_error,
     PySem.W.mg_of X G i_row_error.ns,
     i_sign_error.fn,
     b_sign_error,
     PySem.W.mg_of X G i_sign_error.ns,
     i_pair_error.fn,
     b_pair_error,
     PySem.W.mg_of X G i_pair_error.ns,
     i_outsiders.fn,
     b_outsiders,
     PySem.W.mg_of X G i_outsiders.ns,
     i_pick_table.fn,
     b_pick_table,
     PySem.W.mg_of X G i_pick_table.ns,
     i_turn_duel.fn,
     b_turn_duel,
     PySem.W.mg_of X G i_turn_duel.ns,
     i_turn_sign.fn,
     b_turn_sign,
     PySem.W.mg_of X G i_turn_sign.ns,
     i_edited_table.fn,
     b_edited_table,
     PySem.W.mg_of X G i_edited_table.ns,
     i_with_another.fn,
     b_with_another,
     PySem.W.mg_of X G i_with_another.ns,
     i_without_one.fn,
     b_without_one,
     PySem.W.mg_of X G i_without_one.ns,
     i__law_stream.fn,
     b__law_stream,
     PySem.W.mg_of X G i__law_stream.ns,
     i__law_take.fn,
     b__law_take,
     PySem.W.mg_of X G i__law_take.ns,
     i__law_from.fn,
     b__law_from,
     PySem.W.mg_of X G i__law_from.ns,
     i__law_equal.fn,
     b__law_equal,
     PySem.W.mg_of X G i__law_equal.ns,
     i__law_table.fn,
     b__law_table,
     PySem.W.mg_of X G i__law_table.ns,
     i__law_wins.fn,
     b__law_wins,
     PySem.W.mg_of X G i__law_wins.ns,
     i__law_is_set.fn,
     b__law_is_set,
     PySem.W.mg_of X G i__law_is_set.ns,
     i__law_turned.fn,
     b__law_turned,
     PySem.W.mg_of X G i__law_turned.ns,
     i__law_grown.fn,
     b__law_grown,
     PySem.W.mg_of X G i__law_grown.ns,
     i__law_shrunk.fn,
     b__law_shrunk,
     PySem.W.mg_of X G i__law_shrunk.ns,
     i__law_due.fn,
     b__law_due,
     PySem.W.mg_of X G i__law_due.ns,
     i__law_do.fn,
     b__law_do,
     PySem.W.mg_of X G i__law_do.ns,
     i__law_some_edit.fn,
     b__law_some_edit,
     b1__law_some_edit,
     PySem.W.mg_of X G i__law_some_edit.ns,
     i__law_valid_edit.fn,
     b__law_valid_edit,
     b1__law_valid_edit,
     PySem.W.mg_of X G i__law_valid_edit.ns,
     i__law_text.fn,
     b__law_text,
     PySem.W.mg_of X G i__law_text.ns,
     i__law_seen.fn,
     b__law_seen,
     PySem.W.mg_of X G i__law_seen.ns,
     i__law_due_seen.fn,
     b__law_due_seen,
     PySem.W.mg_of X G i__law_due_seen.ns,
     i_law.fn,
     b_law,
     PySem.W.mg_of X G i_law.ns,
     PySem.W.mg_none_of X G z_isinstance,
     PySem.W.mg_none_of X G z_int,
     PySem.W.mg_none_of X G z_bool,
     PySem.W.mg_none_of X G z_len,
     PySem.W.mg_none_of X G z_tuple,
     PySem.W.mg_none_of X G z_enumerate,
     PySem.W.mg_none_of X G z_str,
     PySem.W.mg_none_of X G z_range,
     PySem.W.mg_none_of X G z_all,
     PySem.W.mg_none_of X G z_list,
     PySem.W.mg_none_of X G z_reversed,
     PySem.W.mg_none_of X G z_any,
     PySem.W.mg_none_of X G z_min,
     PySem.W.mg_none_of X G z_sum,
     PySem.W.mg_none_of X G z_max,
     PySem.W.mg_none_of X G z_sorted,
     PySem.W.mg_none_of X G z_repr,
     PySem.W.mg_none_of X G z_set,
     PySem.W.mg_none_of X G z_classmethod,
     PySem.W.mg_none_of X G z_staticmethod,
     PySem.W.mg_none_of X G z_property,
     ⟨_, PySem.W.mg_of X G y_MAX_SIZE⟩,
     ⟨_, PySem.W.mg_of X G y_EDITS⟩,
     ⟨_, PySem.W.mg_of X G y_BATCH⟩,
     PySem.W.mg_of X G eBadTable_a,
     PySem.W.mg_of X G eBusy_a,
     PySem.W.mg_of X G eLastOne_a,
     PySem.W.mg_of X G eNoAlternative_a,
     PySem.W.mg_of X G eNoSet_a,
     PySem.W.mg_of X G eNoVersion_a,
     PySem.W.mg_of X G eSameAlternative_a,
     PySem.W.mg_of X G eTooLarge_a,
     PySem.W.mg_of X G eTooManyEdits_a,
     x_BadTable,
     ⟨⟨_, _, _, _, PySem.F.excBase_ValueError, eBusy_x0⟩, eBusy_kp, eBusy_ex, eBusy_ty⟩,
     ⟨⟨_, _, _, _, PySem.F.excBase_ValueError, eLastOne_x0⟩, eLastOne_kp, eLastOne_ex, eLastOne_ty⟩,
     x_NoAlternative,
     x_NoSet,
     x_NoVersion,
     x_SameAlternative,
     x_TooLarge,
     ⟨⟨_, _, _, _, PySem.F.excBase_ValueError, eTooManyEdits_x0⟩, eTooManyEdits_kp, eTooManyEdits_ex, eTooManyEdits_ty⟩⟩
  refine ⟨d_law, fun s v => ?_, fun base _ _ => ok_law tx⟩
  obtain ⟨oc, od, kV, doc, pm, an, cdv, ct, osl, rfl, lk, hcd⟩ := i_law.fn.ex
  exact .of_eq rfl
theorem factsX {l : PySem.W.OpenLaw} {w : World} {K : PySem.W.Frag} {h : Heap} {mg : Str → Option Value} {fa : Addr} (X : K.In h) (G : h.Ns mainGlobals mg) (hfa : mg "law" = some (.ref fa)) (c : SaysX fxX fnX K) : ∃ fd : FuncData, (∀ (s : Shared) (v : Value), BindsTo s fd ⟨[v], []⟩ [("_law_script", v)]) ∧ ∀ base : Heap, K.In base → base.Ns mainGlobals mg → FnG l.prog w K mg base CX0 10 fa fd ["_law_script"] (spLaw K) := by
  obtain ⟨d_is_integer, F_is_integer⟩ := c.def_ 0 (d := dx_is_integer) rfl
  have F_is_integer : FunD K "is_integer" "is_integer" (defArgs s_is_integer) (defBody s_is_integer) (defScope s_is_integer) [] [] (He.ga K "is_integer") d_is_integer := F_is_integer
  obtain ⟨d_is_alternative, F_is_alternative⟩ := c.def_ 1 (d := dx_is_alternative) rfl
  have F_is_alternative : FunD K "is_alternative" "is_alternative" (defArgs s_is_alternative) (defBody s_is_alternative) (defScope s_is_alternative) [] [] (He.ga K "is_alternative") d_is_alternative := F_is_alternative
  obtain ⟨d_is_set, F_is_set⟩ := c.def_ 2 (d := dx_is_set) rfl
  have F_is_set : FunD K "is_set" "is_set" (defArgs s_is_set) (defBody s_is_set) (defScope s_is_set) [] [] (He.ga K "is_set") d_is_set := F_is_set
  obtain ⟨d_require_alternative, F_require_alternative⟩ := c.def_ 3 (d := dx_require_alternative) rfl
  have F_require_alternative : FunD K "require_alternative" "require_alternative" (defArgs s_require_alternative) (defBody s_require_alternative) (defScope s_require_alternative) [] [] (He.ga K "require_alternative") d_require_alternative := F_require_alternative
  obtain ⟨d_table_error, F_table_error⟩ := c.def_ 4 (d := dx_table_error) rfl
  have F_table_error : FunD K "table_error" "table_error" (defArgs s_table_error) (defBody s_table_error) (defScope s_table_error) [] [] (He.ga K "table_error") d_table_error := F_table_error
  obtain ⟨d_row_error, F_row_error⟩ := c.def_ 5 (d := dx_row_error) rfl
  have F_row_error : FunD K "row_error" "row_error" (defArgs s_row_error) (defBody s_row_error) (defScope s_row_error) [] [] (He.ga K "row_error") d_row_error := F_row_error
  obtain ⟨d_sign_error, F_sign_error⟩ := c.def_ 6 (d := dx_sign_error) rfl
  have F_sign_error : FunD K "sign_error" "sign_error" (defArgs s_sign_error) (defBody s_sign_error) (defScope s_sign_error) [] [] (He.ga K "sign_error") d_sign_error := F_sign_error
  obtain ⟨d_pair_error, F_pair_error⟩ := c.def_ 7 (d := dx_pair_error) rfl
  have F_pair_error : FunD K "pair_error" "pair_error" (defArgs s_pair_error) (defBody s_pair_error) (defScope s_pair_error) [] [] (He.ga K "pair_error") d_pair_error := F_pair_error
  obtain ⟨d_outsiders, F_outsiders⟩ := c.def_ 8 (d := dx_outsiders) rfl
  have F_outsiders : FunD K "outsiders" "outsiders" (defArgs s_outsiders) (defBody s_outsiders) (defScope s_outsiders) [] [] (He.ga K "outsiders") d_outsiders := F_outsiders
  obtain ⟨d_pick_table, F_pick_table⟩ := c.def_ 9 (d := dx_pick_table) rfl
  have F_pick_table : FunD K "pick_table" "pick_table" (defArgs s_pick_table) (defBody s_pick_table) (defScope s_pick_table) [] [] (He.ga K "pick_table") d_pick_table := F_pick_table
  obtain ⟨d_turn_duel, F_turn_duel⟩ := c.def_ 10 (d := dx_turn_duel) rfl
  have F_turn_duel : FunD K "turn_duel" "turn_duel" (defArgs s_turn_duel) (defBody s_turn_duel) (defScope s_turn_duel) [] [] (He.ga K "turn_duel") d_turn_duel := F_turn_duel
  obtain ⟨d_turn_sign, F_turn_sign⟩ := c.def_ 11 (d := dx_turn_sign) rfl
  have F_turn_sign : FunD K "turn_sign" "turn_sign" (defArgs s_turn_sign) (defBody s_turn_sign) (defScope s_turn_sign) [] [] (He.ga K "turn_sign") d_turn_sign := F_turn_sign
  obtain ⟨d_edited_table, F_edited_table⟩ := c.def_ 12 (d := dx_edited_table) rfl
  have F_edited_table : FunD K "edited_table" "edited_table" (defArgs s_edited_table) (defBody s_edited_table) (defScope s_edited_table) [] [] (He.ga K "edited_table") d_edited_table := F_edited_table
  obtain ⟨d_with_another, F_with_another⟩ := c.def_ 13 (d := dx_with_another) rfl
  have F_with_another : FunD K "with_another" "with_another" (defArgs s_with_another) (defBody s_with_another) (defScope s_with_another) [] [] (He.ga K "with_another") d_with_another := F_with_another
  obtain ⟨d_without_one, F_without_one⟩ := c.def_ 14 (d := dx_without_one) rfl
  have F_without_one : FunD K "without_one" "without_one" (defArgs s_without_one) (defBody s_without_one) (defScope s_without_one) [] [] (He.ga K "without_one") d_without_one := F_without_one
  obtain ⟨d__law_stream, F__law_stream⟩ := c.def_ 15 (d := dx__law_stream) rfl
  have F__law_stream : FunD K "_law_stream" "_law_stream" (defArgs s__law_stream) (defBody s__law_stream) (defScope s__law_stream) [] [] (He.ga K "_law_stream") d__law_stream := F__law_stream
  obtain ⟨d__law_take, F__law_take⟩ := c.def_ 16 (d := dx__law_take) rfl
  have F__law_take : FunD K "_law_take" "_law_take" (defArgs s__law_take) (defBody s__law_take) (defScope s__law_take) [] [] (He.ga K "_law_take") d__law_take := F__law_take
  obtain ⟨d__law_from, F__law_from⟩ := c.def_ 17 (d := dx__law_from) rfl
  have F__law_from : FunD K "_law_from" "_law_from" (defArgs s__law_from) (defBody s__law_from) (defScope s__law_from) [] [] (He.ga K "_law_from") d__law_from := F__law_from
  obtain ⟨d__law_equal, F__law_equal⟩ := c.def_ 18 (d := dx__law_equal) rfl
  have F__law_equal : FunD K "_law_equal" "_law_equal" (defArgs s__law_equal) (defBody s__law_equal) (defScope s__law_equal) [] [] (He.ga K "_law_equal") d__law_equal := F__law_equal
  obtain ⟨d__law_table, F__law_table⟩ := c.def_ 19 (d := dx__law_table) rfl
  have F__law_table : FunD K "_law_table" "_law_table" (defArgs s__law_table) (defBody s__law_table) (defScope s__law_table) [] [] (He.ga K "_law_table") d__law_table := F__law_table
  obtain ⟨d__law_wins, F__law_wins⟩ := c.def_ 20 (d := dx__law_wins) rfl
  have F__law_wins : FunD K "_law_wins" "_law_wins" (defArgs s__law_wins) (defBody s__law_wins) (defScope s__law_wins) [] [] (He.ga K "_law_wins") d__law_wins := F__law_wins
  obtain ⟨d__law_is_set, F__law_is_set⟩ := c.def_ 21 (d := dx__law_is_set) rfl
  have F__law_is_set : FunD K "_law_is_set" "_law_is_set" (defArgs s__law_is_set) (defBody s__law_is_set) (defScope s__law_is_set) [] [] (He.ga K "_law_is_set") d__law_is_set := F__law_is_set
  obtain ⟨d__law_turned, F__law_turned⟩ := c.def_ 22 (d := dx__law_turned) rfl
  have F__law_turned : FunD K "_law_turned" "_law_turned" (defArgs s__law_turned) (defBody s__law_turned) (defScope s__law_turned) [] [] (He.ga K "_law_turned") d__law_turned := F__law_turned
  obtain ⟨d__law_grown, F__law_grown⟩ := c.def_ 23 (d := dx__law_grown) rfl
  have F__law_grown : FunD K "_law_grown" "_law_grown" (defArgs s__law_grown) (defBody s__law_grown) (defScope s__law_grown) [] [] (He.ga K "_law_grown") d__law_grown := F__law_grown
  obtain ⟨d__law_shrunk, F__law_shrunk⟩ := c.def_ 24 (d := dx__law_shrunk) rfl
  have F__law_shrunk : FunD K "_law_shrunk" "_law_shrunk" (defArgs s__law_shrunk) (defBody s__law_shrunk) (defScope s__law_shrunk) [] [] (He.ga K "_law_shrunk") d__law_shrunk := F__law_shrunk
  obtain ⟨d__law_due, F__law_due⟩ := c.def_ 25 (d := dx__law_due) rfl
  have F__law_due : FunD K "_law_due" "_law_due" (defArgs s__law_due) (defBody s__law_due) (defScope s__law_due) [] [] (He.ga K "_law_due") d__law_due := F__law_due
  obtain ⟨d__law_do, F__law_do⟩ := c.def_ 26 (d := dx__law_do) rfl
  have F__law_do : FunD K "_law_do" "_law_do" (defArgs s__law_do) (defBody s__law_do) (defScope s__law_do) [] [] (He.ga K "_law_do") d__law_do := F__law_do
  obtain ⟨d__law_some_edit, F__law_some_edit⟩ := c.def_ 27 (d := dx__law_some_edit) rfl
  have F__law_some_edit : FunD K "_law_some_edit" "_law_some_edit" (defArgs s__law_some_edit) (defBody s__law_some_edit) (defScope s__law_some_edit) [V.int 10] [] (He.ga K "_law_some_edit") d__law_some_edit := F__law_some_edit
  obtain ⟨d__law_valid_edit, F__law_valid_edit⟩ := c.def_ 28 (d := dx__law_valid_edit) rfl
  have F__law_valid_edit : FunD K "_law_valid_edit" "_law_valid_edit" (defArgs s__law_valid_edit) (defBody s__law_valid_edit) (defScope s__law_valid_edit) [V.int 10] [] (He.ga K "_law_valid_edit") d__law_valid_edit := F__law_valid_edit
  obtain ⟨d__law_text, F__law_text⟩ := c.def_ 29 (d := dx__law_text) rfl
  have F__law_text : FunD K "_law_text" "_law_text" (defArgs s__law_text) (defBody s__law_text) (defScope s__law_text) [] [] (He.ga K "_law_text") d__law_text := F__law_text
  obtain ⟨d__law_seen, F__law_seen⟩ := c.def_ 30 (d := dx__law_seen) rfl
  have F__law_seen : FunD K "_law_seen" "_law_seen" (defArgs s__law_seen) (defBody s__law_seen) (defScope s__law_seen) [] [] (He.ga K "_law_seen") d__law_seen := F__law_seen
  obtain ⟨d__law_due_seen, F__law_due_seen⟩ := c.def_ 31 (d := dx__law_due_seen) rfl
  have F__law_due_seen : FunD K "_law_due_seen" "_law_due_seen" (defArgs s__law_due_seen) (defBody s__law_due_seen) (defScope s__law_due_seen) [] [] (He.ga K "_law_due_seen") d__law_due_seen := F__law_due_seen
  obtain ⟨d_law, F_law⟩ := c.def_ 32 (d := dx_law) rfl
  have F_law : FunD K "law" "law" (defArgs s_law) (defBody s_law) (defScope s_law) [] [] (He.ga K "law") d_law := F_law
  obtain ⟨d_Bench___init__, F_Bench___init__⟩ := c.def_ 33 (d := dx_Bench___init__) rfl
  have F_Bench___init__ : FunD K "__init__" "Bench.__init__" (defArgs s_Bench___init__) (defBody s_Bench___init__) (defScope s_Bench___init__) [] [] (He.ma K (He.ga K "Bench") "__init__") d_Bench___init__ := F_Bench___init__
  obtain ⟨d_Bench_version, F_Bench_version⟩ := c.def_ 34 (d := dx_Bench_version) rfl
  have F_Bench_version : FunD K "version" "Bench.version" (defArgs s_Bench_version) (defBody s_Bench_version) (defScope s_Bench_version) [] [] (pga K (He.ma K (He.ga K "Bench") "version")) d_Bench_version := F_Bench_version
  obtain ⟨d_Bench_size, F_Bench_size⟩ := c.def_ 35 (d := dx_Bench_size) rfl
  have F_Bench_size : FunD K "size" "Bench.size" (defArgs s_Bench_size) (defBody s_Bench_size) (defScope s_Bench_size) [] [] (pga K (He.ma K (He.ga K "Bench") "size")) d_Bench_size := F_Bench_size
  obtain ⟨d_Bench_kind, F_Bench_kind⟩ := c.def_ 36 (d := dx_Bench_kind) rfl
  have F_Bench_kind : FunD K "kind" "Bench.kind" (defArgs s_Bench_kind) (defBody s_Bench_kind) (defScope s_Bench_kind) [] [] (pga K (He.ma K (He.ga K "Bench") "kind")) d_Bench_kind := F_Bench_kind
  obtain ⟨d_Bench_turn, F_Bench_turn⟩ := c.def_ 37 (d := dx_Bench_turn) rfl
  have F_Bench_turn : FunD K "turn" "Bench.turn" (defArgs s_Bench_turn) (defBody s_Bench_turn) (defScope s_Bench_turn) [] [] (He.ma K (He.ga K "Bench") "turn") d_Bench_turn := F_Bench_turn
  obtain ⟨d_Bench_add, F_Bench_add⟩ := c.def_ 38 (d := dx_Bench_add) rfl
  have F_Bench_add : FunD K "add" "Bench.add" (defArgs s_Bench_add) (defBody s_Bench_add) (defScope s_Bench_add) [] [] (He.ma K (He.ga K "Bench") "add") d_Bench_add := F_Bench_add
  obtain ⟨d_Bench_remove, F_Bench_remove⟩ := c.def_ 39 (d := dx_Bench_remove) rfl
  have F_Bench_remove : FunD K "remove" "Bench.remove" (defArgs s_Bench_remove) (defBody s_Bench_remove) (defScope s_Bench_remove) [] [] (He.ma K (He.ga K "Bench") "remove") d_Bench_remove := F_Bench_remove
  obtain ⟨d_Bench_edit_once, F_Bench_edit_once⟩ := c.def_ 40 (d := dx_Bench_edit_once) rfl
  have F_Bench_edit_once : FunD K "edit_once" "Bench.edit_once" (defArgs s_Bench_edit_once) (defBody s_Bench_edit_once) (defScope s_Bench_edit_once) [] [] (He.ma K (He.ga K "Bench") "edit_once") d_Bench_edit_once := F_Bench_edit_once
  obtain ⟨d_Bench_do_edit, F_Bench_do_edit⟩ := c.def_ 41 (d := dx_Bench_do_edit) rfl
  have F_Bench_do_edit : FunD K "do_edit" "Bench.do_edit" (defArgs s_Bench_do_edit) (defBody s_Bench_do_edit) (defScope s_Bench_do_edit) [] [] (He.ma K (He.ga K "Bench") "do_edit") d_Bench_do_edit := F_Bench_do_edit
  obtain ⟨d_Bench_require_fit, F_Bench_require_fit⟩ := c.def_ 42 (d := dx_Bench_require_fit) rfl
  have F_Bench_require_fit : FunD K "require_fit" "Bench.require_fit" (defArgs s_Bench_require_fit) (defBody s_Bench_require_fit) (defScope s_Bench_require_fit) [] [] (He.ma K (He.ga K "Bench") "require_fit") d_Bench_require_fit := F_Bench_require_fit
  obtain ⟨d_Bench_require_free, F_Bench_require_free⟩ := c.def_ 43 (d := dx_Bench_require_free) rfl
  have F_Bench_require_free : FunD K "require_free" "Bench.require_free" (defArgs s_Bench_require_free) (defBody s_Bench_require_free) (defScope s_Bench_require_free) [] [] (He.ma K (He.ga K "Bench") "require_free") d_Bench_require_free := F_Bench_require_free
  obtain ⟨d_Bench_state_at, F_Bench_state_at⟩ := c.def_ 44 (d := dx_Bench_state_at) rfl
  have F_Bench_state_at : FunD K "state_at" "Bench.state_at" (defArgs s_Bench_state_at) (defBody s_Bench_state_at) (defScope s_Bench_state_at) [] [] (He.ma K (He.ga K "Bench") "state_at") d_Bench_state_at := F_Bench_state_at
  obtain ⟨d_Bench_table, F_Bench_table⟩ := c.def_ 45 (d := dx_Bench_table) rfl
  have F_Bench_table : FunD K "table" "Bench.table" (defArgs s_Bench_table) (defBody s_Bench_table) (defScope s_Bench_table) [] [(("version" : Str), V.non)] (He.ma K (He.ga K "Bench") "table") d_Bench_table := F_Bench_table
  obtain ⟨d_Bench_edits, F_Bench_edits⟩ := c.def_ 46 (d := dx_Bench_edits) rfl
  have F_Bench_edits : FunD K "edits" "Bench.edits" (defArgs s_Bench_edits) (defBody s_Bench_edits) (defScope s_Bench_edits) [] [] (He.ma K (He.ga K "Bench") "edits") d_Bench_edits := F_Bench_edits
  obtain ⟨d_Bench___len__, F_Bench___len__⟩ := c.def_ 47 (d := dx_Bench___len__) rfl
  have F_Bench___len__ : FunD K "__len__" "Bench.__len__" (defArgs s_Bench___len__) (defBody s_Bench___len__) (defScope s_Bench___len__) [] [] (He.ma K (He.ga K "Bench") "__len__") d_Bench___len__ := F_Bench___len__
  obtain ⟨d_Bench___str__, F_Bench___str__⟩ := c.def_ 48 (d := dx_Bench___str__) rfl
  have F_Bench___str__ : FunD K "__str__" "Bench.__str__" (defArgs s_Bench___str__) (defBody s_Bench___str__) (defScope s_Bench___str__) [] [] (He.ma K (He.ga K "Bench") "__str__") d_Bench___str__ := F_Bench___str__
  obtain ⟨d_EBadTable, F_EBadTable⟩ := c.def_ 49 (d := dx_EBadTable) rfl
  have F_EBadTable : FunD K "__init__" "BadTable.__init__" (initA_error ⟨24, 17, 24, 21⟩ ⟨24, 23, 24, 28⟩) (initB_error ⟨25, 8, 25, 12⟩ ⟨25, 8, 25, 18⟩ ⟨25, 21, 25, 26⟩ ⟨25, 8, 25, 26⟩) initS_error [] [] (He.ma K (He.ga K "BadTable") "__init__") d_EBadTable := F_EBadTable
  obtain ⟨oc_BadTable, od_BadTable, sl_BadTable, do_BadTable, pm_BadTable, an_BadTable, cd_BadTable, ct_BadTable, l_BadTable, w_BadTable⟩ := initX F_EBadTable (c.fact 71 (f := fx_71) rfl)
  obtain ⟨d_ENoAlternative, F_ENoAlternative⟩ := c.def_ 50 (d := dx_ENoAlternative) rfl
  have F_ENoAlternative : FunD K "__init__" "NoAlternative.__init__" (initA ⟨48, 17, 48, 21⟩ ⟨48, 23, 48, 28⟩) (initB ⟨49, 8, 49, 12⟩ ⟨49, 8, 49, 18⟩ ⟨49, 21, 49, 26⟩ ⟨49, 8, 49, 26⟩) initS [] [] (He.ma K (He.ga K "NoAlternative") "__init__") d_ENoAlternative := F_ENoAlternative
  obtain ⟨oc_NoAlternative, od_NoAlternative, sl_NoAlternative, do_NoAlternative, pm_NoAlternative, an_NoAlternative, cd_NoAlternative, ct_NoAlternative, l_NoAlternative, w_NoAlternative⟩ := initX F_ENoAlternative (c.fact 72 (f := fx_72) rfl)
  obtain ⟨d_ENoSet, F_ENoSet⟩ := c.def_ 51 (d := dx_ENoSet) rfl
  have F_ENoSet : FunD K "__init__" "NoSet.__init__" (initA ⟨12, 17, 12, 21⟩ ⟨12, 23, 12, 28⟩) (initB ⟨13, 8, 13, 12⟩ ⟨13, 8, 13, 18⟩ ⟨13, 21, 13, 26⟩ ⟨13, 8, 13, 26⟩) initS [] [] (He.ma K (He.ga K "NoSet") "__init__") d_ENoSet := F_ENoSet
  obtain ⟨oc_NoSet, od_NoSet, sl_NoSet, do_NoSet, pm_NoSet, an_NoSet, cd_NoSet, ct_NoSet, l_NoSet, w_NoSet⟩ := initX F_ENoSet (c.fact 73 (f := fx_73) rfl)
  obtain ⟨d_ENoVersion, F_ENoVersion⟩ := c.def_ 52 (d := dx_ENoVersion) rfl
  have F_ENoVersion : FunD K "__init__" "NoVersion.__init__" (initA ⟨56, 17, 56, 21⟩ ⟨56, 23, 56, 28⟩) (initB ⟨57, 8, 57, 12⟩ ⟨57, 8, 57, 18⟩ ⟨57, 21, 57, 26⟩ ⟨57, 8, 57, 26⟩) initS [] [] (He.ma K (He.ga K "NoVersion") "__init__") d_ENoVersion := F_ENoVersion
  obtain ⟨oc_NoVersion, od_NoVersion, sl_NoVersion, do_NoVersion, pm_NoVersion, an_NoVersion, cd_NoVersion, ct_NoVersion, l_NoVersion, w_NoVersion⟩ := initX F_ENoVersion (c.fact 74 (f := fx_74) rfl)
  obtain ⟨d_ESameAlternative, F_ESameAlternative⟩ := c.def_ 53 (d := dx_ESameAlternative) rfl
  have F_ESameAlternative : FunD K "__init__" "SameAlternative.__init__" (initA ⟨16, 17, 16, 21⟩ ⟨16, 23, 16, 28⟩) (initB ⟨17, 8, 17, 12⟩ ⟨17, 8, 17, 18⟩ ⟨17, 21, 17, 26⟩ ⟨17, 8, 17, 26⟩) initS [] [] (He.ma K (He.ga K "SameAlternative") "__init__") d_ESameAlternative := F_ESameAlternative
  obtain ⟨oc_SameAlternative, od_SameAlternative, sl_SameAlternative, do_SameAlternative, pm_SameAlternative, an_SameAlternative, cd_SameAlternative, ct_SameAlternative, l_SameAlternative, w_SameAlternative⟩ := initX F_ESameAlternative (c.fact 75 (f := fx_75) rfl)
  obtain ⟨d_ETooLarge, F_ETooLarge⟩ := c.def_ 54 (d := dx_ETooLarge) rfl
  have F_ETooLarge : FunD K "__init__" "TooLarge.__init__" (initA_limit ⟨20, 17, 20, 21⟩ ⟨20, 23, 20, 28⟩) (initB_limit ⟨21, 8, 21, 12⟩ ⟨21, 8, 21, 18⟩ ⟨21, 21, 21, 26⟩ ⟨21, 8, 21, 26⟩) initS_limit [] [] (He.ma K (He.ga K "TooLarge") "__init__") d_ETooLarge := F_ETooLarge
  obtain ⟨oc_TooLarge, od_TooLarge, sl_TooLarge, do_TooLarge, pm_TooLarge, an_TooLarge, cd_TooLarge, ct_TooLarge, l_TooLarge, w_TooLarge⟩ := initX F_ETooLarge (c.fact 76 (f := fx_76) rfl)
  obtain ⟨t_MAX_SIZE, y_MAX_SIZE⟩ := giB_ok (c.fact 77 (f := fx_77) rfl)
  obtain ⟨t_EDITS, y_EDITS⟩ := giB_ok (c.fact 78 (f := fx_78) rfl)
  obtain ⟨t_BATCH, y_BATCH⟩ := giB_ok (c.fact 79 (f := fx_79) rfl)
  exact all_mk (l := l) (w := w) X G hfa
    ⟨(of_decide_eq_true (c.fact 0 (f := fx_0) rfl)), in1X F_is_integer⟩
    ⟨(of_decide_eq_true (c.fact 1 (f := fx_1) rfl)), in1X F_is_alternative⟩
    ⟨(of_decide_eq_true (c.fact 2 (f := fx_2) rfl)), in1X F_is_set⟩
    ⟨(of_decide_eq_true (c.fact 3 (f := fx_3) rfl)), in1X F_require_alternative⟩
    ⟨(of_decide_eq_true (c.fact 4 (f := fx_4) rfl)), in1X F_table_error⟩
    ⟨(of_decide_eq_true (c.fact 5 (f := fx_5) rfl)), in1X F_row_error⟩
    ⟨(of_decide_eq_true (c.fact 6 (f := fx_6) rfl)), in1X F_sign_error⟩
    ⟨(of_decide_eq_true (c.fact 7 (f := fx_7) rfl)), in1X F_pair_error⟩
    ⟨(of_decide_eq_true (c.fact 8 (f := fx_8) rfl)), in1X F_outsiders⟩
    ⟨(of_decide_eq_true (c.fact 9 (f := fx_9) rfl)), in1X F_pick_table⟩
    ⟨(of_decide_eq_true (c.fact 10 (f := fx_10) rfl)), in1X F_turn_duel⟩
    ⟨(of_decide_eq_true (c.fact 11 (f := fx_11) rfl)), in1X F_turn_sign⟩
    ⟨(of_decide_eq_true (c.fact 12 (f := fx_12) rfl)), in1X F_edited_table⟩
    ⟨(of_decide_eq_true (c.fact 13 (f := fx_13) rfl)), in1X F_with_another⟩
    ⟨(of_decide_eq_true (c.fact 14 (f := fx_14) rfl)), in1X F_without_one⟩
    ⟨(of_decide_eq_true (c.fact 15 (f := fx_15) rfl)), in1X F__law_stream⟩
    ⟨(of_decide_eq_true (c.fact 16 (f := fx_16) rfl)), in1X F__law_take⟩
    ⟨(of_decide_eq_true (c.fact 17 (f := fx_17) rfl)), in1X F__law_from⟩
    ⟨(of_decide_eq_true (c.fact 18 (f := fx_18) rfl)), in1X F__law_equal⟩
    ⟨(of_decide_eq_true (c.fact 19 (f := fx_19) rfl)), in1X F__law_table⟩
    ⟨(of_decide_eq_true (c.fact 20 (f := fx_20) rfl)), in1X F__law_wins⟩
    ⟨(of_decide_eq_true (c.fact 21 (f := fx_21) rfl)), in1X F__law_is_set⟩
    ⟨(of_decide_eq_true (c.fact 22 (f := fx_22) rfl)), in1X F__law_turned⟩
    ⟨(of_decide_eq_true (c.fact 23 (f := fx_23) rfl)), in1X F__law_grown⟩
    ⟨(of_decide_eq_true (c.fact 24 (f := fx_24) rfl)), in1X F__law_shrunk⟩
    ⟨(of_decide_eq_true (c.fact 25 (f := fx_25) rfl)), in1X F__law_due⟩
    ⟨(of_decide_eq_true (c.fact 26 (f := fx_26) rfl)), in1X F__law_do⟩
    ⟨(of_decide_eq_true (c.fact 29 (f := fx_29) rfl)), in1X F__law_text⟩
    ⟨(of_decide_eq_true (c.fact 30 (f := fx_30) rfl)), in1X F__law_seen⟩
    ⟨(of_decide_eq_true (c.fact 31 (f := fx_31) rfl)), in1X F__law_due_seen⟩
    ⟨(of_decide_eq_true (c.fact 32 (f := fx_32) rfl)), in1X F_law⟩
    y_MAX_SIZE
    y_EDITS
    y_BATCH
    (of_decide_eq_true (c.fact 80 (f := fx_80) rfl))
    (of_decide_eq_true (c.fact 81 (f := fx_81) rfl))
    (of_decide_eq_true (c.fact 82 (f := fx_82) rfl))
    (of_decide_eq_true (c.fact 83 (f := fx_83) rfl))
    (of_decide_eq_true (c.fact 84 (f := fx_84) rfl))
    (of_decide_eq_true (c.fact 85 (f := fx_85) rfl))
    (of_decide_eq_true (c.fact 86 (f := fx_86) rfl))
    (of_decide_eq_true (c.fact 87 (f := fx_87) rfl))
    (of_decide_eq_true (c.fact 88 (f := fx_88) rfl))
    (of_decide_eq_true (c.fact 89 (f := fx_89) rfl))
    (of_decide_eq_true (c.fact 90 (f := fx_90) rfl))
    (of_decide_eq_true (c.fact 91 (f := fx_91) rfl))
    (of_decide_eq_true (c.fact 92 (f := fx_92) rfl))
    (of_decide_eq_true (c.fact 93 (f := fx_93) rfl))
    (of_decide_eq_true (c.fact 94 (f := fx_94) rfl))
    (of_decide_eq_true (c.fact 95 (f := fx_95) rfl))
    (of_decide_eq_true (c.fact 96 (f := fx_96) rfl))
    (of_decide_eq_true (c.fact 97 (f := fx_97) rfl))
    (of_decide_eq_true (c.fact 98 (f := fx_98) rfl))
    (of_decide_eq_true (c.fact 99 (f := fx_99) rfl))
    (of_decide_eq_true (c.fact 100 (f := fx_100) rfl))
    (of_decide_eq_true (c.fact 101 (f := fx_101) rfl))
    (of_decide_eq_true (c.fact 102 (f := fx_102) rfl))
    (of_decide_eq_true (c.fact 103 (f := fx_103) rfl))
    (of_decide_eq_true (c.fact 104 (f := fx_104) rfl))
    (of_decide_eq_true (c.fact 105 (f := fx_105) rfl))
    (of_decide_eq_true (c.fact 106 (f := fx_106) rfl))
    (of_decide_eq_true (c.fact 107 (f := fx_107) rfl))
    (of_decide_eq_true (c.fact 108 (f := fx_108) rfl))
    (of_decide_eq_true (c.fact 109 (f := fx_109) rfl))
    (of_decide_eq_true (c.fact 110 (f := fx_110) rfl))
    (of_decide_eq_true (c.fact 111 (f := fx_111) rfl))
    (of_decide_eq_true (c.fact 112 (f := fx_112) rfl))
    (of_decide_eq_true (c.fact 113 (f := fx_113) rfl))
    (of_decide_eq_true (c.fact 114 (f := fx_114) rfl))
    (of_decide_eq_true (c.fact 115 (f := fx_115) rfl))
    (of_decide_eq_true (c.fact 116 (f := fx_116) rfl))
    (of_decide_eq_true (c.fact 117 (f := fx_117) rfl))
    (of_decide_eq_true (c.fact 118 (f := fx_118) rfl))
    (of_decide_eq_true (c.fact 119 (f := fx_119) rfl))
    (of_decide_eq_true (c.fact 120 (f := fx_120) rfl))
    (of_decide_eq_true (c.fact 121 (f := fx_121) rfl))
    (of_decide_eq_true (c.fact 122 (f := fx_122) rfl))
    (of_decide_eq_true (c.fact 123 (f := fx_123) rfl))
    (of_decide_eq_true (c.fact 124 (f := fx_124) rfl))
    (of_decide_eq_true (c.fact 125 (f := fx_125) rfl))
    l_BadTable
    w_BadTable
    (of_decide_eq_true (c.fact 126 (f := fx_126) rfl))
    (of_decide_eq_true (c.fact 127 (f := fx_127) rfl))
    (of_decide_eq_true (c.fact 128 (f := fx_128) rfl))
    (of_decide_eq_true (c.fact 129 (f := fx_129) rfl))
    (of_decide_eq_true (c.fact 130 (f := fx_130) rfl))
    (of_decide_eq_true (c.fact 131 (f := fx_131) rfl))
    (of_decide_eq_true (c.fact 116 (f := fx_116) rfl))
    (of_decide_eq_true (c.fact 117 (f := fx_117) rfl))
    (of_decide_eq_true (c.fact 132 (f := fx_132) rfl))
    (of_decide_eq_true (c.fact 133 (f := fx_133) rfl))
    (of_decide_eq_true (c.fact 134 (f := fx_134) rfl))
    (of_decide_eq_true (c.fact 135 (f := fx_135) rfl))
    (of_decide_eq_true (c.fact 136 (f := fx_136) rfl))
    (of_decide_eq_true (c.fact 137 (f := fx_137) rfl))
    (of_decide_eq_true (c.fact 138 (f := fx_138) rfl))
    (of_decide_eq_true (c.fact 139 (f := fx_139) rfl))
    (of_decide_eq_true (c.fact 140 (f := fx_140) rfl))
    (of_decide_eq_true (c.fact 116 (f := fx_116) rfl))
    (of_decide_eq_true (c.fact 117 (f := fx_117) rfl))
    (of_decide_eq_true (c.fact 141 (f := fx_141) rfl))
    (of_decide_eq_true (c.fact 142 (f := fx_142) rfl))
    (of_decide_eq_true (c.fact 143 (f := fx_143) rfl))
    (of_decide_eq_true (c.fact 144 (f := fx_144) rfl))
    (of_decide_eq_true (c.fact 145 (f := fx_145) rfl))
    (of_decide_eq_true (c.fact 146 (f := fx_146) rfl))
    (of_decide_eq_true (c.fact 147 (f := fx_147) rfl))
    (of_decide_eq_true (c.fact 148 (f := fx_148) rfl))
    (of_decide_eq_true (c.fact 149 (f := fx_149) rfl))
    (of_decide_eq_true (c.fact 116 (f := fx_116) rfl))
    (of_decide_eq_true (c.fact 117 (f := fx_117) rfl))
    (of_decide_eq_true (c.fact 150 (f := fx_150) rfl))
    (of_decide_eq_true (c.fact 151 (f := fx_151) rfl))
    (of_decide_eq_true (c.fact 152 (f := fx_152) rfl))
    (of_decide_eq_true (c.fact 153 (f := fx_153) rfl))
    (of_decide_eq_true (c.fact 154 (f := fx_154) rfl))
    (of_decide_eq_true (c.fact 155 (f := fx_155) rfl))
    (of_decide_eq_true (c.fact 156 (f := fx_156) rfl))
    (of_decide_eq_true (c.fact 157 (f := fx_157) rfl))
    l_NoAlternative
    w_NoAlternative
    (of_decide_eq_true (c.fact 158 (f := fx_158) rfl))
    (of_decide_eq_true (c.fact 159 (f := fx_159) rfl))
    (of_decide_eq_true (c.fact 160 (f := fx_160) rfl))
    (of_decide_eq_true (c.fact 161 (f := fx_161) rfl))
    (of_decide_eq_true (c.fact 162 (f := fx_162) rfl))
    (of_decide_eq_true (c.fact 163 (f := fx_163) rfl))
    (of_decide_eq_true (c.fact 116 (f := fx_116) rfl))
    (of_decide_eq_true (c.fact 117 (f := fx_117) rfl))
    (of_decide_eq_true (c.fact 164 (f := fx_164) rfl))
    (of_decide_eq_true (c.fact 165 (f := fx_165) rfl))
    (of_decide_eq_true (c.fact 166 (f := fx_166) rfl))
    (of_decide_eq_true (c.fact 167 (f := fx_167) rfl))
    (of_decide_eq_true (c.fact 168 (f := fx_168) rfl))
    (of_decide_eq_true (c.fact 169 (f := fx_169) rfl))
    (of_decide_eq_true (c.fact 170 (f := fx_170) rfl))
    (of_decide_eq_true (c.fact 171 (f := fx_171) rfl))
    l_NoSet
    w_NoSet
    (of_decide_eq_true (c.fact 172 (f := fx_172) rfl))
    (of_decide_eq_true (c.fact 173 (f := fx_173) rfl))
    (of_decide_eq_true (c.fact 174 (f := fx_174) rfl))
    (of_decide_eq_true (c.fact 175 (f := fx_175) rfl))
    (of_decide_eq_true (c.fact 176 (f := fx_176) rfl))
    (of_decide_eq_true (c.fact 177 (f := fx_177) rfl))
    (of_decide_eq_true (c.fact 116 (f := fx_116) rfl))
    (of_decide_eq_true (c.fact 117 (f := fx_117) rfl))
    (of_decide_eq_true (c.fact 178 (f := fx_178) rfl))
    (of_decide_eq_true (c.fact 179 (f := fx_179) rfl))
    (of_decide_eq_true (c.fact 180 (f := fx_180) rfl))
    (of_decide_eq_true (c.fact 181 (f := fx_181) rfl))
    (of_decide_eq_true (c.fact 182 (f := fx_182) rfl))
    (of_decide_eq_true (c.fact 183 (f := fx_183) rfl))
    (of_decide_eq_true (c.fact 184 (f := fx_184) rfl))
    (of_decide_eq_true (c.fact 185 (f := fx_185) rfl))
    l_NoVersion
    w_NoVersion
    (of_decide_eq_true (c.fact 186 (f := fx_186) rfl))
    (of_decide_eq_true (c.fact 187 (f := fx_187) rfl))
    (of_decide_eq_true (c.fact 188 (f := fx_188) rfl))
    (of_decide_eq_true (c.fact 189 (f := fx_189) rfl))
    (of_decide_eq_true (c.fact 190 (f := fx_190) rfl))
    (of_decide_eq_true (c.fact 191 (f := fx_191) rfl))
    (of_decide_eq_true (c.fact 116 (f := fx_116) rfl))
    (of_decide_eq_true (c.fact 117 (f := fx_117) rfl))
    (of_decide_eq_true (c.fact 192 (f := fx_192) rfl))
    (of_decide_eq_true (c.fact 193 (f := fx_193) rfl))
    (of_decide_eq_true (c.fact 194 (f := fx_194) rfl))
    (of_decide_eq_true (c.fact 195 (f := fx_195) rfl))
    (of_decide_eq_true (c.fact 196 (f := fx_196) rfl))
    (of_decide_eq_true (c.fact 197 (f := fx_197) rfl))
    (of_decide_eq_true (c.fact 198 (f := fx_198) rfl))
    (of_decide_eq_true (c.fact 199 (f := fx_199) rfl))
    l_SameAlternative
    w_SameAlternative
    (of_decide_eq_true (c.fact 200 (f := fx_200) rfl))
    (of_decide_eq_true (c.fact 201 (f := fx_201) rfl))
    (of_decide_eq_true (c.fact 202 (f := fx_202) rfl))
    (of_decide_eq_true (c.fact 203 (f := fx_203) rfl))
    (of_decide_eq_true (c.fact 204 (f := fx_204) rfl))
    (of_decide_eq_true (c.fact 205 (f := fx_205) rfl))
    (of_decide_eq_true (c.fact 116 (f := fx_116) rfl))
    (of_decide_eq_true (c.fact 117 (f := fx_117) rfl))
    (of_decide_eq_true (c.fact 206 (f := fx_206) rfl))
    (of_decide_eq_true (c.fact 207 (f := fx_207) rfl))
    (of_decide_eq_true (c.fact 208 (f := fx_208) rfl))
    (of_decide_eq_true (c.fact 209 (f := fx_209) rfl))
    (of_decide_eq_true (c.fact 210 (f := fx_210) rfl))
    (of_decide_eq_true (c.fact 211 (f := fx_211) rfl))
    (of_decide_eq_true (c.fact 212 (f := fx_212) rfl))
    (of_decide_eq_true (c.fact 213 (f := fx_213) rfl))
    l_TooLarge
    w_TooLarge
    (of_decide_eq_true (c.fact 214 (f := fx_214) rfl))
    (of_decide_eq_true (c.fact 215 (f := fx_215) rfl))
    (of_decide_eq_true (c.fact 216 (f := fx_216) rfl))
    (of_decide_eq_true (c.fact 217 (f := fx_217) rfl))
    (of_decide_eq_true (c.fact 218 (f := fx_218) rfl))
    (of_decide_eq_true (c.fact 219 (f := fx_219) rfl))
    (of_decide_eq_true (c.fact 116 (f := fx_116) rfl))
    (of_decide_eq_true (c.fact 117 (f := fx_117) rfl))
    (of_decide_eq_true (c.fact 220 (f := fx_220) rfl))
    (of_decide_eq_true (c.fact 221 (f := fx_221) rfl))
    (of_decide_eq_true (c.fact 222 (f := fx_222) rfl))
    ⟨(of_decide_eq_true (c.fact 33 (f := fx_33) rfl)), (c.fact 34 (f := fx_34) rfl), in1X F_Bench___init__⟩
    ⟨⟨(of_decide_eq_true (c.fact 35 (f := fx_35) rfl)), (of_decide_eq_true (c.fact 36 (f := fx_36) rfl)), (of_decide_eq_true (c.fact 37 (f := fx_37) rfl)), pgB_ok (c.fact 38 (f := fx_38) rfl)⟩, in1X F_Bench_version⟩
    ⟨⟨(of_decide_eq_true (c.fact 39 (f := fx_39) rfl)), (of_decide_eq_true (c.fact 40 (f := fx_40) rfl)), (of_decide_eq_true (c.fact 41 (f := fx_41) rfl)), pgB_ok (c.fact 42 (f := fx_42) rfl)⟩, in1X F_Bench_size⟩
    ⟨⟨(of_decide_eq_true (c.fact 43 (f := fx_43) rfl)), (of_decide_eq_true (c.fact 44 (f := fx_44) rfl)), (of_decide_eq_true (c.fact 45 (f := fx_45) rfl)), pgB_ok (c.fact 46 (f := fx_46) rfl)⟩, in1X F_Bench_kind⟩
    ⟨(of_decide_eq_true (c.fact 47 (f := fx_47) rfl)), (c.fact 48 (f := fx_48) rfl), in1X F_Bench_turn⟩
    ⟨(of_decide_eq_true (c.fact 49 (f := fx_49) rfl)), (c.fact 50 (f := fx_50) rfl), in1X F_Bench_add⟩
    ⟨(of_decide_eq_true (c.fact 51 (f := fx_51) rfl)), (c.fact 52 (f := fx_52) rfl), in1X F_Bench_remove⟩
    ⟨(of_decide_eq_true (c.fact 53 (f := fx_53) rfl)), (c.fact 54 (f := fx_54) rfl), in1X F_Bench_edit_once⟩
    ⟨(of_decide_eq_true (c.fact 55 (f := fx_55) rfl)), (c.fact 56 (f := fx_56) rfl), in1X F_Bench_do_edit⟩
    ⟨(of_decide_eq_true (c.fact 57 (f := fx_57) rfl)), (c.fact 58 (f := fx_58) rfl), in1X F_Bench_require_fit⟩
    ⟨(of_decide_eq_true (c.fact 59 (f := fx_59) rfl)), (c.fact 60 (f := fx_60) rfl), in1X F_Bench_require_free⟩
    ⟨(of_decide_eq_true (c.fact 61 (f := fx_61) rfl)), (c.fact 62 (f := fx_62) rfl), in1X F_Bench_state_at⟩
    ⟨(of_decide_eq_true (c.fact 63 (f := fx_63) rfl)), (c.fact 64 (f := fx_64) rfl), in1X F_Bench_table⟩
    (F_Bench_table.binds0 (ps := ["self", "version"]) 1 (by simp) rfl fun _ _ _ _ _ _ us ks hl hk => match us, hl, ks, hk with | [_], _, [_], _ => ⟨_, _, _, _, _, _, rfl, rfl, rfl⟩)
    ⟨(of_decide_eq_true (c.fact 65 (f := fx_65) rfl)), (c.fact 66 (f := fx_66) rfl), in1X F_Bench_edits⟩
    ⟨(of_decide_eq_true (c.fact 67 (f := fx_67) rfl)), (c.fact 68 (f := fx_68) rfl), in1X F_Bench___len__⟩
    ⟨(of_decide_eq_true (c.fact 69 (f := fx_69) rfl)), (c.fact 70 (f := fx_70) rfl), in1X F_Bench___str__⟩
    (of_decide_eq_true (c.fact 223 (f := fx_223) rfl))
    (of_decide_eq_true (c.fact 224 (f := fx_224) rfl))
    (of_decide_eq_true (c.fact 225 (f := fx_225) rfl))
    (of_decide_eq_true (c.fact 226 (f := fx_226) rfl))
    (of_decide_eq_true (c.fact 227 (f := fx_227) rfl))
    (of_decide_eq_true (c.fact 228 (f := fx_228) rfl))
    (of_decide_eq_true (c.fact 229 (f := fx_229) rfl))
    (of_decide_eq_true (c.fact 230 (f := fx_230) rfl))
    (of_decide_eq_true (c.fact 231 (f := fx_231) rfl))
    (of_decide_eq_true (c.fact 232 (f := fx_232) rfl))
    (of_decide_eq_true (c.fact 233 (f := fx_233) rfl))
    ⟨(of_decide_eq_true (c.fact 27 (f := fx_27) rfl)), F__law_some_edit⟩
    ⟨(of_decide_eq_true (c.fact 28 (f := fx_28) rfl)), F__law_valid_edit⟩
end DS
open PySem PySem.W PySem.Calls PyProof.Rows
set_option maxHeartbeats 0 in
theorem PySem.Challenge.cw_duelsets_k60_benches_and_edits_holds : PySem.Challenge.rw_duelsets_k60_benches_and_edits.Holds := by
  w_on; o_law
  refine HandSHeadRun.head_any (r := OpenLaw.row PySem.Challenge.rw_duelsets_k60_benches_and_edits) (q := view (OpenLaw.row PySem.Challenge.rw_duelsets_k60_benches_and_edits).prog [103]) (H := DS.hkX) (ob := DS.obX) (M := 12000) (loose := DS.looseX) (d := HandSHeadRun.topDef (OpenLaw.row PySem.Challenge.rw_duelsets_k60_benches_and_edits).prog 103) (kwd := []) DS.obX_eq
    (by kernel_rfl) (fun s => by kernel_rfl) DS.runX (by kernel_rfl) (by kernel_rfl) (by kernel_rfl) (by rfl) (by first | assumption | decide +kernel) (by decide +kernel) ⟨rfl, rfl, rfl, rfl, rfl, by decide +kernel⟩ ?hw ?hc
  case hw => w_witness2
  case hc =>
    refine DS.walk_topE (l := PySem.Challenge.rw_duelsets_k60_benches_and_edits) (n := 63) (k := 10) (x := "_law_script") rfl (by decide) (by kernel_rfl) ⟨rfl, by decide, by decide⟩ ?F
    intro w mg fa h Y G hmg0
    obtain ⟨K, KX, c⟩ := Y
    have hmg : mg ("law" : PySem.Str) = some (.ref fa) := by
      have e : (HandSHeadRun.topDef (OpenLaw.row PySem.Challenge.rw_duelsets_k60_benches_and_edits).prog 103).name = ("law" : PySem.Str) := by kernel_rfl
      rw [← e]
      exact hmg0
    obtain ⟨fd, hb, hF⟩ := DS.factsX (l := PySem.Challenge.rw_duelsets_k60_benches_and_edits) (w := w) KX G hmg c
    exact ⟨K, fd, DS.spLaw K, KX, hb, fun H a ns hl _ hS => ⟨a, ns, rfl, hS, hl, fun _ => rfl⟩, hF⟩
