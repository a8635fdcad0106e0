import PyProof.Rows.All
import Wide.All
import OpenK.AllK
import Wide.FinOn
import KE.KStateDown
import HandS.ForExc
import HandS.Comp
import HandS.Dict
import HandS.Iter
import HandS.Text
import HandS.Flow
import HandS.Evl
import HandS.IsInst
import HandS.Wide
import HandS.WideBits
import HandS.Defaults
import HandS.Property
import HandS.ExcInit
import HandS.ExcInitHot
import HandS.More
import HandS.Head0
import HandS.Head1
import HandS.Head2
import HandS.HeadEnd
import HandS.HeadHook1
import HandS.HeadHook2
import HandS.HeadNt
import HandS.Zip
import HandS.DictComp
import HandS.FStr
import HandS.Lambda
import HandS.SortInts
import HandS.TupLe
import HandS.TupAny
import HandS.Walk
import HandS.Style
import HandS.MakeKwOnly
import PyProof.ReprRoads
import KE.KDictZip
import PyProof.ListNew
import HandS.Conv
import KE.GoesZip
import KE.GoesEnum
import KE.GoesMore
import HandS.Deep
import HandS.RevRange
import HandS.RaiseMore
import HandS.Steps
import HandS.CallLocal
import PyProof.InstEq
import HandS.SortRule
import HandS.List
import HandS.Exc
import HandS.ExcOwn
import HandS.TryOnly
import HandS.WordsExc
import PyProof.ExcBaseAll.RuntimeError
import PySem.Challenge.RW_turnpowers_k12_any_value_as_modulus
set_option Elab.async false
set_option linter.all false
set_option maxRecDepth 100000
/-! TPHead -/
set_option maxHeartbeats 4000000
/-! # What stands behind the top of a text: facts by names, with an own look beside them -/
namespace TP
open PySem PySem.Spec PyProof.Rows L2
abbrev Fr := PySem.W.Frag
abbrev AlM : Type := He.AlD × Bool
def obsM (fa : List He.Fa) (fn : List He5.DefA) (ex : Fr → Bool) (K : Fr) : AlM := (He5.obsA fa fn K, ex K)
def SaysM (fa : List He.Fa) (fn : List He5.DefA) (ex : Fr → Bool) (K : Fr) : Prop := He5.SaysA fa fn K ∧ ex K = true
def obsMG (n : Nat) (fa : List He.Fa) (fn : List He5.DefA) (ex : Fr → Bool) (g : Addr → Option Obj) : AlM := obsM fa fn ex (He.frG g (He.asD g n))
def hookM (n : Nat) (fa : List He.Fa) (fn : List He5.DefA) (ex : Fr → Bool) : PySem.W.Hook where
  α := AlM
  obs := fun s => obsMG n fa fn ex s.heap.get?
  val := fun _ => (He5.valA fn, true)
  says := fun _ h => ∃ K : Fr, K.In h ∧ SaysM fa fn ex K
  of := fun _ _ e => ⟨_, He.frG_in, congrArg (fun z : AlM => z.1) e, congrArg (fun z : AlM => z.2) e⟩
  keeps := fun _ _ _ ⟨K, hK, c⟩ k => ⟨K, PySem.W.Frag.In.keeps hK k, c⟩
/-- the getter behind a property -/
def gtr (K : Fr) (C f : Str) : Addr := match PySem.W.findIn K (.ref (He.ga K C)) f with
  | some (some (.ref p)) => (match PySem.W.recIn K p "property" with
    | some (.ref g :: _) => g
    | _ => 0)
  | _ => 0
end TP
/-! TPHd -/
set_option maxHeartbeats 4000000
/-! # The look behind the top, its addresses gathered by a tree of those seen -/
namespace TP
open PySem PySem.Spec PyProof.Rows L2
inductive Tr where
  | nil
  | node (b : Bool) (l r : Tr)
def Tr.has : Tr → Nat → Bool
  | .nil, _ => false
  | .node b l r, i => match Nat.beq i 0 with
    | true => b
    | false => match Nat.beq (i % 2) 1 with
      | true => l.has (i / 2)
      | false => r.has (i / 2 - 1)
/-- to so many levels -/
def Tr.put : Nat → Tr → Nat → Tr
  | 0, t, _ => t
  | n + 1, .nil, i => match Nat.beq i 0 with
    | true => .node true .nil .nil
    | false => match Nat.beq (i % 2) 1 with
      | true => .node false (Tr.put n .nil (i / 2)) .nil
      | false => .node false .nil (Tr.put n .nil (i / 2 - 1))
  | n + 1, .node b l r, i => match Nat.beq i 0 with
    | true => .node true l r
    | false => match Nat.beq (i % 2) 1 with
      | true => .node b (Tr.put n l (i / 2)) r
      | false => .node b l (Tr.put n r (i / 2 - 1))
/-- those not seen yet, the tree with them -/
def fresh {β : Type} : List Addr → Tr → List Addr → (Tr → List Addr → β) → β
  | [], t, acc, k => k t acc
  | a :: r, t, acc, k => match t.has a with
    | true => fresh r t acc k
    | false => HandSHeadRun.frNat a fun a => fresh r (Tr.put 24 t a) (a :: acc) k
def outs (g : Addr → Option Obj) : List Addr → List Addr
  | [] => []
  | a :: r => match g a with
    | some o => He.refsD o ++ outs g r
    | none => outs g r
def asB (g : Addr → Option Obj) : Nat → Tr → List Addr → List Addr
  | 0, _, fr => fr
  | n + 1, t, fr => fr ++ fresh (outs g fr) t [] fun t' new => asB g n t' new
def obsNG (n : Nat) (fa : List He.Fa) (fn : List He5.DefA) (ex : Fr → Bool) (g : Addr → Option Obj) : AlM := obsM fa fn ex (He.frG g (asB g n (Tr.put 24 .nil mainGlobals) [mainGlobals]))
def hookN (n : Nat) (fa : List He.Fa) (fn : List He5.DefA) (ex : Fr → Bool) : PySem.W.Hook where
  α := AlM
  obs := fun s => obsNG n fa fn ex s.heap.get?
  val := fun _ => (He5.valA fn, true)
  says := fun _ h => ∃ K : Fr, K.In h ∧ SaysM fa fn ex K
  of := fun _ _ e => ⟨_, He.frG_in, congrArg (fun z : AlM => z.1) e, congrArg (fun z : AlM => z.2) e⟩
  keeps := fun _ _ _ ⟨K, hK, c⟩ k => ⟨K, PySem.W.Frag.In.keeps hK k, c⟩
theorem obsNG_eq {n : Nat} {fa : List He.Fa} {fn : List He5.DefA} {ex : Fr → Bool} {g : Addr → Option Obj} {s : Shared} (h : ∀ a, g a = s.heap.get? a) : obsNG n fa fn ex g = (hookN n fa fn ex).obs s := by
  have e : g = s.heap.get? := funext h
  rw [e] <;> rfl
end TP
/-! TPHk -/
set_option maxHeartbeats 4000000
/-! # Looks of one's own: properties, classes whose objects have attributes, their != -/
namespace TP
open PySem PySem.Spec PyProof.Rows L2
def propB (K : Fr) (C f : Str) : Bool := match PySem.W.findIn K (.ref (He.ga K C)) f with
  | some (some (.ref p)) => (match PySem.W.specialIn K (.ref p) "__get__" with
    | some (some (.builtin n)) => decide (n = "property.__get__")
    | _ => false) && ((match PySem.W.takesIn K (.ref p) with
    | some true => true
    | _ => false) && (match PySem.W.recIn K p "property" with
    | some (.ref _ :: _) => true
    | _ => false))
  | _ => false
def obB (K : Fr) (C : Str) (ns : List Str) : Bool := (He.Fa.cls C).ok K && ((ns.all fun n => (He.Fa.noat C n).ok K) &&
  (He.eqO (PySem.W.findIn K (.ref (He.ga K C)) "__class__") (some (some (.builtin "object.__class__"))) && (He.eqO (PySem.W.specialIn K (.builtin "object.__class__") "__get__") (some (some (.builtin "getset_descriptor.__get__"))) &&
  (decide (PySem.W.takesIn K (.builtin "object.__class__") = some true) && decide (PySem.W.mroIn K (He.ga K C) (.type "object") = some true)))))
def neB (K : Fr) (C : Str) : Bool := He.eqO (PySem.W.findIn K (.ref (He.ga K C)) "__ne__") (some (some (.builtin "object.__ne__"))) && decide (PySem.W.mroIn K (He.ga K C) (.type "object") = some true)
theorem map_two {σ α β : Type} {o : Option σ} {f : σ → α} {g : σ → β} {a : α} {b : β} (h : o.map f = some a) (h' : o.map g = some b) : o.map (fun s => (f s, g s)) = some (a, b) := by
  cases o with
  | none => cases h
  | some s =>
    have h1 : f s = a := Option.some.inj h
    have h2 : g s = b := Option.some.inj h'
    show some (f s, g s) = _
    rw [h1, h2]
end TP
/-! TPHi -/
set_option maxHeartbeats 4000000
/-! # A look of one's own: a class that isinstance is asked about -/
namespace TP
open PySem PySem.Spec PyProof.Rows L2
def isgB (K : Fr) (C : Str) (os : List Str) : Bool := ((PySem.W.clsIn K (He.ga K C)).isSome && PySem.W.typeIn K (.ref (He.ga K C)) == some (.type "type")) && os.all fun C' => !(Value.ref (He.ga K C') == Value.ref (He.ga K C)) && decide (PySem.W.mroIn K (He.ga K C') (.ref (He.ga K C)) = some false)
end TP
/-! TPHj -/
set_option maxHeartbeats 4000000
/-! # A look of one's own: classes that are no kind of number, text, list, tuple, dict -/
namespace TP
open PySem PySem.Spec PyProof.Rows L2
def tyNs : List String := ["int", "bool", "list", "tuple", "str", "dict"]
def ipB (K : Fr) (os : List Str) : Bool := os.all fun C => tyNs.all fun T => decide (PySem.W.mroIn K (He.ga K C) (.type T) = some false)
end TP
/-! F12 -/
set_option maxHeartbeats 0
namespace TP.K12
end TP.K12
namespace TP.K12.A12
open PySem PySem.Spec PyProof.Rows L2 TP TP.K12

def primesB (K : Fr) : Bool := He.tupB K "PRIMES" [.int 2, .int 3, .int 5, .int 7]
def fieldB (K : Fr) : Bool := (He.Fa.cls "Field").ok K && ((He.Fa.noat "Field" "_prime").ok K && ((He.Fa.noat "Field" "_modulus").ok K && ((He.Fa.noat "Field" "_size").ok K && ((He.Fa.noat "Field" "_units").ok K && ((He.Fa.noat "Field" "_powers").ok K && ((He.Fa.noat "Field" "_exponents").ok K &&
  (He.eqO (PySem.W.findIn K (.ref (He.ga K "Field")) "__class__") (some (some (.builtin "object.__class__"))) && (He.eqO (PySem.W.specialIn K (.builtin "object.__class__") "__get__") (some (some (.builtin "getset_descriptor.__get__"))) &&
  (decide (PySem.W.takesIn K (.builtin "object.__class__") = some true) && decide (PySem.W.mroIn K (He.ga K "Field") (.type "object") = some true))))))))))
def topS (i : Nat) : Stmt := PySem.Challenge.pw_turnpowers_k12_any_value_as_modulus.main.body.getD i (.Pass ⟨0, 0, 0, 0⟩)
abbrev s_is_integer : Stmt := topS 1
abbrev s_is_count : Stmt := topS 2
abbrev s_is_below : Stmt := topS 3
abbrev s_is_list : Stmt := topS 4
abbrev s_are_below : Stmt := topS 5
abbrev s_without_noughts : Stmt := topS 6
abbrev s_product_of : Stmt := topS 11
abbrev s_inverse_of : Stmt := topS 12
abbrev s_rest_of : Stmt := topS 13
abbrev s_common_of : Stmt := topS 14
abbrev s_power_rest : Stmt := topS 15
abbrev s_less_x : Stmt := topS 16
abbrev s_cannot_be_parted : Stmt := topS 17
abbrev s_check_prime : Stmt := topS 21
abbrev s_is_modulus : Stmt := topS 22
abbrev s_law_pot : Stmt := topS 24
abbrev s_law_draw : Stmt := topS 25
abbrev s_law_pick : Stmt := topS 26
abbrev s_law_field : Stmt := topS 27
abbrev s_law_rest : Stmt := topS 28
abbrev s_law_all : Stmt := topS 29
abbrev s_law_is_modulus : Stmt := topS 30
abbrev s_law_times : Stmt := topS 31
abbrev s_law_drawn : Stmt := topS 32
abbrev s_law_right : Stmt := topS 33
abbrev s_law : Stmt := topS 34
theorem sc_is_integer : FnScope ["value"] ["value"] (defScope s_is_integer) := ⟨rfl, rfl, rfl, by decide +kernel, rfl, by decide +kernel, by decide +kernel⟩
theorem sc_is_count : FnScope ["value"] ["value"] (defScope s_is_count) := ⟨rfl, rfl, rfl, by decide +kernel, rfl, by decide +kernel, by decide +kernel⟩
theorem sc_is_below : FnScope ["value", "bound"] ["value", "bound"] (defScope s_is_below) := ⟨rfl, rfl, rfl, by decide +kernel, rfl, by decide +kernel, by decide +kernel⟩
theorem sc_is_list : FnScope ["value"] ["value"] (defScope s_is_list) := ⟨rfl, rfl, rfl, by decide +kernel, rfl, by decide +kernel, by decide +kernel⟩
theorem sc_are_below : FnScope ["value", "bound", "one"] ["value", "bound"] (defScope s_are_below) := ⟨rfl, rfl, rfl, by decide +kernel, rfl, by decide +kernel, by decide +kernel⟩
theorem sc_without_noughts : FnScope ["row", "many"] ["row"] (defScope s_without_noughts) := ⟨rfl, rfl, rfl, by decide +kernel, rfl, by decide +kernel, by decide +kernel⟩
theorem sc_product_of : FnScope ["prime", "one", "other", "sums", "at", "figure", "beside", "factor"] ["prime", "one", "other"] (defScope s_product_of) := ⟨rfl, rfl, rfl, by decide +kernel, rfl, by decide +kernel, by decide +kernel⟩
theorem sc_inverse_of : FnScope ["prime", "figure", "other"] ["prime", "figure"] (defScope s_inverse_of) := ⟨rfl, rfl, rfl, by decide +kernel, rfl, by decide +kernel, by decide +kernel⟩
theorem sc_rest_of : FnScope ["prime", "one", "other", "inverse", "left", "factor", "start", "at", "figure"] ["prime", "one", "other"] (defScope s_rest_of) := ⟨rfl, rfl, rfl, by decide +kernel, rfl, by decide +kernel, by decide +kernel⟩
theorem sc_common_of : FnScope ["prime", "one", "other"] ["prime", "one", "other"] (defScope s_common_of) := ⟨rfl, rfl, rfl, by decide +kernel, rfl, by decide +kernel, by decide +kernel⟩
theorem sc_power_rest : FnScope ["prime", "one", "many", "modulus", "found", "_"] ["prime", "one", "many", "modulus"] (defScope s_power_rest) := ⟨rfl, rfl, rfl, by decide +kernel, rfl, by decide +kernel, by decide +kernel⟩
theorem sc_less_x : FnScope ["prime", "one", "row"] ["prime", "one"] (defScope s_less_x) := ⟨rfl, rfl, rfl, by decide +kernel, rfl, by decide +kernel, by decide +kernel⟩
theorem sc_cannot_be_parted : FnScope ["prime", "modulus", "turned", "_"] ["prime", "modulus"] (defScope s_cannot_be_parted) := ⟨rfl, rfl, rfl, by decide +kernel, rfl, by decide +kernel, by decide +kernel⟩
theorem sc_check_prime : FnScope ["value"] ["value"] (defScope s_check_prime) := ⟨rfl, rfl, rfl, by decide +kernel, rfl, by decide +kernel, by decide +kernel⟩
theorem sc_is_modulus : FnScope ["prime", "value"] ["prime", "value"] (defScope s_is_modulus) := ⟨rfl, rfl, rfl, by decide +kernel, rfl, by decide +kernel, by decide +kernel⟩
theorem sc_law_pot : FnScope ["_law_script", "_law_k", "_law_cell"] ["_law_script", "_law_k"] (defScope s_law_pot) := ⟨rfl, rfl, rfl, by decide +kernel, rfl, by decide +kernel, by decide +kernel⟩
theorem sc_law_draw : FnScope ["_law_pot_here", "_law_sides", "_law_digit"] ["_law_pot_here", "_law_sides"] (defScope s_law_draw) := ⟨rfl, rfl, rfl, by decide +kernel, rfl, by decide +kernel, by decide +kernel⟩
theorem sc_law_pick : FnScope ["_law_pot_here", "_law_some"] ["_law_pot_here", "_law_some"] (defScope s_law_pick) := ⟨rfl, rfl, rfl, by decide +kernel, rfl, by decide +kernel, by decide +kernel⟩
theorem sc_law_field : FnScope ["_law_pot_here", "_law_kept"] ["_law_pot_here"] (defScope s_law_field) := ⟨rfl, rfl, rfl, by decide +kernel, rfl, by decide +kernel, by decide +kernel⟩
theorem sc_law_rest : FnScope ["_law_prime", "_law_figures", "_law_other", "_law_rest_here", "_law_head", "_law_at", "_law_spot", "_law_number"] ["_law_prime", "_law_figures", "_law_other"] (defScope s_law_rest) := ⟨rfl, rfl, rfl, by decide +kernel, rfl, by decide +kernel, by decide +kernel⟩
theorem sc_law_all : FnScope ["_law_prime", "_law_many", "_law_found", "_law_turn", "_law_longer", "_law_figures", "_law_figure"] ["_law_prime", "_law_many"] (defScope s_law_all) := ⟨rfl, rfl, rfl, by decide +kernel, rfl, by decide +kernel, by decide +kernel⟩
theorem sc_law_is_modulus : FnScope ["_law_prime", "_law_value", "_law_many", "_law_other", "_law_one"] ["_law_prime", "_law_value"] (defScope s_law_is_modulus) := ⟨rfl, rfl, rfl, by decide +kernel, rfl, by decide +kernel, by decide +kernel⟩
theorem sc_law_times : FnScope ["_law_prime", "_law_one", "_law_other", "_law_found", "_law_at", "_law_near", "_law_to", "_law_far", "_law_number"] ["_law_prime", "_law_one", "_law_other"] (defScope s_law_times) := ⟨rfl, rfl, rfl, by decide +kernel, rfl, by decide +kernel, by decide +kernel⟩
theorem sc_law_drawn : FnScope ["_law_pot_here", "_law_prime", "_law_most", "_law_turn"] ["_law_pot_here", "_law_prime", "_law_most"] (defScope s_law_drawn) := ⟨rfl, rfl, rfl, by decide +kernel, rfl, by decide +kernel, by decide +kernel⟩
theorem sc_law_right : FnScope ["_law_pot_here", "_law_prime", "_law_modulus", "_law_most", "_law_one", "_law_other", "_law_at", "_law_bent", "_law_values", "_law_shown", "_law_value", "_law_due", "_law_near", "_law_far"] ["_law_pot_here"] (defScope s_law_right) := ⟨rfl, rfl, rfl, by decide +kernel, rfl, by decide +kernel, by decide +kernel⟩
theorem sc_law : FnScope ["_law_script"] ["_law_script"] (defScope s_law) := ⟨rfl, rfl, rfl, by decide +kernel, rfl, by decide +kernel, by decide +kernel⟩
def d_is_integer : He5.DefA := ⟨fun K => He.ga K "is_integer", "is_integer", "is_integer", defArgs s_is_integer, defBody s_is_integer, defScope s_is_integer, [], []⟩
def d_is_count : He5.DefA := ⟨fun K => He.ga K "is_count", "is_count", "is_count", defArgs s_is_count, defBody s_is_count, defScope s_is_count, [], []⟩
def d_is_below : He5.DefA := ⟨fun K => He.ga K "is_below", "is_below", "is_below", defArgs s_is_below, defBody s_is_below, defScope s_is_below, [], []⟩
def d_is_list : He5.DefA := ⟨fun K => He.ga K "is_list", "is_list", "is_list", defArgs s_is_list, defBody s_is_list, defScope s_is_list, [], []⟩
def d_are_below : He5.DefA := ⟨fun K => He.ga K "are_below", "are_below", "are_below", defArgs s_are_below, defBody s_are_below, defScope s_are_below, [], []⟩
def d_without_noughts : He5.DefA := ⟨fun K => He.ga K "without_noughts", "without_noughts", "without_noughts", defArgs s_without_noughts, defBody s_without_noughts, defScope s_without_noughts, [], []⟩
def d_product_of : He5.DefA := ⟨fun K => He.ga K "product_of", "product_of", "product_of", defArgs s_product_of, defBody s_product_of, defScope s_product_of, [], []⟩
def d_inverse_of : He5.DefA := ⟨fun K => He.ga K "inverse_of", "inverse_of", "inverse_of", defArgs s_inverse_of, defBody s_inverse_of, defScope s_inverse_of, [], []⟩
def d_rest_of : He5.DefA := ⟨fun K => He.ga K "rest_of", "rest_of", "rest_of", defArgs s_rest_of, defBody s_rest_of, defScope s_rest_of, [], []⟩
def d_common_of : He5.DefA := ⟨fun K => He.ga K "common_of", "common_of", "common_of", defArgs s_common_of, defBody s_common_of, defScope s_common_of, [], []⟩
def d_power_rest : He5.DefA := ⟨fun K => He.ga K "power_rest", "power_rest", "power_rest", defArgs s_power_rest, defBody s_power_rest, defScope s_power_rest, [], []⟩
def d_less_x : He5.DefA := ⟨fun K => He.ga K "less_x", "less_x", "less_x", defArgs s_less_x, defBody s_less_x, defScope s_less_x, [], []⟩
def d_cannot_be_parted : He5.DefA := ⟨fun K => He.ga K "cannot_be_parted", "cannot_be_parted", "cannot_be_parted", defArgs s_cannot_be_parted, defBody s_cannot_be_parted, defScope s_cannot_be_parted, [], []⟩
def d_check_prime : He5.DefA := ⟨fun K => He.ga K "check_prime", "check_prime", "check_prime", defArgs s_check_prime, defBody s_check_prime, defScope s_check_prime, [], []⟩
def d_is_modulus : He5.DefA := ⟨fun K => He.ga K "is_modulus", "is_modulus", "is_modulus", defArgs s_is_modulus, defBody s_is_modulus, defScope s_is_modulus, [], []⟩
def d_law_pot : He5.DefA := ⟨fun K => He.ga K "_law_pot", "_law_pot", "_law_pot", defArgs s_law_pot, defBody s_law_pot, defScope s_law_pot, [], []⟩
def d_law_draw : He5.DefA := ⟨fun K => He.ga K "_law_draw", "_law_draw", "_law_draw", defArgs s_law_draw, defBody s_law_draw, defScope s_law_draw, [], []⟩
def d_law_pick : He5.DefA := ⟨fun K => He.ga K "_law_pick", "_law_pick", "_law_pick", defArgs s_law_pick, defBody s_law_pick, defScope s_law_pick, [], []⟩
def d_law_field : He5.DefA := ⟨fun K => He.ga K "_law_field", "_law_field", "_law_field", defArgs s_law_field, defBody s_law_field, defScope s_law_field, [], []⟩
def d_law_rest : He5.DefA := ⟨fun K => He.ga K "_law_rest", "_law_rest", "_law_rest", defArgs s_law_rest, defBody s_law_rest, defScope s_law_rest, [], []⟩
def d_law_all : He5.DefA := ⟨fun K => He.ga K "_law_all", "_law_all", "_law_all", defArgs s_law_all, defBody s_law_all, defScope s_law_all, [], []⟩
def d_law_is_modulus : He5.DefA := ⟨fun K => He.ga K "_law_is_modulus", "_law_is_modulus", "_law_is_modulus", defArgs s_law_is_modulus, defBody s_law_is_modulus, defScope s_law_is_modulus, [], []⟩
def d_law_times : He5.DefA := ⟨fun K => He.ga K "_law_times", "_law_times", "_law_times", defArgs s_law_times, defBody s_law_times, defScope s_law_times, [], []⟩
def d_law_drawn : He5.DefA := ⟨fun K => He.ga K "_law_drawn", "_law_drawn", "_law_drawn", defArgs s_law_drawn, defBody s_law_drawn, defScope s_law_drawn, [], []⟩
def d_law_right : He5.DefA := ⟨fun K => He.ga K "_law_right", "_law_right", "_law_right", defArgs s_law_right, defBody s_law_right, defScope s_law_right, [], []⟩
def d_law : He5.DefA := ⟨fun K => He.ga K "law", "law", "law", defArgs s_law, defBody s_law, defScope s_law, [], []⟩
def fn : List He5.DefA := [d_is_integer, d_is_count, d_is_below, d_is_list, d_are_below, d_without_noughts, d_product_of, d_inverse_of, d_rest_of, d_common_of, d_power_rest, d_less_x, d_cannot_be_parted, d_check_prime, d_is_modulus, d_law_pot, d_law_draw, d_law_pick, d_law_field, d_law_rest, d_law_all, d_law_is_modulus, d_law_times, d_law_drawn, d_law_right, d_law]
def fa : List He.Fa := [.glo "is_integer", .glo "is_count", .glo "is_below", .glo "is_list", .glo "are_below", .glo "without_noughts", .glo "product_of", .glo "inverse_of", .glo "rest_of", .glo "common_of", .glo "power_rest", .glo "less_x", .glo "cannot_be_parted", .glo "check_prime", .glo "is_modulus", .glo "_law_pot", .glo "_law_draw", .glo "_law_pick", .glo "_law_field", .glo "_law_rest", .glo "_law_all", .glo "_law_is_modulus", .glo "_law_times", .glo "_law_drawn", .glo "_law_right", .glo "law", .glo "TurnError", .glo "InvalidPrime", .glo "PRIMES", .int "MOST_NUMBERS" 13, .free "isinstance", .free "int", .free "bool", .free "list", .free "tuple", .free "len", .free "all", .free "any", .free "range", .free "enumerate", .free "max", .free "min", .free "abs", .free "sum", .free "divmod", .free "repr", .free "ValueError"]
def ex : Fr → Bool := fun K => (primesB K && ipB K [])
abbrev R : PySem.W.OpenRow := PySem.W.OpenLaw.row PySem.Challenge.rw_turnpowers_k12_any_value_as_modulus
abbrev hk : PySem.W.Hook := hookN 6 fa fn ex
def ob (s : PySem.W.SharedT) : AlM := obsNG 6 fa fn ex (HandSHeadRun.getT s)
theorem ob_eq (s : PySem.W.SharedT) : ob s = hk.obs s.abs := obsNG_eq (HandSHeadRun.getT_eq s)
def nm0 : List Str := ["is_integer", "is_count", "is_below", "is_list", "are_below", "without_noughts", "TurnError", "InvalidPrime", "product_of", "inverse_of", "rest_of", "common_of", "power_rest", "less_x", "cannot_be_parted", "PRIMES", "MOST_NUMBERS", "check_prime", "is_modulus", "_law_pot", "_law_draw", "_law_pick", "_law_field", "_law_rest", "_law_all", "_law_is_modulus", "_law_times", "_law_drawn", "_law_right"]
def nms : List Str := nm0
section
open HandSHeadRun PySem.W PySem.Calls
theorem runA (w : World) (os : OsState) : (endF (stepQ (denQ tabQ) R.prog w) 12000 R.prog w os).map (fun s => looksF R.prog (boot_heap w.params) s.abs) = some true := by kernel_rfl
theorem runB (w : World) (os : OsState) : (endF (stepQ (denQ tabQ) R.prog w) 12000 R.prog w os).map (fun s => seenQ (PySem.W.view R.prog [34]) nms (importedModules R.prog.main.body) (fun s => xlAt (PySem.W.view R.prog [34]) [] s && recOk R.toRowW.records s) s.abs) = some (openGood (PySem.W.view R.prog [34]) nms) := by kernel_rfl
theorem runC (w : World) (os : OsState) : (endF (stepQ (denQ tabQ) R.prog w) 12000 R.prog w os).map (fun s => ob s) = some (hk.val w) := by kernel_rfl
end
theorem run (w : World) : HandSHeadRun.RunEq R (PySem.W.view R.prog [34]) hk ob 12000 nms w := fun os => map_two (runA w os) (map_two (runB w os) (runC w os))

end TP.K12.A12
/-! TPBase -/
set_option maxHeartbeats 4000000
/-! # Readings by short names, promises of defs that only make new things, the pot of draws -/
namespace TP
open PySem PySem.Spec PyProof.Rows L2
/-! ### rules by value, named -/
abbrev rAddI : R2 := rI0 fun i j => .int (i + j)
abbrev rSubI : R2 := rI0 fun i j => .int (i - j)
abbrev rMulI : R2 := rI CMul fun i j => .int (i * j)
abbrev rModI : R2 := rI (fun _ j => 0 < j) fun i j => .int (i % j)
abbrev rFdivI : R2 := rI CDiv fun i j => .int (i / j)
abbrev rPowI : R2 := rI CPow fun i j => .int (i ^ j.toNat)
abbrev rLtI : R2 := rI0 fun i j => .bl (decide (i < j))
abbrev rLeI : R2 := rI0 fun i j => .bl (decide (i ≤ j))
abbrev rGtI : R2 := rI0 fun i j => .bl (decide (j < i))
abbrev rGeI : R2 := rI0 fun i j => .bl (decide (j ≤ i))
abbrev rAddS : R2 := fun x y H Q => ∃ i j, x = .str i ∧ y = .str j ∧ i.length + j.length ≤ sizeLine ∧ Q (.str (i ++ j)) H
abbrev rNeg : V → Hp → VK → Prop := rU fun i => .int (-i)
abbrev rLenA (K : Fr) : List V → Hp → VK → Prop := fun xs H Q => ∃ p ys, xs = [.ref p] ∧ (SqL K H p ys ∨ SqT K H p ys) ∧ Q (.int ys.length) H
abbrev rListA (K : Fr) : List V → Hp → VK → Prop := fun xs H Q => ∃ p ys, xs = [.ref p] ∧ (SqL K H p ys ∨ SqT K H p ys) ∧ ∀ l, H l = none → Q (.ref l) (upd H l (.lst ys))
abbrev rTupA (K : Fr) : List V → Hp → VK → Prop := fun xs H Q => ∃ p ys, xs = [.ref p] ∧ ((SqL K H p ys ∧ ∀ l, H l = none → Q (.ref l) (upd H l (.tup ys))) ∨ (SqT K H p ys ∧ Q (.ref p) H))
abbrev rAbs : List V → Hp → VK → Prop := fun xs H Q => ∃ i, xs = [.int i] ∧ Q (.int (if i < 0 then -i else i)) H
abbrev rMax2 : List V → Hp → VK → Prop := fun xs H Q => ∃ i j, xs = [.int i, .int j] ∧ Q (.int (if j > i then j else i)) H
abbrev rMin2 : List V → Hp → VK → Prop := fun xs H Q => ∃ i j, xs = [.int i, .int j] ∧ Q (.int (if j < i then j else i)) H
abbrev rIntOf : List V → Hp → VK → Prop := fun xs H Q => (∃ i, xs = [.int i] ∧ Q (.int i) H) ∨ ∃ k, xs = [.bl k] ∧ Q (.int (if k then 1 else 0)) H
abbrev rDivmod : List V → Hp → VK → Prop := fun xs H Q => ∃ i j, xs = [.int i, .int j] ∧ CDiv i j ∧ ∀ p, H p = none → Q (.ref p) (upd H p (.tup [.int (i / j), .int (i % j)]))
abbrev tTru (K : Fr) (ta : TE) : TT := fun σ H Q => ta σ H fun x H' => ∃ k, TruV K x H' k ∧ Q k H'
section
variable {X : Cx}
theorem pe_gint {x : Str} {i : Int} {pos : Pos} (h : ∃ t, X.mg x = some (.int i t)) (hg : Gl X x := by rfl) (hd : (x == ("__debug__" : Str)) = false := by decide) : PE X (.Name x pos) (tC (.int i)) := by
  obtain ⟨t, e⟩ := h
  exact pe_glob hg e ⟨t, rfl⟩ hd
end
/-! ### what holds of a heap goes on -/
abbrev Ex := Evl.Ex
abbrev RetV := Evl.RetV
abbrev RetL := Evl.RetL
theorem Ex.refl (H : Hp) : Ex H H := fun _ _ h => h
theorem Ex.trans {H H1 H2 : Hp} (a : Ex H H1) (b : Ex H1 H2) : Ex H H2 := fun x o h => b x o (a x o h)
theorem Ex.new {H : Hp} {p : Addr} {o : HO} (h : H p = none) : Ex H (upd H p o) := Evl.Ex.new h
theorem Ex.mut {H H' : Hp} {p : Addr} {o : HO} (e : Ex H H') (h : H p = none) : Ex H (upd H' p o) := Evl.Ex.mut e h
theorem Ex.seq {K : Fr} {H H' : Hp} {a : Addr} {xs : List V} (e : Ex H H') (h : SqL K H a xs) : SqL K H' a xs := Evl.ex_l e h
theorem Ex.tup {K : Fr} {H H' : Hp} {a : Addr} {xs : List V} (e : Ex H H') (h : SqT K H a xs) : SqT K H' a xs := Evl.ex_t e h
theorem Ex.back {H H' : Hp} {p : Addr} (e : Ex H H') (h : H' p = none) : H p = none := Evl.fresh_back e h
theorem sqL {K : Fr} {H : Hp} {a : Addr} {xs : List V} (h : H a = some (.lst xs)) : SqL K H a xs := .inl (.inl h)
theorem sqT {K : Fr} {H : Hp} {a : Addr} {xs : List V} (h : H a = some (.tup xs)) : SqT K H a xs := .inl (.inl h)
theorem genE {H H1 : Hp} {p : Addr} {o : HO} (E : upd H p o = H1) (n : H p = none) : Ex H H1 := E ▸ Ex.new n
theorem genS {H H1 : Hp} {p : Addr} {o : HO} (E : upd H p o = H1) : H1 p = some o := E ▸ upd_same
/-! ### either a list or a tuple -/
def SqA (K : Fr) (H : Hp) (a : Addr) (xs : List V) : Prop := SqL K H a xs ∨ SqT K H a xs
theorem Ex.any {K : Fr} {H H' : Hp} {a : Addr} {xs : List V} (e : Ex H H') (h : SqA K H a xs) : SqA K H' a xs := h.imp e.seq e.tup
abbrev rIxA (K : Fr) : R2 := fun x y H Q => rIxL K x y H Q ∨ rIxT K x y H Q
theorem ix_any {X : Cx} : IxR X (rIxA X.K) := IxR.or ix_list ix_tup
theorem ixA {K : Fr} {H : Hp} {a : Addr} {xs : List V} {i : Int} {v : V} {Q : VK} (h : SqA K H a xs) (e : atI xs i = some v) (q : Q v H) : rIxA K (.ref a) (.int i) H Q := by
  rcases h with h | h
  · exact .inl ⟨a, xs, i, v, rfl, rfl, h, e, q⟩
  · exact .inr ⟨a, xs, i, v, rfl, rfl, h, e, q⟩
def iAny (K : Fr) (tl : TE) : TI := fun σ H R => iList K tl σ H R ∨ iTup K tl σ H R
theorem pi_any {X : Cx} {tg l : PySem.Expr} {tl : TE} (h1 : PI X tg l (iList X.K tl)) (h2 : PI X tg l (iTup X.K tl)) : PI X tg l (iAny X.K tl) :=
  ⟨fun pins s σ H R I h => h.elim (h1.run pins s σ H R I) (h2.run pins s σ H R I)⟩
abbrev rSlX (K : Fr) : V → Option Int → Option Int → Hp → VK → Prop := fun x lo hi H Q => rSlL K x lo hi H Q ∨ rSlA K x lo hi H Q
theorem sl_any {X : Cx} : SlR X (rSlX X.K) := SlR.or sl_list sl_tupA
/-! ### a step of a reading -/
section
variable {σ : L2.St} {H : Hp} {Q : VK} {D : Ends} {te tf : TE} {t u : TS} {g : TG} {r : List V → Hp → VK → Prop} {r2 : R2}
theorem tCB1 (h : te σ H fun x H1 => r [x] H1 Q) : tCB r (tCons te tNil) σ H Q := h
theorem tSeqI (h : t { D with nx := u D } σ H) : tSeq t u D σ H := h
theorem tAsgI {i : Nat} (h : te σ H fun x H1 => D.nx (σ.set i (some x)) H1) : tAsg te (gName i) D σ H := h
theorem tRetI (h : te σ H D.rt) : tRet te D σ H := h
theorem tOpI (h : te σ H fun x H1 => tf σ H1 fun y H2 => r2 x y H2 Q) : tOp r2 te tf σ H Q := h
end
/-! ### loops in short -/
section
variable {K : Fr} {D : Ends} {tb : TS} {σ : L2.St} {H : Hp} {a : Addr}
/-- for i, x in enumerate(xs): the pair is a new tuple at each turn -/
theorem forEnum {xs : List V} {j1 j2 : Nat} {ta : TA} (Pv : Nat → L2.St → Hp → Prop) (hv : ∀ Q : List V → Hp → Prop, Q [.ref a] H → ta σ H Q) (h0 : Pv 0 σ H) (hG : ∀ i σ H, i ≤ xs.length → Pv i σ H → SqL K H a xs)
    (hs : ∀ i x σ H H1, i < xs.length → xs[i]? = some x → Pv i σ H → Ex H H1 → (∀ b, H1 b = none → H b = none) → tb { D with nx := Pv (i + 1), ct := Pv (i + 1), bk := D.nx } ((σ.set j1 (some (.int (i : Nat)))).set j2 (some x)) H1) (hd : ∀ σ H, Pv xs.length σ H → D.nx σ H) :
    tFor (iEnum K ta) (gTup K 2 (gCons (gName j1) (gCons (gName j2) gNil))) tb D σ H := by
  refine hv _ ⟨a, xs, rfl, hG 0 σ H (Nat.zero_le _) h0, ?_⟩
  refine for_it walk_enum Pv h0 hG (fun i v σ H H' hi p y => ?_) hd
  obtain ⟨T, x, y', rfl, nT, rfl, e1, e2⟩ := y
  cases e1
  refine ⟨T, _, rfl, sqT upd_same, rfl, _, _, rfl, _, _, rfl, rfl, ?_⟩
  exact hs i y' σ H _ hi e2 p (Ex.new nT) fun b hb => by
    by_cases z : b = T
    · rw [z, upd_same] at hb; cases hb
    · rwa [upd_ne z] at hb
/-- for i in range(n) -/
theorem forR1 {j : Nat} {ta : TA} {n : Int} (Pv : Nat → L2.St → Hp → Prop) (hv : ∀ Q : List V → Hp → Prop, Q [.int n] H → ta σ H Q) (hn : -(2 ^ 62) ≤ n ∧ n < 2 ^ 62) (h0 : Pv 0 σ H)
    (hs : ∀ (i : Nat) σ H, (i : Int) < n → Pv i σ H → tb { D with nx := Pv (i + 1), ct := Pv (i + 1), bk := D.nx } (σ.set j (some (.int (i : Int)))) H) (hd : ∀ σ H, Pv n.toNat σ H → D.nx σ H) : tFor (iRng1 ta) (gName j) tb D σ H := by
  refine hv _ ⟨n, rfl, hn.1, hn.2, for_range (lo := 0) (n := n.toNat) Pv h0 (fun i σ' H' hi p => ?_) hd⟩
  have e0 : (0 : Int) + (i : Int) = (i : Int) := Int.zero_add _
  show tb _ (σ'.set j (some (.int ((0 : Int) + (i : Int))))) H'
  rw [e0]
  exact hs i σ' H' (by omega) p
end
/-! ### comprehensions: a new list -/
section
variable {K : Fr} {σ : L2.St} {H : Hp} {te : TE} {tt : TT} {Q : VK}
/-- te is worth v wherever what H knows holds -/
def Wv (te : TE) (σ : L2.St) (H : Hp) (v : V) : Prop := ∀ H1, Ex H H1 → ∀ Q : VK, (∀ H2, Ex H1 H2 → Q v H2) → te σ H1 Q
def WvT (te : TT) (σ : L2.St) (H : Hp) (b : Bool) : Prop := ∀ H1, Ex H H1 → ∀ Q : Bool → Hp → Prop, (∀ H2, Ex H1 H2 → Q b H2) → te σ H1 Q
theorem wvYes : WvT tYes σ H true := fun H1 _ Q q => q H1 (Ex.refl H1)
theorem lcTurn {H' : Hp} {D : Addr} {acc : List V} {b : Bool} {v : V} {σ2 : L2.St} (nD : H D = none) (e : Ex H H') (hD : H' D = some (.lst acc)) (hz : acc.length < sizeLine) (ht : WvT tt σ2 H b) (he : b = true → Wv te σ2 H v)
    (N : Hp → Prop) (hN : ∀ H2, Ex H H2 → H2 D = some (.lst (if b then acc ++ [v] else acc)) → N H2) :
    tt σ2 H' fun b H3 => if b = true then te σ2 H3 fun y H4 => ∃ acc, H4 D = some (.lst acc) ∧ acc.length < sizeLine ∧ N (upd H4 D (.lst (acc ++ [y]))) else N H3 := by
  refine ht H' e _ fun H3 e3 => ?_
  cases b with
  | true =>
    show te σ2 H3 _
    refine he rfl H3 (e.trans e3) _ fun H4 e4 => ⟨acc, e4 _ _ (e3 _ _ hD), hz, hN _ (Ex.mut ((e.trans e3).trans e4) nD) ?_⟩
    exact upd_same
  | false => exact hN H3 (e.trans e3) (e3 _ _ hD)
/-- [e for x in xs], a list -/
theorem lcMap {a : Addr} {xs : List V} {j : Nat} {tl : TE} (f : V → V) (hv : ∀ Q : VK, Q (.ref a) H → tl σ H Q) (hx : SqL K H a xs) (hz : xs.length ≤ 100000) (hw : ∀ x, wipe ((wipe σ [j]).set j (some x)) [j] = wipe σ [j])
    (he : ∀ (i : Nat) (x : V), xs[i]? = some x → Wv te ((wipe σ [j]).set j (some x)) H (f x)) (q : Evl.RetL (xs.map f) H Q) : tLc (iList K tl) (gName j) tYes te [j] σ H Q := by
  refine hv _ ⟨a, rfl, ⟨xs, hx⟩, fun D nD => lc_list (xs := xs) (fun i H' => Ex H H' ∧ H' D = some (.lst ((xs.take i).map f))) ⟨Ex.new nD, upd_same⟩ (fun i H' _ p => p.1.seq hx) (fun i x H' hi p => ⟨hw x, ?_⟩) (fun H' p => ?_)⟩
  · refine lcTurn nD p.1 p.2 ?_ wvYes (fun _ => he i x hi) (fun H' => Ex H H' ∧ H' D = some (.lst ((xs.take (i + 1)).map f))) (fun H2 e2 h2 => ⟨e2, ?_⟩)
    · rw [List.length_map, List.length_take]
      have : 100000 < sizeLine := by decide
      omega
    · rw [h2, List.take_add_one, hi, List.map_append]
      rfl
  · have h := p.2
    rw [List.take_of_length_le (Nat.le_refl _)] at h
    exact q D H' nD p.1 h
theorem lcMapT {a : Addr} {xs : List V} {j : Nat} {tl : TE} (f : V → V) (hv : ∀ Q : VK, Q (.ref a) H → tl σ H Q) (hx : SqT K H a xs) (hz : xs.length ≤ 100000) (hw : ∀ x, wipe ((wipe σ [j]).set j (some x)) [j] = wipe σ [j])
    (he : ∀ (i : Nat) (x : V), xs[i]? = some x → Wv te ((wipe σ [j]).set j (some x)) H (f x)) (q : Evl.RetL (xs.map f) H Q) : tLc (iTup K tl) (gName j) tYes te [j] σ H Q := by
  refine hv _ ⟨a, rfl, ⟨xs, hx⟩, fun D nD => lc_tup (xs := xs) (fun i H' => Ex H H' ∧ H' D = some (.lst ((xs.take i).map f))) ⟨Ex.new nD, upd_same⟩ (fun i H' _ p => p.1.tup hx) (fun i x H' hi p => ⟨hw x, ?_⟩) (fun H' p => ?_)⟩
  · refine lcTurn nD p.1 p.2 ?_ wvYes (fun _ => he i x hi) (fun H' => Ex H H' ∧ H' D = some (.lst ((xs.take (i + 1)).map f))) (fun H2 e2 h2 => ⟨e2, ?_⟩)
    · rw [List.length_map, List.length_take]
      have : 100000 < sizeLine := by decide
      omega
    · rw [h2, List.take_add_one, hi, List.map_append]
      rfl
  · have h := p.2
    rw [List.take_of_length_le (Nat.le_refl _)] at h
    exact q D H' nD p.1 h
theorem lcMapA {a : Addr} {xs : List V} {j : Nat} {tl : TE} (f : V → V) (hv : ∀ Q : VK, Q (.ref a) H → tl σ H Q) (hx : SqA K H a xs) (hz : xs.length ≤ 100000) (hw : ∀ x, wipe ((wipe σ [j]).set j (some x)) [j] = wipe σ [j])
    (he : ∀ (i : Nat) (x : V), xs[i]? = some x → Wv te ((wipe σ [j]).set j (some x)) H (f x)) (q : Evl.RetL (xs.map f) H Q) : tLc (iAny K tl) (gName j) tYes te [j] σ H Q := by
  rcases hx with hx | hx
  · exact .inl (lcMap f hv hx hz hw he q)
  · exact .inr (lcMapT f hv hx hz hw he q)
/-- [e for i in range(lo, hi) if t]: what the turns give -/
theorem lcRng {j : Nat} {lo hi : Int} {ta : TA} (b : Nat → Bool) (v : Nat → V) (hv : ∀ Q : List V → Hp → Prop, Q [.int lo, .int hi] H → ta σ H Q) (hb : -(2 ^ 62) ≤ lo ∧ lo < 2 ^ 62 ∧ -(2 ^ 62) ≤ hi ∧ hi < 2 ^ 62) (hz : (hi - lo).toNat ≤ 100000) (hw : ∀ x, wipe ((wipe σ [j]).set j (some x)) [j] = wipe σ [j])
    (ht : ∀ i, i < (hi - lo).toNat → WvT tt ((wipe σ [j]).set j (some (.int (lo + (i : Int))))) H (b i)) (he : ∀ i, i < (hi - lo).toNat → b i = true → Wv te ((wipe σ [j]).set j (some (.int (lo + (i : Int))))) H (v i))
    (q : Evl.RetL (Evl.given (hi - lo).toNat b v) H Q) : tLc (iRng2 ta) (gName j) tt te [j] σ H Q := by
  refine hv _ ⟨lo, hi, rfl, hb, fun D nD => lc_range (lo := lo) (n := (hi - lo).toNat) (fun i H' => i ≤ (hi - lo).toNat → Ex H H' ∧ H' D = some (.lst (Evl.given i b v))) (fun _ => ⟨Ex.new nD, upd_same⟩) (fun i H' hi' p => ⟨hw _, ?_⟩) (fun H' p => q D H' nD (p (Nat.le_refl _)).1 (p (Nat.le_refl _)).2)⟩
  have p := p (Nat.le_of_lt hi')
  refine lcTurn nD p.1 p.2 ?_ (ht i hi') (he i hi') (fun H' => i + 1 ≤ (hi - lo).toNat → Ex H H' ∧ H' D = some (.lst (Evl.given (i + 1) b v))) (fun H2 e2 h2 _ => ⟨e2, ?_⟩)
  · have h1 := Evl.given_len i b v
    have : 100000 < sizeLine := by decide
    omega
  · rw [h2]
    cases hb' : b i with
    | true => rw [Evl.given_yes hb']; rfl
    | false => rw [Evl.given_no hb']; rfl
end
/-- of any kind of value -/
inductive Kd (K : Fr) (H : Hp) : V → Prop where
  | int (i : Int) : Kd K H (.int i)
  | bl (b : Bool) : Kd K H (.bl b)
  | oth {v : V} {t : Value} (ty : TyX K H v t) (k : PySem.W.kitOne K t (.type "int") = some false) : Kd K H v
end TP
/-! TPZip -/
set_option maxHeartbeats 4000000
/-! # list(zip(xs, ys)) over two lists: a new list of new pairs -/
namespace TP
open PySem PySem.Spec PyProof.Rows L2
section
variable {prog : Program} {w : World} {A : Around} {R : Result → Shared → Prop} {z TI TO i1 i2 l1 l2 S : Addr} {xs ys : Array Value}
/-- where the zip stands behind i turns -/
structure ZSt (z TI TO i1 i2 l1 l2 S : Addr) (xs ys : Array Value) (i : Nat) (h : Heap) : Prop where
  ti : IsPair h TI (.ref i1) (.ref i2)
  g1 : h.IsListIter i1 l1 i
  g2 : h.IsListIter i2 l2 i
  g3 : h.IsList l1 xs
  g4 : h.IsList l2 ys
  gz : (IsZip h z TI TO .none ∧ ∃ a b, IsPair h TO a b) ∨ ∃ T f oT, IsZipHeld h z TI TO T f ∧ h.get? T = some oT ∧ T ≠ z ∧ T ≠ i1 ∧ T ≠ i2 ∧ T ≠ S
/-- the list's place is none of the zip's -/
structure ZOff (z TI TO i1 i2 l1 l2 S : Addr) : Prop where
  z : S ≠ z
  ti : S ≠ TI
  to : S ≠ TO
  i1 : S ≠ i1
  i2 : S ≠ i2
  l1 : S ≠ l1
  l2 : S ≠ l2
/-- what has been made of it: the pairs stand at ts, all above lo -/
structure ZMade (xs ys : Array Value) (lo : Nat) (ts : List Addr) (h : Heap) : Prop where
  at_ : ∀ (j : Nat) (t : Addr), ts[j]? = some t → ∃ x y, xs[j]? = some x ∧ ys[j]? = some y ∧ IsPair h t x y
  lo : ∀ t ∈ ts, lo < t
  lt : ∀ t ∈ ts, t < h.objs.size
  nd : ts.Nodup
def zKeep (z TO i1 i2 S : Addr) (h h' : Heap) : Prop := ∀ b o, b ≠ z → b ≠ TO → b ≠ i1 → b ≠ i2 → b ≠ S → h.get? b = some o → h'.get? b = some o
end
section
variable {prog : Program} {w : World} {A : Around} {E : Value → Shared → Prop} {s : Shared} {z TI TO i1 i2 l1 l2 : Addr} {xs ys : Array Value}
end
/-! ### the rule -/
/-- the pairs tracked at their addresses -/
def putP : Hp → List Addr → List (V × V) → Hp
  | H, a :: as, p :: r => putP (upd H a (.tup [p.1, p.2])) as r
  | H, _, _ => H
/-- list(zip(a, b)) -/
def tListZip (K : Fr) (ta : TA) : TE := fun σ H Q => ta σ H fun vs H1 => ∃ a b xs ys, vs = [.ref a, .ref b] ∧ SqL K H1 a xs ∧ SqL K H1 b ys ∧
  ∀ (H' : Hp) (p : Addr) (ts : List Addr), Ex H1 H' → H1 p = none → (∀ t ∈ ts, H1 t = none) → p ∉ ts → H' p = some (.lst (ts.map V.ref)) → Paired (fun (t : Addr) (q : V × V) => H' t = some (.tup [q.1, q.2])) ts (xs.zip ys) → Q (.ref p) H'
section
variable {X : Cx} {e e2 : PySem.Expr} {ta : TA} {p p2 pos pos2 : Pos}
end
end TP
/-! PFa -/
set_option maxHeartbeats 4000000
namespace TP
open PySem PySem.Spec PyProof.Rows L2
local macro_rules | `(tactic| walk_at "s1") => `(tactic| first | refine ⟨_, rfl, ?_⟩ | refine ⟨_, _, rfl, rfl, ?_⟩ | refine ⟨rfl, ?_⟩ | refine iteT ?_ | refine iteF ?_)
local macro_rules | `(tactic| walk_at "st") => `(tactic| (repeat (walk_at "s1")))
local macro_rules | `(tactic| walk_at "sq") => `(tactic| first | assumption | exact sqL (by assumption) | exact sqT (by assumption) | (refine Ex.seq (by assumption) ?_; walk_at "sq") | (refine Ex.tup (by assumption) ?_; walk_at "sq"))
local macro_rules | `(tactic| walk_at "at") => `(tactic| first | assumption | (refine (show Ex _ _ by assumption) _ _ ?_; walk_at "at"))

variable {K : Fr}
def isInt : V → Bool | .int _ => true | _ => false
def isCnt : V → Bool | .int i => decide (0 ≤ i) | _ => false
def below (n : Int) : V → Bool | .int i => decide (0 ≤ i) && decide (i < n) | _ => false
theorem kit_int_bool : PySem.W.kitOne K (.type "int") (.type "bool") = some false := kit_ty (by decide +kernel)
theorem kit_bool_int : PySem.W.kitOne K (.type "bool") (.type "int") = some true := kit_ty (by decide +kernel)
theorem kit_refl {t : Value} : PySem.W.kitOne K t t = some true := by unfold PySem.W.kitOne; rw [if_pos (by simp)]
theorem Kd.ty {H : Hp} {v : V} (k : Kd K H v) : ∃ t b, TyX K H v t ∧ PySem.W.kitOne K t (.type "int") = some b := by
  cases k with
  | int i => exact ⟨_, true, .base (.int i), kit_refl⟩
  | bl b => exact ⟨_, true, .base (.bl b), kit_bool_int⟩
  | oth ty k => exact ⟨_, _, ty, k⟩
/-! ### is_integer -/
def sp_is_integer (K : Fr) : Sp := fun vs H Q _ => ∃ v, vs = [v] ∧ Kd K H v ∧ Q (.bl (isInt v)) H
theorem len_is_integer (vs : List V) (H : Hp) (Q : VK) (E : XK) (h : sp_is_integer K vs H Q E) : vs.length = 1 := by obtain ⟨_, rfl, _⟩ := h; rfl
def t_is_integer (K : Fr) : TS := (tRet (tAndV (tCB (rIsi K) (tCons (tVar 0) (tCons (tC (.ty "int")) tNil))) (tNotV (tCB (rIsi K) (tCons (tVar 0) (tCons (tC (.ty "bool")) tNil))))))
theorem isInt_oth {H : Hp} {v : V} {t : Value} (ty : TyX K H v t) (k : PySem.W.kitOne K t (.type "int") = some false) : isInt v = false := by
  cases v with
  | int i =>
    cases ty with
    | base b =>
      cases b
      rw [kit_refl] at k; cases k
  | _ => rfl
theorem pure_is_integer (vs : List V) (H : Hp) (Q : VK) (E : XK) (h : sp_is_integer K vs H Q E) : t_is_integer K { nx := fun _ H' => Q .non H', rt := Q } (L2.start ["value"] vs) H := by
  obtain ⟨v, rfl, k, q⟩ := h
  cases k with
  | int i =>
    refine ⟨_, rfl, _, .ty "int", _, _, true, rfl, .ty _, .base (.int i), kit_refl, true, rfl, iteT ?_⟩
    exact ⟨_, rfl, _, .ty "bool", _, _, false, rfl, .ty _, .base (.int i), kit_int_bool, false, rfl, q⟩
  | bl b =>
    refine ⟨_, rfl, _, .ty "int", _, _, true, rfl, .ty _, .base (.bl b), kit_bool_int, true, rfl, iteT ?_⟩
    exact ⟨_, rfl, _, .ty "bool", _, _, true, rfl, .ty _, .base (.bl b), kit_refl, true, rfl, q⟩
  | oth ty k =>
    refine ⟨_, rfl, _, .ty "int", _, _, false, rfl, .ty _, ty, k, false, rfl, iteF ?_⟩
    rw [isInt_oth ty k] at q
    exact q
/-! ### is_count, is_below -/
def sp_is_count (K : Fr) : Sp := fun vs H Q _ => ∃ v, vs = [v] ∧ Kd K H v ∧ Q (.bl (isCnt v)) H
theorem len_is_count (vs : List V) (H : Hp) (Q : VK) (E : XK) (h : sp_is_count K vs H Q E) : vs.length = 1 := by obtain ⟨_, rfl, _⟩ := h; rfl
def t_is_count (K : Fr) : TS := (tRet (tAndV (tCall (sp_is_integer K) [] E0 (tCons (tVar 0) tNil)) (tOp rGeI (tVar 0) (tC (.int 0)))))
theorem isCnt_of {v : V} (h : isInt v = false) : isCnt v = false := by
  cases v with
  | int i => cases h
  | _ => rfl
theorem pure_is_count (vs : List V) (H : Hp) (Q : VK) (E : XK) (h : sp_is_count K vs H Q E) : t_is_count K { nx := fun _ H' => Q .non H', rt := Q } (L2.start ["value"] vs) H := by
  obtain ⟨v, rfl, k, q⟩ := h
  refine ⟨_, rfl, v, rfl, k, isInt v, rfl, ?_⟩
  cases e : isInt v with
  | false =>
    refine iteF ?_
    rw [isCnt_of e] at q
    exact q
  | true =>
    refine iteT ?_
    cases v with
    | int i => exact ⟨_, rfl, _, _, rfl, rfl, q⟩
    | _ => cases e
def sp_is_below (K : Fr) : Sp := fun vs H Q _ => ∃ v n, vs = [v, .int n] ∧ Kd K H v ∧ Q (.bl (below n v)) H
theorem len_is_below (vs : List V) (H : Hp) (Q : VK) (E : XK) (h : sp_is_below K vs H Q E) : vs.length = 2 := by obtain ⟨_, _, rfl, _⟩ := h; rfl
def t_is_below (K : Fr) : TS := (tRet (tAndV (tCall (sp_is_count K) [] E0 (tCons (tVar 0) tNil)) (tOp rLtI (tVar 0) (tVar 1))))
theorem pure_is_below (vs : List V) (H : Hp) (Q : VK) (E : XK) (h : sp_is_below K vs H Q E) : t_is_below K { nx := fun _ H' => Q .non H', rt := Q } (L2.start ["value", "bound"] vs) H := by
  obtain ⟨v, n, rfl, k, q⟩ := h
  refine ⟨_, rfl, v, rfl, k, isCnt v, rfl, ?_⟩
  cases e : isCnt v with
  | false =>
    refine iteF ?_
    have : below n v = false := by
      cases v with
      | int i => show (decide (0 ≤ i) && decide (i < n)) = false; rw [show decide (0 ≤ i) = false from e]; rfl
      | _ => rfl
    rw [this] at q
    exact q
  | true =>
    refine iteT ?_
    cases v with
    | int i =>
      refine ⟨_, rfl, _, rfl, _, _, rfl, rfl, ?_⟩
      have : below n (.int i) = decide (i < n) := by show (decide (0 ≤ i) && decide (i < n)) = _; rw [show decide (0 ≤ i) = true from e]; rfl
      rw [this] at q
      exact q
    | _ => cases e
/-! ### is_list -/
/-- a value's items, where it is a list or a tuple -/
inductive Itm (K : Fr) (H : Hp) : V → Option (List V) → Prop where
  | seq {a : Addr} {xs : List V} (h : SqA K H a xs) : Itm K H (.ref a) (some xs)
  | oth {v : V} {t : Value} (ty : TyX K H v t) (k1 : PySem.W.kitOne K t (.type "list") = some false) (k2 : PySem.W.kitOne K t (.type "tuple") = some false) : Itm K H v none
theorem tyL {H : Hp} {a : Addr} {xs : List V} (h : SqL K H a xs) : TyX K H (.ref a) (.type "list") := by
  rcases h with (h | ⟨o, h⟩) | ⟨o, its, n, h, c, _⟩
  · exact .base (.lst h)
  · exact .base (.frz h)
  · exact .kList h c
theorem tyT {H : Hp} {a : Addr} {xs : List V} (h : SqT K H a xs) : TyX K H (.ref a) (.type "tuple") := by
  rcases h with (h | ⟨o, h⟩) | ⟨o, its, n, h, c, _⟩
  · exact .base (.tup h)
  · exact .fTuple h
  · exact .kTuple h c
theorem tyx_ex {H H' : Hp} {v : V} {t : Value} (e : Ex H H') (h : TyX K H v t) : TyX K H' v t := by
  cases h with
  | base b =>
    refine .base ?_
    cases b with
    | non => exact .non
    | bl x => exact .bl x
    | int i => exact .int i
    | str x => exact .str x
    | flt x => exact .flt x
    | lst h => exact .lst (e _ _ h)
    | frz h => exact .frz (e _ _ h)
    | tup h => exact .tup (e _ _ h)
    | dK h => exact .dK (e _ _ h)
    | dT h => exact .dT (e _ _ h)
    | ins h cl ha hn ht hm => exact .ins (e _ _ h) cl ha hn ht hm
  | byt b => exact .byt b
  | set h => exact .set (e _ _ h)
  | kList h c => exact .kList h c
  | kTuple h c => exact .kTuple h c
  | kDict h c => exact .kDict h c
  | fTuple h => exact .fTuple (e _ _ h)
  | fDict h => exact .fDict (e _ _ h)
theorem Kd.ex {H H' : Hp} {v : V} (e : Ex H H') (h : Kd K H v) : Kd K H' v := by
  cases h with
  | int i => exact .int i
  | bl b => exact .bl b
  | oth ty k => exact .oth (tyx_ex e ty) k
theorem Itm.ex {H H' : Hp} {v : V} {o : Option (List V)} (e : Ex H H') (h : Itm K H v o) : Itm K H' v o := by
  cases h with
  | seq h => exact .seq (e.any h)
  | oth ty k1 k2 => exact .oth (tyx_ex e ty) k1 k2
def sp_is_list (K : Fr) : Sp := fun vs H Q _ => ∃ v o, vs = [v] ∧ Itm K H v o ∧ Evl.RetV (.bl o.isSome) H Q
theorem len_is_list (vs : List V) (H : Hp) (Q : VK) (E : XK) (h : sp_is_list K vs H Q E) : vs.length = 1 := by obtain ⟨_, _, rfl, _⟩ := h; rfl
def t_is_list (K : Fr) : TS := (tRet (tCB (rIsiT K) (tCons (tVar 0) (tCons (tTup (tCons (tC (.ty "list")) (tCons (tC (.ty "tuple")) tNil))) tNil))))
theorem two_ok : 2 ≤ sizeLine := by decide
theorem pure_is_list (vs : List V) (H : Hp) (Q : VK) (E : XK) (h : sp_is_list K vs H Q E) : t_is_list K { nx := fun _ H' => Q .non H', rt := Q } (L2.start ["value"] vs) H := by
  obtain ⟨v, o, rfl, k, q⟩ := h
  refine ⟨_, rfl, two_ok, ?_⟩
  intro p n1; generalize E_ : upd _ p _ = H1; have e1 := genE E_ n1; have h1 := genS E_; clear E_
  have hc : Paired ClsV [V.ty "list", V.ty "tuple"] [Value.type "list", Value.type "tuple"] := .cons (.ty _) (.cons (.ty _) .nil)
  cases k with
  | seq h =>
    rcases h with h | h
    · exact ⟨_, p, _, _, _, true, rfl, h1, hc, tyx_ex e1 (tyL h), by unfold PySem.W.kitAny; rw [kit_refl], q H1 e1⟩
    · exact ⟨_, p, _, _, _, true, rfl, h1, hc, tyx_ex e1 (tyT h), by
        unfold PySem.W.kitAny
        rw [show PySem.W.kitOne K (.type "tuple") (.type "list") = some false from kit_ty (by decide +kernel)]
        show PySem.W.kitAny K _ [_] = _
        unfold PySem.W.kitAny; rw [kit_refl], q H1 e1⟩
  | oth ty k1 k2 =>
    exact ⟨_, p, _, _, _, false, rfl, h1, hc, tyx_ex e1 ty, by
      unfold PySem.W.kitAny; rw [k1]
      show PySem.W.kitAny K _ [_] = _
      unfold PySem.W.kitAny; rw [k2]; rfl, q H1 e1⟩
/-! ### are_below -/
def allB (n : Int) : Option (List V) → Bool | some xs => xs.all (below n) | none => false
def sp_are_below (K : Fr) : Sp := fun vs H Q _ => ∃ v n o, vs = [v, .int n] ∧ Itm K H v o ∧ (∀ xs, o = some xs → xs.length ≤ 100000 ∧ ∀ x ∈ xs, Kd K H x) ∧ Evl.RetV (.bl (allB n o)) H Q
theorem len_are_below (vs : List V) (H : Hp) (Q : VK) (E : XK) (h : sp_are_below K vs H Q E) : vs.length = 2 := by obtain ⟨_, _, _, rfl, _⟩ := h; rfl
def t_are_below (K : Fr) : TS := (tRet (tAndV (tCall (sp_is_list K) [] E0 (tCons (tVar 0) tNil)) (tCB (rAll K) (tCons (tLc (iAny K (tVar 0)) (gName 2) tYes (tCall (sp_is_below K) [] E0 (tCons (tVar 2) (tCons (tVar 1) tNil))) [2]) tNil))))
theorem pure_are_below (vs : List V) (H : Hp) (Q : VK) (E : XK) (h : sp_are_below K vs H Q E) : t_are_below K { nx := fun _ H' => Q .non H', rt := Q } (L2.start ["value", "bound", "one"] vs) H := by
  obtain ⟨v, n, o, rfl, k, hx, q⟩ := h
  refine ⟨_, rfl, v, o, rfl, k, fun H1 e1 => ⟨o.isSome, rfl, ?_⟩⟩
  cases k with
  | oth ty k1 k2 => exact iteF (q H1 e1)
  | seq h =>
    rename_i a xs
    obtain ⟨hz, hk⟩ := hx _ rfl
    refine iteT ?_
    refine tCB1 (lcMapA (fun x => .bl (below n x)) (fun Q q => ⟨_, rfl, q⟩) (Ex.any e1 h) hz (fun x => rfl) (fun i x hi H2 e2 Q2 q2 => ?_) (fun p H2 np e2 hp => ?_))
    · exact ⟨_, rfl, _, rfl, x, n, rfl, (hk x (List.mem_of_getElem? hi)).ex (Ex.trans e1 e2), q2 H2 (Ex.refl _)⟩
    · refine ⟨p, xs.map (below n), rfl, sqL (by rw [hp, List.map_map]; rfl), ?_⟩
      have e : (xs.map (below n)).all id = xs.all (below n) := by rw [List.all_map]; rfl
      rw [e]
      exact q H2 (Ex.trans e1 e2)
/-! ### without_noughts -/
/-- without the noughts at the end -/
def wn : List Int → List Int
  | [] => []
  | x :: r => match wn r with
    | [] => if x = 0 then [] else [x]
    | y :: s => x :: y :: s
theorem wn_take : ∀ (l : List Int) (m : Nat), m ≤ l.length → (∀ j, m ≤ j → j < l.length → l[j]? = some 0) → (m = 0 ∨ ∃ x, l[m - 1]? = some x ∧ x ≠ 0) → wn l = l.take m
  | [], m, hm, _, _ => by
    have : m = 0 := by simpa using hm
    subst this; rfl
  | x :: r, 0, _, h0, _ => by
    have ih := wn_take r 0 (Nat.zero_le _) (fun j _ hj => by have := h0 (j + 1) (Nat.zero_le _) (by simp; omega); simpa using this) (.inl rfl)
    have hx := h0 0 (Nat.le_refl _) (by simp)
    simp at hx
    unfold wn
    rw [ih]
    simp [hx]
  | x :: r, m + 1, hm, h0, h1 => by
    by_cases z : m = 0
    · subst z
      have ih := wn_take r 0 (Nat.zero_le _) (fun j _ hj => by have := h0 (j + 1) (by omega) (by simp; omega); simpa using this) (.inl rfl)
      rcases h1 with h1 | ⟨y, h1, h2⟩
      · omega
      · simp at h1
        subst h1
        unfold wn
        rw [ih]
        simp [h2]
    · have hm' : m ≤ r.length := by simpa using hm
      have ih := wn_take r m hm' (fun j h hj => by have := h0 (j + 1) (by omega) (by simp; omega); simpa using this) (by
        rcases h1 with h1 | ⟨y, h1, h2⟩
        · omega
        · refine .inr ⟨y, ?_, h2⟩
          have e : m + 1 - 1 = (m - 1) + 1 := by omega
          rw [e] at h1
          simpa using h1)
      unfold wn
      rw [ih]
      obtain ⟨y, s, e⟩ : ∃ y s, r.take m = y :: s := by
        cases hr : r.take m with
        | nil =>
          have h5 := congrArg List.length hr
          rw [List.length_take, List.length_nil] at h5
          clear h1 h0 ih
          omega
        | cons y s => exact ⟨y, s, rfl⟩
      rw [e]
      simp [e]
def sp_without_noughts (K : Fr) : Sp := fun vs H Q _ => ∃ a ns, vs = [.ref a] ∧ SqA K H a (ns.map V.int) ∧ ns.length ≤ 100000 ∧ Evl.RetL ((wn ns).map V.int) H Q
theorem len_without_noughts (vs : List V) (H : Hp) (Q : VK) (E : XK) (h : sp_without_noughts K vs H Q E) : vs.length = 1 := by obtain ⟨_, _, rfl, _⟩ := h; rfl
def t_without_noughts (K : Fr) : TS := (tSeq (tAsg (tCB (rLenA K) (tCons (tVar 0) tNil)) (gName 1)) (tSeq (tWhile (tAnd (tTest (tOp rGtI (tVar 1) (tC (.int 0)))) (tTest (tOp rEq (tOp (rIxA K) (tVar 0) (tOp rSubI (tVar 1) (tC (.int 1)))) (tC (.int 0))))) (tAug 1 (tC (.int 1)) (ipI fun i j => i - j))) (tRet (tCB (rListA K) (tCons (tSl (rSlX K) (tVar 0) tNoPart (tPart (tVar 1))) tNil)))))
theorem sIx_hi (n m : Nat) (h : m ≤ n) : HT.sIx n n (some (m : Int)) = m := by
  rw [HT.sIx_nat n n m]; omega
theorem cut_to (xs : List V) (m : Nat) (h : m ≤ xs.length) : cutV xs none (some (m : Int)) = xs.take m := by
  unfold cutV
  rw [sIx_hi _ _ h, HT.sIx_none]
  simp
theorem pure_without_noughts (vs : List V) (H : Hp) (Q : VK) (E : XK) (h : sp_without_noughts K vs H Q E) : t_without_noughts K { nx := fun _ H' => Q .non H', rt := Q } (L2.start ["row", "many"] vs) H := by
  obtain ⟨a, ns, rfl, hs, hz, q⟩ := h
  refine ⟨_, rfl, a, _, rfl, hs, ?_⟩
  refine ⟨fun m σ H' => σ = [some (.ref a), some (.int (m : Nat))] ∧ H' = H ∧ m ≤ ns.length ∧ (∀ j, m ≤ j → j < ns.length → ns[j]? = some 0), ⟨ns.length, by simp [L2.start], rfl, Nat.le_refl _, fun j h1 h2 => by omega⟩, ?_⟩
  rintro m σ H' ⟨rfl, rfl, hm, h0⟩
  have fin : (m = 0 ∨ ∃ x, ns[m - 1]? = some x ∧ x ≠ 0) → (tRet (tCB (rListA K) (tCons (tSl (rSlX K) (tVar 0) tNoPart (tPart (tVar 1))) tNil))) { nx := fun _ H' => Q .non H', rt := Q } [some (.ref a), some (.int (m : Nat))] H' := fun hl => by
    have ew := wn_take ns m hm h0 hl
    have ec : cutV (ns.map V.int) none (some (m : Int)) = (wn ns).map V.int := by
      rw [cut_to _ _ (by simpa using hm), ew, List.map_take]
    refine ⟨_, rfl, _, rfl, _, rfl, ?_⟩
    rcases hs with hs | hs
    · refine .inl ⟨a, _, rfl, hs, ?_⟩
      intro p n1; generalize E_ : upd _ p _ = H1; have e1 := genE E_ n1; have h1 := genS E_; clear E_
      rw [ec] at h1
      refine ⟨p, _, rfl, .inl (sqL h1), ?_⟩
      intro p2 n2; generalize E_ : upd _ p2 _ = H2; have e2 := genE E_ n2; have h2 := genS E_; clear E_
      exact q p2 H2 (Ex.back e1 n2) (Ex.trans e1 e2) h2
    · refine .inr ⟨a, _, rfl, hs, fun ⟨w1, w2⟩ => ?_, fun _ => ?_⟩
      · have ew2 : (wn ns).map V.int = ns.map V.int := by
          rw [← ec]
          unfold cutV
          rw [w1, w2, List.drop_zero]
          exact List.take_of_length_le (Nat.le_refl _)
        refine ⟨a, _, rfl, .inr hs, ?_⟩
        intro p2 n2; generalize E_ : upd _ p2 _ = H2; have e2 := genE E_ n2; have h2 := genS E_; clear E_
        exact q p2 H2 n2 e2 (by rw [ew2]; exact h2)
      · intro p n1; generalize E_ : upd _ p _ = H1; have e1 := genE E_ n1; have h1 := genS E_; clear E_
        rw [ec] at h1
        refine ⟨p, _, rfl, .inr (sqT h1), ?_⟩
        intro p2 n2; generalize E_ : upd _ p2 _ = H2; have e2 := genE E_ n2; have h2 := genS E_; clear E_
        exact q p2 H2 (Ex.back e1 n2) (Ex.trans e1 e2) h2
  refine ⟨_, rfl, _, _, rfl, rfl, _, rfl, ?_⟩
  by_cases c : (0 : Int) < (m : Int)
  · rw [decide_eq_true c]
    refine iteT ?_
    have hm1 : m - 1 < ns.length := by omega
    refine ⟨_, rfl, _, rfl, _, _, rfl, rfl, ?_⟩
    refine ixA hs (v := .int ns[m - 1]) ?_ ?_
    · have e : (m : Int) - 1 = ((m - 1 : Nat) : Int) := by omega
      rw [e]
      exact atI_nat (by rw [List.getElem?_map, List.getElem?_eq_getElem hm1]; rfl)
    · refine ⟨rfl, _, rfl, ?_⟩
      by_cases z : ns[m - 1] = 0
      · rw [decide_eq_true (by rw [z])]
        refine iteT ⟨fun σ' H2 => σ' = [some (.ref a), some (.int ((m - 1 : Nat) : Int))] ∧ H2 = H', fun σ' H2 ⟨h1, h2⟩ => ⟨m - 1, by omega, h1, h2, by omega, fun j g1 g2 => ?_⟩, ?_⟩
        · by_cases gj : j = m - 1
          · subst gj; rw [List.getElem?_eq_getElem hm1, z]
          · exact h0 j (by omega) g2
        · refine ⟨_, rfl, _, _, rfl, rfl, ?_⟩
          have e : (m : Int) - 1 = ((m - 1 : Nat) : Int) := by omega
          exact ⟨congrArg (fun z => [some (V.ref a), some (V.int z)]) e, rfl⟩
      · rw [decide_eq_false (fun e => z (V.int.inj e))]
        exact iteF (fin (.inr ⟨_, List.getElem?_eq_getElem hm1, z⟩))
  · rw [decide_eq_false c]
    exact iteF (iteF (fin (.inl (by omega))))

end TP
/-! PFb -/
set_option maxHeartbeats 4000000
namespace TP
open PySem PySem.Spec PyProof.Rows L2
local macro_rules | `(tactic| walk_at "s1") => `(tactic| first | refine ⟨_, rfl, ?_⟩ | refine ⟨_, _, rfl, rfl, ?_⟩ | refine ⟨rfl, ?_⟩ | refine iteT ?_ | refine iteF ?_)
local macro_rules | `(tactic| walk_at "st") => `(tactic| (repeat (walk_at "s1")))
local macro_rules | `(tactic| walk_at "sq") => `(tactic| first | assumption | exact sqL (by assumption) | exact sqT (by assumption) | (refine Ex.seq (by assumption) ?_; walk_at "sq") | (refine Ex.tup (by assumption) ?_; walk_at "sq"))
local macro_rules | `(tactic| walk_at "at") => `(tactic| first | assumption | (refine (show Ex _ _ by assumption) _ _ ?_; walk_at "at"))
local macro_rules | `(tactic| walk_at "sl") => `(tactic| ((try dsimp only); refine tSeqI ?_; (try dsimp only)))

variable {K : Fr}
/-! ### lists of ints as data -/
def dI (ns : List Int) : PyData := .list (ns.map PyData.int)
theorem dpAll_ints {H : Hp} : ∀ ns : List Int, DpAll K H (ns.map V.int) (ns.map PyData.int)
  | [] => .nil
  | n :: r => .cons (.int n) (dpAll_ints r)
theorem dp_ints {H : Hp} {a : Addr} {ns : List Int} (h : SqL K H a (ns.map V.int)) : Dp K H (.ref a) (dI ns) := .lst h (dpAll_ints ns)
theorem lay_ints : ∀ ns : List Int, PyData.canLayAll0 (ns.map PyData.int) = true
  | [] => by simp [PyData.canLayAll0]
  | n :: r => by simp [PyData.canLayAll0, PyData.canLay0, lay_ints r]
theorem dep_ints : ∀ ns : List Int, PyData.depthAll (ns.map PyData.int) = 0
  | [] => by simp [PyData.depthAll]
  | n :: r => by simp [PyData.depthAll, PyData.depth, dep_ints r]
theorem shaped_ints (ns : List Int) : SeqAt.shaped (dI ns) = true := by
  unfold SeqAt.shaped dI
  simp [PyData.canLay0, PyData.depth, lay_ints, dep_ints]
theorem eqv_ints : ∀ xs ys : List Int, PyData.eqv (dI xs) (dI ys) = decide (xs = ys) := by
  intro xs
  show ∀ ys : List Int, PyData.eqv (.list _) (.list _) = _
  induction xs with
  | nil =>
    intro ys
    cases ys with
    | nil => simp [PyData.eqv, PyData.eqvAll]
    | cons y ys => simp [PyData.eqv, PyData.eqvAll]
  | cons x xs ih =>
    intro ys
    cases ys with
    | nil => simp [PyData.eqv, PyData.eqvAll]
    | cons y ys =>
      have h := ih ys
      simp only [PyData.eqv] at h
      simp only [PyData.eqv, PyData.eqvAll, List.map_cons, h, List.cons.injEq, Bool.decide_and]
      rfl
theorem at_ints {ns : List Int} {j : Nat} (h : j < ns.length) : atI (ns.map V.int) (j : Int) = some (.int (ns.getD j 0)) := by
  refine atI_nat ?_
  rw [List.getElem?_map, List.getElem?_eq_getElem h, List.getD_eq_getElem?_getD, List.getElem?_eq_getElem h]
  rfl
theorem lastD_eq {ns : List Int} (h : ns ≠ []) : ns.getLastD 0 = ns.getLast h := by
  rw [List.getLastD_eq_getLast?, List.getLast?_eq_some_getLast h]; rfl
theorem at_lastI {ns : List Int} (h : ns ≠ []) : atI (ns.map V.int) (-1) = some (.int (ns.getLastD 0)) := by
  have e : ns = ns.dropLast ++ [ns.getLastD 0] := by
    rw [lastD_eq h]
    exact (List.dropLast_concat_getLast h).symm
  have e2 : ns.map V.int = ns.dropLast.map V.int ++ [V.int (ns.getLastD 0)] := by
    rw [← List.map_singleton, ← List.map_append, ← e]
  rw [e2]
  exact atI_last _ _
theorem set_ints (ns : List Int) (j : Nat) (x : Int) : (ns.map V.int).set j (.int x) = (ns.set j x).map V.int := by rw [List.map_set]
theorem ixN_of {n : Nat} {i : Int} {j : Nat} (e : i = (j : Int)) (h : j < n) : ixN n i = some j := by rw [e]; exact Evl.ixN_nat h
theorem rep_ints (k : Nat) : (List.replicate k ([.int 0] : List V)).flatten = (List.replicate k (0 : Int)).map V.int := by
  induction k with
  | zero => rfl
  | succ n ih => rw [List.replicate_succ, List.flatten_cons, ih, List.replicate_succ]; rfl
/-! ### product_of -/
def pRow (p : Int) (i : Nat) (x : Int) : List Int → Nat → List Int → List Int
  | [], _, s => s
  | y :: ys, j, s => pRow p i x ys (j + 1) (s.set (i + j) ((s.getD (i + j) 0 + x * y) % p))
def pAll (p : Int) (ys : List Int) : List Int → Nat → List Int → List Int
  | [], _, s => s
  | x :: xs, i, s => pAll p ys xs (i + 1) (pRow p i x ys 0 s)
theorem pRow_nil {p : Int} {i : Nat} {x : Int} {j : Nat} {s : List Int} : pRow p i x [] j s = s := rfl
theorem pRow_cons {p : Int} {i : Nat} {x y : Int} {ys : List Int} {j : Nat} {s : List Int} : pRow p i x (y :: ys) j s = pRow p i x ys (j + 1) (s.set (i + j) ((s.getD (i + j) 0 + x * y) % p)) := rfl
theorem pAll_nil {p : Int} {ys : List Int} {i : Nat} {s : List Int} : pAll p ys [] i s = s := rfl
theorem pAll_cons {p : Int} {x : Int} {xs ys : List Int} {i : Nat} {s : List Int} : pAll p ys (x :: xs) i s = pAll p ys xs (i + 1) (pRow p i x ys 0 s) := rfl
def prodP (p : Int) (xs ys : List Int) : List Int := wn (pAll p ys xs 0 (List.replicate (xs.length + ys.length - 1) 0))
theorem pRow_len (p : Int) (i : Nat) (x : Int) : ∀ (ys : List Int) (j : Nat) (s : List Int), (pRow p i x ys j s).length = s.length
  | [], _, _ => rfl
  | y :: ys, j, s => by unfold pRow; rw [pRow_len p i x ys (j + 1)]; simp
/-- figures below p -/
def Cf (p : Int) (xs : List Int) : Prop := ∀ x ∈ xs, 0 ≤ x ∧ x < p
instance (p : Int) (xs : List Int) : Decidable (Cf p xs) := by unfold Cf; infer_instance
def sp_product_of (K : Fr) : Sp := fun vs H Q _ => ∃ p a b xs ys, vs = [.int p, .ref a, .ref b] ∧ SqL K H a (xs.map V.int) ∧ SqL K H b (ys.map V.int) ∧ (0 < p ∧ p ≤ 7) ∧ xs.length ≤ 1000 ∧ ys.length ≤ 1000 ∧ Cf p xs ∧ Evl.RetL ((prodP p xs ys).map V.int) H Q
theorem len_product_of (vs : List V) (H : Hp) (Q : VK) (E : XK) (h : sp_product_of K vs H Q E) : vs.length = 3 := by obtain ⟨_, _, _, _, _, rfl, _⟩ := h; rfl
def t_product_of (K : Fr) : TS := (tSeq (tAsg (tOp rRep (tLst (tCons (tC (.int 0)) tNil)) (tOp rSubI (tOp rAddI (tCB (rLenA K) (tCons (tVar 1) tNil)) (tCB (rLenA K) (tCons (tVar 2) tNil))) (tC (.int 1)))) (gName 3)) (tSeq (tFor (iEnum K (tCons (tVar 1) tNil)) (gTup K 2 (gCons (gName 4) (gCons (gName 5) gNil))) (tFor (iEnum K (tCons (tVar 2) tNil)) (gTup K 2 (gCons (gName 6) (gCons (gName 7) gNil))) (tAsg (tOp rModI (tOp rAddI (tOp (rIxL K) (tVar 3) (tOp rAddI (tVar 4) (tVar 6))) (tOp rMulI (tVar 5) (tVar 7))) (tVar 0)) (gSub (tVar 3) (tOp rAddI (tVar 4) (tVar 6)) rSetL)))) (tRet (tCall (sp_without_noughts K) [] E0 (tCons (tVar 3) tNil)))))
theorem small_sz {n : Nat} (h : n ≤ 100000) : n ≤ sizeLine := Nat.le_trans h (by decide)
theorem cf_mul {p : Int} {xs : List Int} {x : Int} (hp : p ≤ 7) (h : Cf p xs) (hx : x ∈ xs) : -(2 ^ 64) < x ∧ x < 2 ^ 64 := by
  have := h x hx
  omega
theorem getD_of {ns : List Int} {i : Nat} {x : V} (h : (ns.map V.int)[i]? = some x) : x = .int (ns.getD i 0) ∧ i < ns.length := by
  rw [List.getElem?_map] at h
  cases e : ns[i]? with
  | none => rw [e] at h; cases h
  | some y =>
    rw [e] at h
    cases h
    rw [List.getD_eq_getElem?_getD, e]
    exact ⟨rfl, (List.getElem?_eq_some_iff.mp e).1⟩
theorem drop_get {ns : List Int} {i : Nat} (h : i < ns.length) : ns.drop i = ns.getD i 0 :: ns.drop (i + 1) := by
  rw [List.drop_eq_getElem_cons h, List.getD_eq_getElem?_getD, List.getElem?_eq_getElem h]; rfl
theorem getD_mem {ns : List Int} {i : Nat} (h : i < ns.length) : ns.getD i 0 ∈ ns := by
  rw [List.getD_eq_getElem?_getD, List.getElem?_eq_getElem h]; exact List.getElem_mem h
theorem pure_product_of (vs : List V) (H : Hp) (Q : VK) (E : XK) (h : sp_product_of K vs H Q E) :
    t_product_of K { nx := fun _ H' => Q .non H', rt := Q } (start ["prime", "one", "other", "sums", "at", "figure", "beside", "factor"] vs) H := by
  obtain ⟨p, a, b, xs, ys, rfl, ha, hb, hp, hx, hy, hc, q⟩ := h
  refine ⟨by decide, ?_⟩
  intro l0 n0; generalize E_ : upd _ l0 _ = H0; have e0 := genE E_ n0; have h0 := genS E_; clear E_
  refine ⟨_, rfl, a, _, rfl, .inl (Ex.seq e0 ha), _, rfl, b, _, rfl, .inl (Ex.seq e0 hb), _, _, rfl, rfl, _, _, rfl, rfl, ?_⟩
  have z0 : 100000 < (2 : Int) ^ 63 := by decide
  rw [List.length_map, List.length_map]
  refine ⟨l0, _, _, rfl, rfl, h0, by omega, by omega, small_sz (by simp; omega), ?_⟩
  have eK : ((xs.length : Int) + (ys.length : Int) - 1).toNat = xs.length + ys.length - 1 := by omega
  rw [eK, rep_ints]
  intro l n1; generalize E_ : upd _ l _ = H1; have e1 := genE E_ n1; have h1 := genS E_; clear E_
  have nl : H l = none := Ex.back e0 n1
  have e01 : Ex H H1 := Ex.trans e0 e1
  walk_at "sl"
  refine forEnum (a := a) (xs := xs.map V.int) (fun i σ H' => ∃ y4 y5 y6 y7 s, σ = [some (.int p), some (.ref a), some (.ref b), some (.ref l), y4, y5, y6, y7] ∧ Ex H H' ∧ H' l = some (.lst (s.map V.int)) ∧ s.length = xs.length + ys.length - 1 ∧ pAll p ys (xs.drop i) i s = pAll p ys xs 0 (List.replicate (xs.length + ys.length - 1) 0))
    (fun Q q => ⟨_, rfl, q⟩) ⟨none, none, none, none, _, rfl, e01, h1, by simp, rfl⟩ (fun i σ H' _ ⟨_, _, _, _, _, _, e, _⟩ => Ex.seq e ha) (fun i x σ H' H2 hi gx hP e2 _ => ?_) (fun σ H' hP => ?_)
  · obtain ⟨y4, y5, y6, y7, s, rfl, eH, hl, hs, hF⟩ := hP
    obtain ⟨rfl, hi⟩ := getD_of gx
    rw [drop_get hi, pAll_cons] at hF
    dsimp only
    refine forEnum (a := b) (xs := ys.map V.int) (fun j σ H' => ∃ y6 y7 s2, σ = [some (.int p), some (.ref a), some (.ref b), some (.ref l), some (.int (i : Nat)), some (.int (xs.getD i 0)), y6, y7] ∧ Ex H H' ∧ H' l = some (.lst (s2.map V.int)) ∧ s2.length = xs.length + ys.length - 1 ∧ pRow p i (xs.getD i 0) (ys.drop j) j s2 = pRow p i (xs.getD i 0) ys 0 s)
      (fun Q q => ⟨_, rfl, q⟩) ⟨y6, y7, s, rfl, Ex.trans eH e2, e2 _ _ hl, hs, rfl⟩ (fun j σ H' _ ⟨_, _, _, _, e, _⟩ => Ex.seq e hb) (fun j y σ H' H3 hj gy hP e3 _ => ?_) (fun σ H' hP => ?_)
    · obtain ⟨z6, z7, s2, rfl, eH2, hl2, hs2, hF2⟩ := hP
      obtain ⟨rfl, hj⟩ := getD_of gy
      rw [drop_get hj, pRow_cons] at hF2
      have hij : i + j < s2.length := by omega
      have eij : (i : Int) + (j : Int) = ((i + j : Nat) : Int) := by omega
      have h3 := e3 _ _ hl2
      refine ⟨_, rfl, _, rfl, _, rfl, _, _, rfl, rfl, l, _, _, _, rfl, rfl, sqL h3, by rw [eij]; exact at_ints hij, ?_⟩
      refine ⟨_, rfl, _, rfl, _, _, rfl, rfl, .inl (cf_mul hp.2 hc (getD_mem hi)), _, _, rfl, rfl, _, rfl, _, _, rfl, rfl, hp.1, ?_⟩
      refine ⟨_, rfl, _, rfl, _, rfl, _, _, rfl, rfl, l, _, _, i + j, rfl, rfl, h3, ixN_of eij (by simpa using hij), ?_⟩
      refine ⟨_, _, _, rfl, Ex.mut (Ex.trans eH2 e3) nl, by rw [upd_same, set_ints], by rw [List.length_set]; exact hs2, hF2⟩
    · obtain ⟨z6, z7, s2, rfl, eH2, hl2, hs2, hF2⟩ := hP
      rw [List.length_map, List.drop_length, pRow_nil] at hF2
      exact ⟨_, _, z6, z7, s2, rfl, eH2, hl2, hs2, by rw [hF2]; exact hF⟩
  · obtain ⟨y4, y5, y6, y7, s, rfl, eH, hl, hs, hF⟩ := hP
    rw [List.length_map, List.drop_length, pAll_nil] at hF
    refine ⟨_, rfl, l, s, rfl, .inl (sqL hl), by omega, fun p2 H2 n2 e2 h2 => ?_⟩
    rw [hF] at h2
    exact q p2 H2 (Ex.back eH n2) (Ex.trans eH e2) h2
/-! ### inverse_of -/
def invP (p f : Int) : Option Int := (((List.range (p - 1).toNat).filter fun (i : Nat) => decide (f * (1 + (i : Int)) % p = 1)).head?).map fun (i : Nat) => 1 + (i : Int)
def sp_inverse_of (K : Fr) : Sp := fun vs H Q _ => ∃ p f g, vs = [.int p, .int f] ∧ (2 ≤ p ∧ p ≤ 7) ∧ (0 ≤ f ∧ f < p) ∧ invP p f = some g ∧ Evl.RetV (.int g) H Q
theorem len_inverse_of (vs : List V) (H : Hp) (Q : VK) (E : XK) (h : sp_inverse_of K vs H Q E) : vs.length = 2 := by obtain ⟨_, _, _, rfl, _⟩ := h; rfl
def t_inverse_of (K : Fr) : TS := (tRet (tOp (rIxL K) (tLc (iRng2 (tCons (tC (.int 1)) (tCons (tVar 0) tNil))) (gName 2) (tTest (tOp rEq (tOp rModI (tOp rMulI (tVar 1) (tVar 2)) (tVar 0)) (tC (.int 1)))) (tVar 2) [2]) (tC (.int 0))))
theorem pure_inverse_of (vs : List V) (H : Hp) (Q : VK) (E : XK) (h : sp_inverse_of K vs H Q E) : t_inverse_of K { nx := fun _ H' => Q .non H', rt := Q } (start ["prime", "figure", "other"] vs) H := by
  obtain ⟨p, f, g, rfl, hp, hf, hg, q⟩ := h
  refine tRetI (tOpI ?_)
  refine lcRng (lo := 1) (hi := p) (fun i => decide (f * (1 + (i : Int)) % p = 1)) (fun i => .int (1 + (i : Int))) (fun Q q => ⟨_, rfl, q⟩) (by omega) (by omega) (fun x => rfl) (fun i hi H1 e1 Q1 q1 => ?_) (fun i hi hb H1 e1 Q1 q1 => ⟨_, rfl, q1 H1 (Ex.refl _)⟩) (fun l H1 nl e1 hl => ?_)
  · refine ⟨_, rfl, _, rfl, _, _, rfl, rfl, .inl (by omega), _, rfl, _, _, rfl, rfl, by omega, rfl, _, rfl, ?_⟩
    have e : decide (V.int (f * (1 + (i : Int)) % p) = V.int 1) = decide (f * (1 + (i : Int)) % p = 1) := by
      by_cases c : f * (1 + (i : Int)) % p = 1
      · rw [decide_eq_true c, c]; rfl
      · rw [decide_eq_false c, decide_eq_false fun z => c (V.int.inj z)]
    rw [e]
    exact q1 H1 (Ex.refl _)
  · unfold invP at hg
    cases e : (List.range (p - 1).toNat).filter fun (i : Nat) => decide (f * (1 + (i : Int)) % p = 1) with
    | nil => rw [e] at hg; cases hg
    | cons i r =>
      rw [e] at hg
      cases hg
      have hl2 : H1 l = some (.lst (.int (1 + (i : Int)) :: r.map fun (i : Nat) => V.int (1 + (i : Int)))) := by
        rw [hl]
        unfold Evl.given
        rw [e]
        rfl
      exact ⟨l, _, 0, _, rfl, rfl, sqL hl2, atI_nat (j := 0) rfl, q H1 e1⟩
/-! ### rest_of -/
def subRow (p f : Int) (st : Nat) : List Int → Nat → List Int → List Int
  | [], _, l => l
  | y :: ys, j, l => subRow p f st ys (j + 1) (l.set (st + j) ((l.getD (st + j) 0 - f * y) % p))
theorem subRow_nil {p f : Int} {st j : Nat} {l : List Int} : subRow p f st [] j l = l := rfl
theorem subRow_cons {p f y : Int} {st j : Nat} {ys l : List Int} : subRow p f st (y :: ys) j l = subRow p f st ys (j + 1) (l.set (st + j) ((l.getD (st + j) 0 - f * y) % p)) := rfl
def restGo (p inv : Int) (other : List Int) : Nat → List Int → List Int
  | 0, l => l
  | n + 1, l => if l.length < other.length then l else restGo p inv other n (wn (subRow p (l.getLastD 0 * inv % p) (l.length - other.length) other 0 l))
def restP (p : Int) (one other : List Int) : List Int := restGo p ((invP p (other.getLastD 0)).getD 0) other one.length one
theorem subRow_len (p f : Int) (st : Nat) : ∀ (ys : List Int) (j : Nat) (l : List Int), (subRow p f st ys j l).length = l.length
  | [], _, _ => rfl
  | y :: ys, j, l => by unfold subRow; rw [subRow_len p f st ys (j + 1)]; simp
theorem wn_len : ∀ l : List Int, (wn l).length ≤ l.length
  | [] => Nat.le_refl _
  | x :: r => by
    have ih := wn_len r
    unfold wn
    cases e : wn r with
    | nil =>
      dsimp only
      split <;> simp
    | cons y s => rw [e] at ih; simp at ih ⊢; exact ih
theorem wn_last0 : ∀ l : List Int, l ≠ [] → l.getLastD 0 = 0 → (wn l).length < l.length
  | [], h, _ => absurd rfl h
  | [x], _, h => by
    simp at h
    subst h
    decide
  | x :: y :: r, _, h => by
    have h2 : (y :: r).getLastD 0 = 0 := by simpa [List.getLastD_cons] using h
    have ih := wn_last0 (y :: r) (by simp) h2
    show (match wn (y :: r) with
      | [] => if x = 0 then [] else [x]
      | z :: s => x :: z :: s).length < _
    cases e : wn (y :: r) with
    | nil => dsimp only; split <;> simp
    | cons z s => rw [e] at ih; simp at ih ⊢; omega
theorem subRow_last (p f : Int) (st : Nat) : ∀ (ys : List Int) (j : Nat) (l : List Int), ys ≠ [] → st + j + ys.length = l.length → (subRow p f st ys j l).getD (l.length - 1) 0 = (l.getD (l.length - 1) 0 - f * ys.getLastD 0) % p
  | [], _, _, h, _ => absurd rfl h
  | [y], j, l, _, h => by
    simp at h
    unfold subRow subRow
    have e : st + j = l.length - 1 := by omega
    rw [e]
    simp only [List.getD_eq_getElem?_getD]
    rw [List.getElem?_set_self (by omega)]
    rfl
  | y :: z :: ys, j, l, _, h => by
    unfold subRow
    have h2 := subRow_last p f st (z :: ys) (j + 1) (l.set (st + j) ((l.getD (st + j) 0 - f * y) % p)) (by simp) (by simp at h ⊢; omega)
    rw [List.length_set] at h2
    rw [h2]
    congr 1
    simp only [List.getD_eq_getElem?_getD]
    rw [List.getElem?_set_ne (by simp at h; omega)]
    simp [List.getLastD_cons]
theorem getLastD_getD {l : List Int} (h : l ≠ []) : l.getLastD 0 = l.getD (l.length - 1) 0 := by
  rw [List.getLastD_eq_getLast?, List.getLast?_eq_getElem?, List.getD_eq_getElem?_getD]
/-- the step takes the last number away -/
theorem sub_shorter {p inv : Int} {other l : List Int} (ho : other ≠ []) (hl : other.length ≤ l.length) (hk : ∀ x : Int, (x - x * inv % p * other.getLastD 0) % p = 0) :
    (wn (subRow p (l.getLastD 0 * inv % p) (l.length - other.length) other 0 l)).length < l.length := by
  have h0 : other.length ≠ 0 := fun e => ho (List.length_eq_zero_iff.mp e)
  have hn : l ≠ [] := fun e => by subst e; simp at hl; exact ho hl
  have hn2 : subRow p (l.getLastD 0 * inv % p) (l.length - other.length) other 0 l ≠ [] := fun e => by
    have := congrArg List.length e
    rw [subRow_len] at this
    exact hn (List.length_eq_zero_iff.mp this)
  have hlast := subRow_last p (l.getLastD 0 * inv % p) (l.length - other.length) other 0 l ho (by omega)
  rw [← getLastD_getD hn, hk] at hlast
  have := wn_last0 _ hn2 (by rw [getLastD_getD hn2, subRow_len]; exact hlast)
  rwa [subRow_len] at this
/-- what the inverse does -/
def InvOk (p last : Int) : Prop := ∃ g, invP p last = some g ∧ ∀ x : Int, (x - x * g % p * last) % p = 0
def sp_rest_of (K : Fr) : Sp := fun vs H Q _ => ∃ p a b xs ys, vs = [.int p, .ref a, .ref b] ∧ SqL K H a (xs.map V.int) ∧ SqL K H b (ys.map V.int) ∧ (2 ≤ p ∧ p ≤ 7) ∧ xs.length ≤ 1000 ∧ ys ≠ [] ∧ ys.length ≤ 1000 ∧ Cf p xs ∧ Cf p ys ∧ InvOk p (ys.getLastD 0) ∧
  Evl.RetL ((restP p xs ys).map V.int) H Q
theorem len_rest_of (vs : List V) (H : Hp) (Q : VK) (E : XK) (h : sp_rest_of K vs H Q E) : vs.length = 3 := by obtain ⟨_, _, _, _, _, rfl, _⟩ := h; rfl
def t_rest_of (K : Fr) : TS := (tSeq (tAsg (tCall (sp_inverse_of K) [] E0 (tCons (tVar 0) (tCons (tOp (rIxL K) (tVar 2) (tUn rNeg (tC (.int 1)))) tNil))) (gName 3)) (tSeq (tAsg (tCB (rListA K) (tCons (tVar 1) tNil)) (gName 4)) (tSeq (tWhile (tTest (tOp rGeI (tCB (rLenA K) (tCons (tVar 4) tNil)) (tCB (rLenA K) (tCons (tVar 2) tNil)))) (tSeq (tAsg (tOp rModI (tOp rMulI (tOp (rIxL K) (tVar 4) (tUn rNeg (tC (.int 1)))) (tVar 3)) (tVar 0)) (gName 5)) (tSeq (tAsg (tOp rSubI (tCB (rLenA K) (tCons (tVar 4) tNil)) (tCB (rLenA K) (tCons (tVar 2) tNil))) (gName 6)) (tSeq (tFor (iEnum K (tCons (tVar 2) tNil)) (gTup K 2 (gCons (gName 7) (gCons (gName 8) gNil))) (tAsg (tOp rModI (tOp rSubI (tOp (rIxL K) (tVar 4) (tOp rAddI (tVar 6) (tVar 7))) (tOp rMulI (tVar 5) (tVar 8))) (tVar 0)) (gSub (tVar 4) (tOp rAddI (tVar 6) (tVar 7)) rSetL))) (tAsg (tCall (sp_without_noughts K) [] E0 (tCons (tVar 4) tNil)) (gName 4)))))) (tRet (tVar 4)))))
theorem cf_set {p : Int} {l : List Int} (hp : 0 < p) (h : Cf p l) (i : Nat) (x : Int) : Cf p (l.set i (x % p)) := fun y hy => by
  rcases List.mem_or_eq_of_mem_set hy with hy | rfl
  · exact h y hy
  · exact ⟨Int.emod_nonneg _ (by omega), Int.emod_lt_of_pos _ hp⟩
theorem cf_wn {p : Int} : ∀ {l : List Int}, Cf p l → Cf p (wn l)
  | [], h => h
  | x :: r, h => by
    have ih := cf_wn (l := r) fun y hy => h y (List.mem_cons_of_mem _ hy)
    have hx := h x List.mem_cons_self
    unfold wn
    cases e : wn r with
    | nil =>
      dsimp only
      split
      · intro y hy; cases hy
      · intro y hy
        rcases List.mem_cons.mp hy with rfl | hy
        · exact hx
        · cases hy
    | cons y s =>
      rw [e] at ih
      intro z hz
      rcases List.mem_cons.mp hz with rfl | hz
      · exact hx
      · exact ih z hz
theorem lastD_mem {l : List Int} (h : l ≠ []) : l.getLastD 0 ∈ l := by
  rw [lastD_eq h]
  exact List.getLast_mem h
theorem pure_rest_of (vs : List V) (H : Hp) (Q : VK) (E : XK) (h : sp_rest_of K vs H Q E) :
    t_rest_of K { nx := fun _ H' => Q .non H', rt := Q } (start ["prime", "one", "other", "inverse", "left", "factor", "start", "at", "figure"] vs) H := by
  obtain ⟨p, a, b, xs, ys, rfl, ha, hb, hp, hx, hn, hy, cx, cy, ⟨g, hg, hk⟩, q⟩ := h
  have hlast := cy _ (lastD_mem hn)
  have hy0 : ys.length ≠ 0 := fun e => hn (List.length_eq_zero_iff.mp e)
  refine ⟨_, rfl, _, rfl, _, rfl, b, _, _, _, rfl, rfl, hb, at_lastI hn, p, _, g, rfl, hp, hlast, hg, fun H0 e0 => ?_⟩
  refine ⟨_, rfl, a, _, rfl, .inl (Ex.seq e0 ha), ?_⟩
  intro l n1; generalize E_ : upd _ l _ = H1; have e1 := genE E_ n1; have h1 := genS E_; clear E_
  have eF : restP p xs ys = restGo p g ys xs.length xs := by unfold restP; rw [hg]; rfl
  refine tSeqI ⟨fun m σ H' => ∃ l s n y5 y6 y7 y8, σ = [some (.int p), some (.ref a), some (.ref b), some (.int g), some (.ref l), y5, y6, y7, y8] ∧ m = s.length ∧ Ex H H' ∧ H l = none ∧ H' l = some (.lst (s.map V.int)) ∧ Cf p s ∧ s.length ≤ n ∧ s.length ≤ 1000 ∧ restGo p g ys n s = restP p xs ys,
    ⟨xs.length, l, xs, xs.length, none, none, none, none, rfl, rfl, Ex.trans e0 e1, Ex.back e0 n1, h1, cx, Nat.le_refl _, hx, eF.symm⟩, ?_⟩
  rintro m σ H' ⟨l, s, n, y5, y6, y7, y8, rfl, rfl, eH, nl, hl, cs, hsn, hs, hF⟩
  refine ⟨_, rfl, l, _, rfl, .inl (sqL hl), _, rfl, b, _, rfl, .inl (Ex.seq eH hb), _, _, rfl, rfl, _, rfl, ?_⟩
  rw [List.length_map, List.length_map]
  by_cases c : (ys.length : Int) ≤ (s.length : Int)
  · rw [decide_eq_true c]
    refine iteT ?_
    have hsl : ys.length ≤ s.length := by omega
    have hsn' : s ≠ [] := fun e => by subst e; simp at hsl; exact hn hsl
    obtain ⟨n', rfl⟩ : ∃ n', n = n' + 1 := ⟨n - 1, by omega⟩
    have short := sub_shorter hn hsl hk
    have hf : -(2 ^ 64) < s.getLastD 0 ∧ s.getLastD 0 < 2 ^ 64 := cf_mul hp.2 cs (lastD_mem hsn')
    refine ⟨fun σ' H2 => ∃ l2 z5 z6 z7 z8, σ' = [some (.int p), some (.ref a), some (.ref b), some (.int g), some (.ref l2), z5, z6, z7, z8] ∧ Ex H H2 ∧ H l2 = none ∧ H2 l2 = some (.lst ((wn (subRow p (s.getLastD 0 * g % p) (s.length - ys.length) ys 0 s)).map V.int)), fun σ' H2 ⟨l2, z5, z6, z7, z8, h1, h2, h3, h4⟩ => ?_, ?_⟩
    · refine ⟨_, short, l2, _, n', z5, z6, z7, z8, h1, rfl, h2, h3, h4, ?_, by omega, by omega, ?_⟩
      · refine cf_wn ?_
        have : ∀ (ys : List Int) (j : Nat) (l : List Int), Cf p l → Cf p (subRow p (s.getLastD 0 * g % p) (s.length - ys.length) ys j l) := by
          intro ys
          generalize s.length - ys.length = st
          induction ys with
          | nil => intro j l h; exact h
          | cons y ys ih => intro j l h; exact ih _ _ (cf_set (by omega) h _ _)
        exact this ys 0 s cs
      · rw [← hF]
        show _ = if s.length < ys.length then s else _
        rw [if_neg (by omega)]
    · refine ⟨_, rfl, _, rfl, l, _, _, _, rfl, rfl, sqL hl, at_lastI hsn', _, rfl, _, _, rfl, rfl, .inl hf, _, rfl, _, _, rfl, rfl, by omega, ?_⟩
      refine ⟨_, rfl, l, _, rfl, .inl (sqL hl), _, rfl, b, _, rfl, .inl (Ex.seq eH hb), _, _, rfl, rfl, ?_⟩
      rw [List.length_map, List.length_map]
      have eS : (s.length : Int) - (ys.length : Int) = ((s.length - ys.length : Nat) : Int) := by omega
      walk_at "sl"
      rw [eS]
      generalize hfa : s.getLastD 0 * g % p = f
      have hfp : 0 ≤ f ∧ f < p := hfa ▸ ⟨Int.emod_nonneg _ (by omega), Int.emod_lt_of_pos _ (by omega)⟩
      refine forEnum (a := b) (xs := ys.map V.int) (fun j σ H2 => ∃ z7 z8 s2, σ = [some (.int p), some (.ref a), some (.ref b), some (.int g), some (.ref l), some (.int f), some (.int ((s.length - ys.length : Nat) : Int)), z7, z8] ∧ Ex H H2 ∧ H2 l = some (.lst (s2.map V.int)) ∧ s2.length = s.length ∧ subRow p f (s.length - ys.length) (ys.drop j) j s2 = subRow p f (s.length - ys.length) ys 0 s)
        (fun Q q => ⟨_, rfl, q⟩) ⟨y7, y8, s, rfl, eH, hl, rfl, rfl⟩ (fun j σ H' _ ⟨_, _, _, _, e, _⟩ => Ex.seq e hb) (fun j y σ H2 H3 hj gy hP e3 _ => ?_) (fun σ H2 hP => ?_)
      · obtain ⟨z7, z8, s2, rfl, eH2, hl2, hs2, hF2⟩ := hP
        obtain ⟨rfl, hj⟩ := getD_of gy
        rw [drop_get hj, subRow_cons] at hF2
        have hij : s.length - ys.length + j < s2.length := by omega
        have eij : ((s.length - ys.length : Nat) : Int) + (j : Int) = ((s.length - ys.length + j : Nat) : Int) := by omega
        have h3 := e3 _ _ hl2
        refine ⟨_, rfl, _, rfl, _, rfl, _, _, rfl, rfl, l, _, _, _, rfl, rfl, sqL h3, by rw [eij]; exact at_ints hij, ?_⟩
        refine ⟨_, rfl, _, rfl, _, _, rfl, rfl, .inl (by omega), _, _, rfl, rfl, _, rfl, _, _, rfl, rfl, by omega, ?_⟩
        refine ⟨_, rfl, _, rfl, _, rfl, _, _, rfl, rfl, l, _, _, s.length - ys.length + j, rfl, rfl, h3, ixN_of eij (by simpa using hij), ?_⟩
        exact ⟨_, _, _, rfl, Ex.mut (Ex.trans eH2 e3) nl, by rw [upd_same, set_ints], by rw [List.length_set]; exact hs2, hF2⟩
      · obtain ⟨z7, z8, s2, rfl, eH2, hl2, hs2, hF2⟩ := hP
        rw [List.length_map, List.drop_length, subRow_nil] at hF2
        refine ⟨_, rfl, l, s2, rfl, .inl (sqL hl2), by omega, fun p2 H3 n3 e3 h3 => ?_⟩
        rw [hF2] at h3
        exact ⟨p2, _, _, _, _, rfl, Ex.trans eH2 e3, Ex.back eH2 n3, h3⟩
  · rw [decide_eq_false c]
    refine iteF ⟨_, rfl, ?_⟩
    have e : restP p xs ys = s := by
      rw [← hF]
      cases n with
      | zero => rfl
      | succ n => show (if s.length < ys.length then s else _) = s; rw [if_pos (by omega)]
    exact q l H' nl eH (by rw [e]; exact hl)

end TP
/-! PFc -/
set_option maxHeartbeats 4000000
namespace TP
open PySem PySem.Spec PyProof.Rows L2
local macro_rules | `(tactic| walk_at "s1") => `(tactic| first | refine ⟨_, rfl, ?_⟩ | refine ⟨_, _, rfl, rfl, ?_⟩ | refine ⟨rfl, ?_⟩ | refine iteT ?_ | refine iteF ?_)
local macro_rules | `(tactic| walk_at "st") => `(tactic| (repeat (walk_at "s1")))
local macro_rules | `(tactic| walk_at "sq") => `(tactic| first | assumption | exact sqL (by assumption) | exact sqT (by assumption) | (refine Ex.seq (by assumption) ?_; walk_at "sq") | (refine Ex.tup (by assumption) ?_; walk_at "sq"))
local macro_rules | `(tactic| walk_at "at") => `(tactic| first | assumption | (refine (show Ex _ _ by assumption) _ _ ?_; walk_at "at"))
local macro_rules | `(tactic| walk_at "sl") => `(tactic| ((try dsimp only); refine tSeqI ?_; (try dsimp only)))

variable {K : Fr}
/-! ### inverses are there -/
def Prm (p : Int) : Prop := p = 2 ∨ p = 3 ∨ p = 5 ∨ p = 7
theorem Prm.le {p : Int} (h : Prm p) : 2 ≤ p ∧ p ≤ 7 := by unfold Prm at h; omega
theorem inv_there {p f : Int} (hp : Prm p) (h0 : 0 < f) (h1 : f < p) : ∃ g, invP p f = some g ∧ f * g % p = 1 := by
  unfold Prm at hp
  have : (p = 2 ∧ f = 1) ∨ (p = 3 ∧ (f = 1 ∨ f = 2)) ∨ (p = 5 ∧ (f = 1 ∨ f = 2 ∨ f = 3 ∨ f = 4)) ∨ (p = 7 ∧ (f = 1 ∨ f = 2 ∨ f = 3 ∨ f = 4 ∨ f = 5 ∨ f = 6)) := by omega
  rcases this with ⟨rfl, rfl⟩ | ⟨rfl, rfl | rfl⟩ | ⟨rfl, rfl | rfl | rfl | rfl⟩ | ⟨rfl, rfl | rfl | rfl | rfl | rfl | rfl⟩
  · exact ⟨1, by decide, by decide⟩
  · exact ⟨1, by decide, by decide⟩
  · exact ⟨2, by decide, by decide⟩
  · exact ⟨1, by decide, by decide⟩
  · exact ⟨3, by decide, by decide⟩
  · exact ⟨2, by decide, by decide⟩
  · exact ⟨4, by decide, by decide⟩
  · exact ⟨1, by decide, by decide⟩
  · exact ⟨4, by decide, by decide⟩
  · exact ⟨5, by decide, by decide⟩
  · exact ⟨2, by decide, by decide⟩
  · exact ⟨3, by decide, by decide⟩
  · exact ⟨6, by decide, by decide⟩
theorem inv_ok {p f : Int} (hp : Prm p) (h0 : 0 < f) (h1 : f < p) : InvOk p f := by
  obtain ⟨g, e, hg⟩ := inv_there hp h0 h1
  refine ⟨g, e, fun x => ?_⟩
  have h2 := Int.mul_ediv_add_emod (x * g) p
  have h3 := Int.mul_ediv_add_emod (f * g) p
  rw [hg] at h3
  generalize x * g / p = k at h2
  generalize f * g / p = m at h3
  have h4 : x * g % p = x * g - p * k := by omega
  rw [h4]
  have h5 : x - (x * g - p * k) * f = p * (k * f - x * m) := by
    have : x * g * f = x * (p * m + 1) := by rw [h3, Int.mul_assoc, Int.mul_comm g f]
    rw [Int.sub_mul, this, Int.mul_sub, Int.mul_add, Int.mul_assoc p k f, Int.mul_one]
    have e2 : x * (p * m) = p * (x * m) := by rw [Int.mul_left_comm]
    rw [e2]
    omega
  rw [h5]
  exact Int.mul_emod_right ..
/-! ### lengths, figures, heads -/
def Told (l : List Int) : Prop := l = [] ∨ l.getLastD 0 ≠ 0
theorem wn_told : ∀ l : List Int, Told (wn l)
  | [] => .inl rfl
  | x :: r => by
    have ih := wn_told r
    unfold wn
    cases e : wn r with
    | nil =>
      dsimp only
      split
      · exact .inl rfl
      · rename_i h; exact .inr h
    | cons y s =>
      rw [e] at ih
      rcases ih with ih | ih
      · cases ih
      · refine .inr ?_
        dsimp only
        rw [List.getLastD_cons, List.getLastD_cons]
        rw [List.getLastD_cons] at ih
        exact ih
theorem told_inv {p : Int} {l : List Int} (hp : Prm p) (hc : Cf p l) (ht : Told l) (hn : l ≠ []) : InvOk p (l.getLastD 0) := by
  have h1 := hc _ (lastD_mem hn)
  have h2 : l.getLastD 0 ≠ 0 := ht.resolve_left hn
  exact inv_ok hp (by omega) h1.2
theorem restGo_len {p g : Int} {other : List Int} (ho : other ≠ []) (hk : ∀ x : Int, (x - x * g % p * other.getLastD 0) % p = 0) : ∀ (n : Nat) (l : List Int), l.length ≤ n → (restGo p g other n l).length < other.length ∧ ((restGo p g other n l) = l ∨ Told (restGo p g other n l))
  | 0, l, h => by
    have : other.length ≠ 0 := fun e => ho (List.length_eq_zero_iff.mp e)
    have h2 : l.length = 0 := by omega
    refine ⟨?_, .inl rfl⟩
    show l.length < _
    omega
  | n + 1, l, h => by
    unfold restGo
    split
    · rename_i c; exact ⟨c, .inl rfl⟩
    · rename_i c
      have s := sub_shorter (p := p) (inv := g) (other := other) (l := l) ho (by omega) hk
      have ih := restGo_len ho hk n _ (show (wn (subRow p (l.getLastD 0 * g % p) (l.length - other.length) other 0 l)).length ≤ n by omega)
      refine ⟨ih.1, .inr ?_⟩
      rcases ih.2 with e | e
      · rw [e]; exact wn_told _
      · exact e
theorem cf_subRow {p : Int} (hp : 0 < p) (f : Int) (st : Nat) : ∀ (ys : List Int) (j : Nat) (l : List Int), Cf p l → Cf p (subRow p f st ys j l)
  | [], _, _, h => h
  | y :: ys, j, l, h => by rw [subRow_cons]; exact cf_subRow hp f st ys _ _ (cf_set hp h _ _)
theorem cf_restGo {p g : Int} (hp : 0 < p) {other : List Int} : ∀ (n : Nat) (l : List Int), Cf p l → Cf p (restGo p g other n l)
  | 0, _, h => h
  | n + 1, l, h => by
    unfold restGo
    split
    · exact h
    · exact cf_restGo hp n _ (cf_wn (cf_subRow hp _ _ _ _ _ h))
theorem restP_facts {p : Int} {one other : List Int} (hp : 0 < p) (ho : other ≠ []) (hi : InvOk p (other.getLastD 0)) (hc : Cf p one) : (restP p one other).length < other.length ∧ Cf p (restP p one other) ∧ (Told one → Told (restP p one other)) := by
  obtain ⟨g, e, hk⟩ := hi
  unfold restP
  rw [e]
  have h := restGo_len (p := p) (g := g) ho hk one.length one (Nat.le_refl _)
  refine ⟨h.1, cf_restGo hp _ _ hc, fun ht => ?_⟩
  rcases h.2 with h | h
  · show Told (restGo p g other one.length one); rw [h]; exact ht
  · exact h
theorem cf_pRow {p : Int} (hp : 0 < p) (i : Nat) (x : Int) : ∀ (ys : List Int) (j : Nat) (s : List Int), Cf p s → Cf p (pRow p i x ys j s)
  | [], _, _, h => h
  | y :: ys, j, s, h => by rw [pRow_cons]; exact cf_pRow hp i x ys _ _ (cf_set hp h _ _)
theorem cf_pAll {p : Int} (hp : 0 < p) (ys : List Int) : ∀ (xs : List Int) (i : Nat) (s : List Int), Cf p s → Cf p (pAll p ys xs i s)
  | [], _, _, h => h
  | x :: xs, i, s, h => by rw [pAll_cons]; exact cf_pAll hp ys xs _ _ (cf_pRow hp _ _ _ _ _ h)
theorem pAll_len (p : Int) (ys : List Int) : ∀ (xs : List Int) (i : Nat) (s : List Int), (pAll p ys xs i s).length = s.length
  | [], _, _ => rfl
  | x :: xs, i, s => by rw [pAll_cons, pAll_len p ys xs, pRow_len]
theorem cf_zeros {p : Int} (hp : 0 < p) (n : Nat) : Cf p (List.replicate n 0) := fun x hx => by
  rw [(List.mem_replicate.mp hx).2]; omega
theorem prodP_facts {p : Int} (hp : 0 < p) (xs ys : List Int) : Cf p (prodP p xs ys) ∧ (prodP p xs ys).length ≤ xs.length + ys.length ∧ Told (prodP p xs ys) := by
  refine ⟨cf_wn (cf_pAll hp _ _ _ _ (cf_zeros hp _)), ?_, wn_told _⟩
  have h := wn_len (pAll p ys xs 0 (List.replicate (xs.length + ys.length - 1) 0))
  rw [pAll_len, List.length_replicate] at h
  unfold prodP
  omega
/-! ### common_of -/
def comGo (p : Int) : Nat → List Int → List Int → List Int
  | 0, a, _ => a
  | n + 1, a, b => if b = [] then a else comGo p n b (restP p a b)
def commonP (p : Int) (a b : List Int) : List Int := comGo p (b.length + 1) a b
/-- a list, new or not -/
def RetS (K : Fr) (xs : List V) (H : Hp) (Q : VK) : Prop := ∀ p H2, Ex H H2 → SqL K H2 p xs → Q (.ref p) H2
def sp_common_of (K : Fr) : Sp := fun vs H Q _ => ∃ p a b xs ys, vs = [.int p, .ref a, .ref b] ∧ SqL K H a (xs.map V.int) ∧ SqL K H b (ys.map V.int) ∧ Prm p ∧ xs.length ≤ 1000 ∧ ys.length ≤ 1000 ∧ Cf p xs ∧ Cf p ys ∧ Told xs ∧ Told ys ∧ RetS K ((commonP p xs ys).map V.int) H Q
theorem len_common_of (vs : List V) (H : Hp) (Q : VK) (E : XK) (h : sp_common_of K vs H Q E) : vs.length = 3 := by obtain ⟨_, _, _, _, _, rfl, _⟩ := h; rfl
def t_common_of (K : Fr) : TS := (tSeq (tWhile (tTest (tOp (rNeD K) (tVar 2) (tLst tNil))) (tPar 1 2 (tCons (tVar 2) (tCons (tCall (sp_rest_of K) [] E0 (tCons (tVar 0) (tCons (tVar 1) (tCons (tVar 2) tNil)))) tNil)))) (tRet (tVar 1)))
theorem pure_common_of (vs : List V) (H : Hp) (Q : VK) (E : XK) (h : sp_common_of K vs H Q E) : t_common_of K { nx := fun _ H' => Q .non H', rt := Q } (start ["prime", "one", "other"] vs) H := by
  obtain ⟨p, a, b, xs, ys, rfl, ha, hb, hp, hx, hy, cx, cy, tx, ty, q⟩ := h
  have hpl := hp.le
  refine tSeqI ⟨fun m σ H' => ∃ a b s t n, σ = [some (.int p), some (.ref a), some (.ref b)] ∧ m = t.length ∧ Ex H H' ∧ SqL K H' a (s.map V.int) ∧ SqL K H' b (t.map V.int) ∧ s.length ≤ 1000 ∧ t.length ≤ 1000 ∧ Cf p s ∧ Cf p t ∧ Told s ∧ Told t ∧ t.length < n ∧ comGo p n s t = commonP p xs ys,
    ⟨_, a, b, xs, ys, ys.length + 1, rfl, rfl, Ex.refl _, ha, hb, hx, hy, cx, cy, tx, ty, by omega, rfl⟩, ?_⟩
  rintro m σ H' ⟨a, b, s, t, n, rfl, rfl, eH, ha, hb, hs, ht, cs, ct, ts, tt, hn, hF⟩
  obtain ⟨n, rfl⟩ : ∃ n', n = n' + 1 := ⟨n - 1, by omega⟩
  refine ⟨_, rfl, Nat.zero_le _, ?_⟩
  intro l n1; generalize E_ : upd _ l _ = H1; have e1 := genE E_ n1; have h1 := genS E_; clear E_
  refine ⟨dI t, dI [], dp_ints (Ex.seq e1 hb), dp_ints (sqL h1), shaped_ints _, shaped_ints _, _, rfl, ?_⟩
  rw [eqv_ints]
  by_cases c : t = []
  · rw [decide_eq_true c]
    refine iteF ⟨_, rfl, ?_⟩
    have e : commonP p xs ys = s := by rw [← hF]; show (if t = [] then s else _) = s; rw [if_pos c]
    exact q a H1 (Ex.trans eH e1) (by rw [e]; exact Ex.seq e1 ha)
  · rw [decide_eq_false c]
    refine iteT ?_
    have hi := told_inv hp ct tt c
    have f := restP_facts (by omega) c hi cs
    refine ⟨fun σ' H2 => ∃ l2, σ' = [some (.int p), some (.ref b), some (.ref l2)] ∧ Ex H1 H2 ∧ H2 l2 = some (.lst ((restP p s t).map V.int)), fun σ' H2 ⟨l2, h1, h2, h3⟩ => ⟨_, f.1, b, l2, t, restP p s t, n, h1, rfl, Ex.trans (Ex.trans eH e1) h2, Ex.seq h2 (Ex.seq e1 hb), sqL h3, ht, by omega, ct, f.2.1, tt, f.2.2 ts, by omega, ?_⟩, ?_⟩
    · rw [← hF]; show _ = (if t = [] then s else _); rw [if_neg c]
    · refine ⟨_, rfl, _, rfl, _, rfl, _, rfl, p, a, b, s, t, rfl, Ex.seq e1 ha, Ex.seq e1 hb, hpl, hs, c, ht, cs, ct, hi, fun l2 H2 n2 e2 h2 => ?_⟩
      exact ⟨_, _, rfl, l2, rfl, e2, h2⟩
/-! ### power_rest -/
def prGo (p : Int) (one md : List Int) : Nat → List Int → List Int
  | 0, f => f
  | n + 1, f => prGo p one md n (restP p (prodP p f one) md)
def powRest (p : Int) (one : List Int) (many : Nat) (md : List Int) : List Int := prGo p one md many (restP p [1] md)
def sp_power_rest (K : Fr) : Sp := fun vs H Q _ => ∃ p a b xs ys, ∃ n : Nat, vs = [.int p, .ref a, .int n, .ref b] ∧ SqL K H a (xs.map V.int) ∧ SqL K H b (ys.map V.int) ∧ Prm p ∧ xs.length ≤ 100 ∧ ys ≠ [] ∧ ys.length ≤ 100 ∧ n ≤ 1000 ∧ Cf p xs ∧ Cf p ys ∧ Told ys ∧
  Evl.RetL ((powRest p xs n ys).map V.int) H Q
theorem len_power_rest (vs : List V) (H : Hp) (Q : VK) (E : XK) (h : sp_power_rest K vs H Q E) : vs.length = 4 := by obtain ⟨_, _, _, _, _, _, rfl, _⟩ := h; rfl
def t_power_rest (K : Fr) : TS := (tSeq (tAsg (tCall (sp_rest_of K) [] E0 (tCons (tVar 0) (tCons (tLst (tCons (tC (.int 1)) tNil)) (tCons (tVar 3) tNil)))) (gName 4)) (tSeq (tFor (iRng1 (tCons (tVar 2) tNil)) (gName 5) (tAsg (tCall (sp_rest_of K) [] E0 (tCons (tVar 0) (tCons (tCall (sp_product_of K) [] E0 (tCons (tVar 0) (tCons (tVar 4) (tCons (tVar 1) tNil)))) (tCons (tVar 3) tNil)))) (gName 4))) (tRet (tVar 4))))
theorem cf_one {p : Int} (h : 2 ≤ p) : Cf p [1] := fun x hx => by
  rcases List.mem_cons.mp hx with rfl | hx
  · omega
  · cases hx
theorem pure_power_rest (vs : List V) (H : Hp) (Q : VK) (E : XK) (h : sp_power_rest K vs H Q E) : t_power_rest K { nx := fun _ H' => Q .non H', rt := Q } (start ["prime", "one", "many", "modulus", "found", "_"] vs) H := by
  obtain ⟨p, a, b, xs, ys, n, rfl, ha, hb, hp, hx, hn, hy, hz, cx, cy, ty, q⟩ := h
  have hpl := hp.le
  have hi := told_inv hp cy ty hn
  have f0 := restP_facts (p := p) (one := [1]) (by omega) hn hi (cf_one (by omega))
  refine ⟨_, rfl, by decide, ?_⟩
  intro l0 n0; generalize E_ : upd _ l0 _ = H0; have e0 := genE E_ n0; have h0 := genS E_; clear E_
  refine ⟨_, rfl, p, l0, b, [1], ys, rfl, sqL h0, Ex.seq e0 hb, hpl, by decide, hn, by omega, cf_one (by omega), cy, hi, fun l H1 n1 e1 h1 => ?_⟩
  walk_at "sl"
  refine forR1 (n := (n : Int)) (fun i σ H' => ∃ l y5 s, σ = [some (.int p), some (.ref a), some (.int n), some (.ref b), some (.ref l), y5] ∧ Ex H H' ∧ H l = none ∧ H' l = some (.lst (s.map V.int)) ∧ s.length < ys.length ∧ Cf p s ∧ prGo p xs ys (n - i) s = powRest p xs n ys)
    (fun Q q => ⟨_, rfl, q⟩) (by omega) ⟨l, none, _, rfl, Ex.trans e0 e1, Ex.back e0 n1, h1, f0.1, f0.2.1, rfl⟩ (fun i σ H' hi' hP => ?_) (fun σ H' hP => ?_)
  · obtain ⟨l, y5, s, rfl, eH, nl, hl, hs, cs, hF⟩ := hP
    have g := prodP_facts (p := p) (by omega) s xs
    have f := restP_facts (p := p) (by omega) hn hi g.1
    refine ⟨_, rfl, _, rfl, _, rfl, _, rfl, p, l, a, s, xs, rfl, sqL hl, Ex.seq eH ha, by omega, by omega, by omega, cs, fun l2 H2 n2 e2 h2 => ?_⟩
    refine ⟨_, rfl, p, l2, b, _, ys, rfl, sqL h2, Ex.seq e2 (Ex.seq eH hb), hpl, by omega, hn, by omega, g.1, cy, hi, fun l3 H3 n3 e3 h3 => ?_⟩
    refine ⟨l3, _, _, rfl, Ex.trans eH (Ex.trans e2 e3), Ex.back eH (Ex.back e2 n3), h3, f.1, f.2.1, ?_⟩
    rw [← hF]
    have : n - i = (n - (i + 1)) + 1 := by omega
    rw [this]
    rfl
  · obtain ⟨l, y5, s, rfl, eH, nl, hl, hs, cs, hF⟩ := hP
    have e : n - (n : Int).toNat = 0 := by omega
    rw [e] at hF
    refine ⟨_, rfl, q l H' nl eH ?_⟩
    rw [← hF]
    exact hl
/-! ### less_x -/
def lessX (p : Int) (one : List Int) : List Int := wn ((one ++ List.replicate (2 - one.length) 0).set 1 (((one ++ List.replicate (2 - one.length) 0).getD 1 0 - 1) % p))
def sp_less_x (K : Fr) : Sp := fun vs H Q _ => ∃ p a xs, vs = [.int p, .ref a] ∧ H a = some (.lst (xs.map V.int)) ∧ Prm p ∧ xs.length ≤ 1000 ∧ Evl.RetL ((lessX p xs).map V.int) H Q
theorem len_less_x (vs : List V) (H : Hp) (Q : VK) (E : XK) (h : sp_less_x K vs H Q E) : vs.length = 2 := by obtain ⟨_, _, _, rfl, _⟩ := h; rfl
def t_less_x (K : Fr) : TS := (tSeq (tAsg (tOp rCat (tVar 1) (tOp rRep (tLst (tCons (tC (.int 0)) tNil)) (tOp rSubI (tC (.int 2)) (tCB (rLenA K) (tCons (tVar 1) tNil))))) (gName 2)) (tSeq (tAsg (tOp rModI (tOp rSubI (tOp (rIxL K) (tVar 2) (tC (.int 1))) (tC (.int 1))) (tVar 0)) (gSub (tVar 2) (tC (.int 1)) rSetL)) (tRet (tCall (sp_without_noughts K) [] E0 (tCons (tVar 2) tNil)))))
theorem pure_less_x (vs : List V) (H : Hp) (Q : VK) (E : XK) (h : sp_less_x K vs H Q E) : t_less_x K { nx := fun _ H' => Q .non H', rt := Q } (start ["prime", "one", "row"] vs) H := by
  obtain ⟨p, a, xs, rfl, ha, hp, hx, q⟩ := h
  have hpl := hp.le
  refine ⟨_, rfl, by decide, ?_⟩
  intro l0 n0; generalize E_ : upd _ l0 _ = H0; have e0 := genE E_ n0; have h0 := genS E_; clear E_
  refine ⟨_, rfl, a, _, rfl, .inl (sqL (e0 _ _ ha)), _, _, rfl, rfl, l0, _, _, rfl, rfl, h0, by rw [List.length_map]; omega, by omega, small_sz (by simp; omega), ?_⟩
  rw [List.length_map]
  have eK : ((2 : Int) - (xs.length : Int)).toNat = 2 - xs.length := by omega
  rw [eK, rep_ints]
  intro l1 n1; generalize E_ : upd _ l1 _ = H1; have e1 := genE E_ n1; have h1 := genS E_; clear E_
  refine ⟨a, l1, _, _, rfl, rfl, e1 _ _ (e0 _ _ ha), h1, small_sz (by simp; omega), ?_⟩
  rw [← List.map_append]
  intro l n2; generalize E_ : upd _ l _ = H2; have e2 := genE E_ n2; have h2 := genS E_; clear E_
  have hl : 1 < (xs ++ List.replicate (2 - xs.length) 0).length := by simp; omega
  generalize hrow : xs ++ List.replicate (2 - xs.length) 0 = row at h2 hl
  have nl : H l = none := Ex.back e0 (Ex.back e1 n2)
  refine ⟨_, rfl, l, _, _, _, rfl, rfl, sqL h2, at_ints (j := 1) hl, _, _, rfl, rfl, _, rfl, _, _, rfl, rfl, by omega, ?_⟩
  refine ⟨_, rfl, l, _, _, 1, rfl, rfl, h2, ixN_of rfl (by simpa using hl), ?_⟩
  have e02 : Ex H (upd H2 l (.lst ((row.map V.int).set 1 (.int ((row.getD 1 0 - 1) % p))))) := Ex.mut (Ex.trans e0 (Ex.trans e1 e2)) nl
  have hl2 : (upd H2 l (.lst ((row.map V.int).set 1 (.int ((row.getD 1 0 - 1) % p))))) l = some (.lst ((row.set 1 ((row.getD 1 0 - 1) % p)).map V.int)) := by rw [upd_same, set_ints]
  have e2 : lessX p xs = wn (row.set 1 ((row.getD 1 0 - 1) % p)) := by rw [← hrow]; rfl
  have hlen : row.length ≤ 2000 := by rw [← hrow]; simp; omega
  exact ⟨_, rfl, l, _, rfl, .inl (sqL hl2), by rw [List.length_set]; omega, fun p2 H3 n3 e3 h3 => q p2 H3 (Ex.back e02 n3) (Ex.trans e02 e3) (by rw [e2]; exact h3)⟩
theorem lessX_facts {p : Int} (hp : 0 < p) {xs : List Int} (h : Cf p xs) : Cf p (lessX p xs) ∧ Told (lessX p xs) ∧ (lessX p xs).length ≤ xs.length + 2 := by
  refine ⟨cf_wn (cf_set hp ?_ _ _), wn_told _, ?_⟩
  · intro x hx
    rcases List.mem_append.mp hx with hx | hx
    · exact h x hx
    · exact cf_zeros hp _ x hx
  · have := wn_len ((xs ++ List.replicate (2 - xs.length) 0).set 1 (((xs ++ List.replicate (2 - xs.length) 0).getD 1 0 - 1) % p))
    rw [List.length_set, List.length_append, List.length_replicate] at this
    unfold lessX
    omega
/-! ### cannot_be_parted -/
def cbGo (p : Int) (md : List Int) : Nat → List Int → Bool
  | 0, _ => true
  | n + 1, t => if 1 < (commonP p md (lessX p (powRest p t p.toNat md))).length then false else cbGo p md n (powRest p t p.toNat md)
def noPart (p : Int) (md : List Int) : Bool := cbGo p md ((md.length - 1) / 2) [0, 1]
def sp_cannot_be_parted (K : Fr) : Sp := fun vs H Q _ => ∃ p a xs, vs = [.int p, .ref a] ∧ SqL K H a (xs.map V.int) ∧ Prm p ∧ 3 ≤ xs.length ∧ xs.length ≤ 100 ∧ Cf p xs ∧ Told xs ∧ Evl.RetV (.bl (noPart p xs)) H Q
theorem len_cannot_be_parted (vs : List V) (H : Hp) (Q : VK) (E : XK) (h : sp_cannot_be_parted K vs H Q E) : vs.length = 2 := by obtain ⟨_, _, _, rfl, _⟩ := h; rfl
def t_cannot_be_parted (K : Fr) : TS := (tSeq (tAsg (tLst (tCons (tC (.int 0)) (tCons (tC (.int 1)) tNil))) (gName 2)) (tSeq (tFor (iRng1 (tCons (tOp rFdivI (tOp rSubI (tCB (rLenA K) (tCons (tVar 1) tNil)) (tC (.int 1))) (tC (.int 2))) tNil)) (gName 3) (tSeq (tAsg (tCall (sp_power_rest K) [] E0 (tCons (tVar 0) (tCons (tVar 2) (tCons (tVar 0) (tCons (tVar 1) tNil))))) (gName 2)) (tIfS (tTest (tOp rGtI (tCB (rLenA K) (tCons (tCall (sp_common_of K) [] E0 (tCons (tVar 0) (tCons (tVar 1) (tCons (tCall (sp_less_x K) [] E0 (tCons (tVar 0) (tCons (tVar 2) tNil))) tNil)))) tNil)) (tC (.int 1)))) (tRet (tC (.bl false))) tNext))) (tRet (tC (.bl true)))))
theorem prGo_facts {p : Int} (hp : 0 < p) {md : List Int} (hn : md ≠ []) (hi : InvOk p (md.getLastD 0)) (one : List Int) : ∀ (n : Nat) (f : List Int), f.length < md.length ∧ Cf p f → (prGo p one md n f).length < md.length ∧ Cf p (prGo p one md n f)
  | 0, _, h => h
  | n + 1, f, h => by
    have g := prodP_facts hp f one
    have r := restP_facts hp hn hi g.1
    exact prGo_facts hp hn hi one n _ ⟨r.1, r.2.1⟩
theorem pure_cannot_be_parted (vs : List V) (H : Hp) (Q : VK) (E : XK) (h : sp_cannot_be_parted K vs H Q E) : t_cannot_be_parted K { nx := fun _ H' => Q .non H', rt := Q } (start ["prime", "modulus", "turned", "_"] vs) H := by
  obtain ⟨p, a, xs, rfl, ha, hp, h3, hx, cx, tx, q⟩ := h
  have hpl := hp.le
  have hn : xs ≠ [] := fun e => by subst e; simp at h3
  have hi := told_inv hp cx tx hn
  refine ⟨by decide, ?_⟩
  intro l0 n0; generalize E_ : upd _ l0 _ = H0; have e0 := genE E_ n0; have h0 := genS E_; clear E_
  walk_at "sl"
  have h0' : H0 l0 = some (.lst (([0, 1] : List Int).map V.int)) := h0
  have cz : Cf p [0, 1] := fun x hx => by
    rcases List.mem_cons.mp hx with rfl | hx
    · omega
    · rcases List.mem_cons.mp hx with rfl | hx
      · omega
      · cases hx
  refine forR1 (n := ((xs.length : Int) - 1) / 2) (fun i σ H' => ∃ l y3 t, σ = [some (.int p), some (.ref a), some (.ref l), y3] ∧ Ex H H' ∧ H' l = some (.lst (t.map V.int)) ∧ t.length < xs.length ∧ Cf p t ∧ cbGo p xs ((xs.length - 1) / 2 - i) t = noPart p xs)
    (fun Q q => ⟨_, rfl, a, _, rfl, .inl (Ex.seq e0 ha), _, _, rfl, rfl, _, _, rfl, rfl, ⟨by decide, by decide⟩, by rw [List.length_map]; exact q⟩) (by omega) ⟨l0, none, [0, 1], rfl, e0, h0', by show 2 < _; omega, cz, rfl⟩ (fun i σ H' hi' hP => ?_) (fun σ H' hP => ?_)
  · obtain ⟨l, y3, t, rfl, eH, hl, hs, ct, hF⟩ := hP
    have f0 := restP_facts (p := p) (one := [1]) (by omega) hn hi (cf_one (by omega))
    have g : (powRest p t p.toNat xs).length < xs.length ∧ Cf p (powRest p t p.toNat xs) := prGo_facts (by omega) hn hi t _ _ ⟨f0.1, f0.2.1⟩
    have hlx := lessX_facts (p := p) (by omega) g.2
    refine ⟨_, rfl, _, rfl, _, rfl, _, rfl, p, l, a, t, xs, p.toNat, ?_, sqL hl, Ex.seq eH ha, hp, by omega, hn, hx, by omega, ct, cx, tx, fun l2 H2 n2 e2 h2 => ?_⟩
    · have : ((p.toNat : Nat) : Int) = p := by omega
      rw [this]; rfl
    refine ⟨_, rfl, _, rfl, _, rfl, _, rfl, p, l2, _, rfl, h2, hp, by omega, fun l4 H4 n4 e4 h4 => ?_⟩
    refine ⟨p, a, l4, xs, _, rfl, Ex.seq e4 (Ex.seq e2 (Ex.seq eH ha)), sqL h4, hp, by omega, by omega, cx, hlx.1, tx, hlx.2.1, fun l5 H5 e5 h5 => ?_⟩
    refine ⟨l5, _, rfl, .inl h5, _, _, rfl, rfl, _, rfl, ?_⟩
    rw [List.length_map]
    have en : (xs.length - 1) / 2 - i = ((xs.length - 1) / 2 - (i + 1)) + 1 := by omega
    rw [en] at hF
    have eU : cbGo p xs (((xs.length - 1) / 2 - (i + 1)) + 1) t = if 1 < (commonP p xs (lessX p (powRest p t p.toNat xs))).length then false else cbGo p xs ((xs.length - 1) / 2 - (i + 1)) (powRest p t p.toNat xs) := rfl
    rw [eU] at hF
    by_cases c : 1 < (commonP p xs (lessX p (powRest p t p.toNat xs))).length
    · rw [decide_eq_true (by omega)]
      rw [if_pos c] at hF
      refine iteT ?_
      have := q H5 (Ex.trans eH (Ex.trans e2 (Ex.trans e4 e5)))
      rw [← hF] at this
      exact this
    · rw [decide_eq_false (by omega)]
      rw [if_neg c] at hF
      exact iteF ⟨l2, _, _, rfl, Ex.trans eH (Ex.trans e2 (Ex.trans e4 e5)), e5 _ _ (e4 _ _ h2), g.1, g.2, hF⟩
  · obtain ⟨l, y3, t, rfl, eH, hl, hs, ct, hF⟩ := hP
    have e : (xs.length - 1) / 2 - (((xs.length : Int) - 1) / 2).toNat = 0 := by omega
    rw [e] at hF
    have := q H' eH
    rw [← hF] at this
    exact this
/-! ### check_prime, is_modulus -/
def PrimesOk (K : Fr) : Prop := ∀ H, SqT K H (He.ga K "PRIMES") [.int 2, .int 3, .int 5, .int 7]
def sp_check_prime (K : Fr) : Sp := fun vs H Q _ => ∃ p, vs = [.int p] ∧ Prm p ∧ Evl.RetV .non H Q
theorem len_check_prime (vs : List V) (H : Hp) (Q : VK) (E : XK) (h : sp_check_prime K vs H Q E) : vs.length = 1 := by obtain ⟨_, rfl, _⟩ := h; rfl
def t_check_prime (K : Fr) : TS := (tIfS (tOr (tNot (tB (tCall (sp_is_integer K) [] E0 (tCons (tVar 0) tNil)))) (tTest (tOp (rIn K true) (tVar 0) (tC (.ref (He.ga K "PRIMES")))))) tNever tNext)
theorem pure_check_prime (hP : PrimesOk K) (vs : List V) (H : Hp) (Q : VK) (E : XK) (h : sp_check_prime K vs H Q E) : t_check_prime K { nx := fun _ H' => Q .non H', rt := Q } (start ["value"] vs) H := by
  obtain ⟨p, rfl, hp, q⟩ := h
  refine ⟨_, rfl, _, rfl, .int p, true, rfl, iteF ⟨_, rfl, _, _, rfl, .inr (hP H), rfl, rfl, _, rfl, ?_⟩⟩
  have e : inV (.int p) [.int 2, .int 3, .int 5, .int 7] = true := by
    rcases hp with rfl | rfl | rfl | rfl <;> decide
  rw [e]
  exact iteF (q H (Ex.refl _))
def intOf : V → Int | .int i => i | _ => 0
def isModV (p : Int) : Option (List V) → Bool
  | none => false
  | some xs => decide (3 ≤ xs.length) && decide (xs.length ≤ 13) && (xs.all (below p) && (decide ((xs.map intOf).getLastD 0 = 1) && noPart p (xs.map intOf)))
def sp_is_modulus (K : Fr) : Sp := fun vs H Q _ => ∃ p v o, vs = [.int p, v] ∧ Prm p ∧ Itm K H v o ∧ (∀ xs, o = some xs → ∀ x ∈ xs, Kd K H x) ∧ Evl.RetV (.bl (isModV p o)) H Q
theorem len_is_modulus (vs : List V) (H : Hp) (Q : VK) (E : XK) (h : sp_is_modulus K vs H Q E) : vs.length = 2 := by obtain ⟨_, _, _, rfl, _⟩ := h; rfl
def t_is_modulus (K : Fr) : TS := (tSeq (tDrop (tCall (sp_check_prime K) [] E0 (tCons (tVar 0) tNil))) (tSeq (tIfS (tOr (tNot (tB (tCall (sp_is_list K) [] E0 (tCons (tVar 1) tNil)))) (tNot (tTest (tChain rLeI rLeI (tC (.int 3)) (tCB (rLenA K) (tCons (tVar 1) tNil)) (tC (.int 13)))))) (tRet (tC (.bl false))) tNext) (tRet (tAndV (tCall (sp_are_below K) [] E0 (tCons (tVar 1) (tCons (tVar 0) tNil))) (tAndV (tOp rEq (tOp (rIxA K) (tVar 1) (tUn rNeg (tC (.int 1)))) (tC (.int 1))) (tCall (sp_cannot_be_parted K) [] E0 (tCons (tVar 0) (tCons (tCB (rListA K) (tCons (tVar 1) tNil)) tNil))))))))
theorem ints_of {p : Int} : ∀ {xs : List V}, xs.all (below p) = true → xs = (xs.map intOf).map V.int ∧ Cf p (xs.map intOf)
  | [], _ => ⟨rfl, fun x hx => by cases hx⟩
  | x :: r, h => by
    rw [List.all_cons, Bool.and_eq_true] at h
    obtain ⟨e, c⟩ := ints_of (xs := r) h.2
    cases x with
    | int i =>
      have h1 : (decide (0 ≤ i) && decide (i < p)) = true := h.1
      rw [Bool.and_eq_true, decide_eq_true_eq, decide_eq_true_eq] at h1
      refine ⟨by rw [List.map_cons, List.map_cons, ← e]; rfl, fun y hy => ?_⟩
      rcases List.mem_cons.mp hy with rfl | hy
      · exact h1
      · exact c y hy
    | _ => cases h.1
theorem pure_is_modulus (vs : List V) (H : Hp) (Q : VK) (E : XK) (h : sp_is_modulus K vs H Q E) : t_is_modulus K { nx := fun _ H' => Q .non H', rt := Q } (start ["prime", "value"] vs) H := by
  obtain ⟨p, v, o, rfl, hp, hv, hk, q⟩ := h
  refine ⟨_, rfl, p, rfl, hp, fun H0 e0 => ?_⟩
  refine ⟨_, rfl, v, o, rfl, Itm.ex e0 hv, fun H1 e1 => ⟨_, rfl, ?_⟩⟩
  cases hv with
  | oth ty k1 k2 => exact iteT (iteT (q H1 (Ex.trans e0 e1)))
  | seq hs =>
    rename_i a xs
    have e01 := Ex.trans e0 e1
    refine iteF ⟨_, rfl, a, xs, rfl, Ex.any e01 hs, _, _, rfl, rfl, _, rfl, ?_⟩
    by_cases c1 : (3 : Int) ≤ (xs.length : Int)
    · rw [decide_eq_true c1]
      refine iteT ⟨_, _, rfl, rfl, _, rfl, ?_⟩
      by_cases c2 : (xs.length : Int) ≤ 13
      · rw [decide_eq_true c2]
        refine iteF ?_
        have eM : isModV p (some xs) = (xs.all (below p) && (decide ((xs.map intOf).getLastD 0 = 1) && noPart p (xs.map intOf))) := by
          show (decide (3 ≤ xs.length) && decide (xs.length ≤ 13) && (xs.all (below p) && (decide ((xs.map intOf).getLastD 0 = 1) && noPart p (xs.map intOf)))) = _
          rw [decide_eq_true (by omega : 3 ≤ xs.length), decide_eq_true (by omega : xs.length ≤ 13)]
          rfl
        rw [eM] at q
        refine ⟨_, rfl, _, rfl, .ref a, p, some xs, rfl, .seq (Ex.any e01 hs), fun ys e => by cases e; exact ⟨by omega, fun x hx => (hk _ rfl x hx).ex e01⟩, fun H2 e2 => ⟨_, rfl, ?_⟩⟩
        show if xs.all (below p) = true then _ else _
        cases hb : xs.all (below p) with
        | false =>
          rw [hb] at q
          exact iteF (q H2 (Ex.trans e01 e2))
        | true =>
          rw [hb] at q
          refine iteT ?_
          obtain ⟨ex, cx⟩ := ints_of hb
          generalize xs.map intOf = ns at ex cx q
          subst ex
          rw [List.length_map] at c1 c2
          have hn : ns ≠ [] := fun e => by subst e; simp at c1
          refine ⟨_, rfl, 1, rfl, ?_⟩
          refine ixA (Ex.any e2 (Ex.any e01 hs)) (at_lastI hn) ?_
          refine ⟨rfl, _, rfl, ?_⟩
          by_cases c3 : ns.getLastD 0 = 1
          · rw [decide_eq_true (by rw [c3])]
            rw [decide_eq_true c3] at q
            refine iteT ⟨_, rfl, _, rfl, a, _, rfl, Ex.any e2 (Ex.any e01 hs), ?_⟩
            intro l3 n3; generalize E_ : upd _ l3 _ = H3; have e3 := genE E_ n3; have h3 := genS E_; clear E_
            exact ⟨p, l3, ns, rfl, sqL h3, hp, by omega, by omega, cx, .inr (by rw [c3]; decide), fun H4 e4 => q H4 (Ex.trans e01 (Ex.trans e2 (Ex.trans e3 e4)))⟩
          · rw [decide_eq_false (fun e => c3 (V.int.inj e))]
            rw [decide_eq_false c3] at q
            exact iteF (q H2 (Ex.trans e01 e2))
      · rw [decide_eq_false c2]
        have eM : isModV p (some xs) = false := by
          show (decide (3 ≤ xs.length) && decide (xs.length ≤ 13) && (xs.all (below p) && (decide ((xs.map intOf).getLastD 0 = 1) && noPart p (xs.map intOf)))) = _
          rw [decide_eq_false (by omega : ¬ xs.length ≤ 13), Bool.and_false]
          rfl
        rw [eM] at q
        exact iteT (q H1 e01)
    · rw [decide_eq_false c1]
      have eM : isModV p (some xs) = false := by
        show (decide (3 ≤ xs.length) && decide (xs.length ≤ 13) && (xs.all (below p) && (decide ((xs.map intOf).getLastD 0 = 1) && noPart p (xs.map intOf)))) = _
        rw [decide_eq_false (by omega : ¬ 3 ≤ xs.length)]
        rfl
      rw [eM] at q
      exact iteF ⟨_, rfl, iteT (q H1 e01)⟩

end TP
/-! TPMore -/
set_option maxHeartbeats 4000000
/-! # Calls by keywords alone, comprehensions over pairs, the pot's heap, properties' looks -/
namespace TP
open PySem PySem.Spec PyProof.Rows L2
/-! ### keywords -/
def permV {α : Type} (ix : List Nat) (us ws : List α) : List α := ix.filterMap fun i => (us ++ ws)[i]?
theorem permV_rel {vs : List V} {us : List Value} {zs : List V} {ws : List Value} (r : Vals vs us) (z : Vals zs ws) : ∀ ix : List Nat, Vals (permV ix vs zs) (permV ix us ws)
  | [] => .nil
  | i :: ix => by
    have ih := permV_rel r z ix
    have ra := r.append z
    unfold permV at ih ⊢
    rw [List.filterMap_cons, List.filterMap_cons]
    cases e : (vs ++ zs)[i]? with
    | none =>
      have e2 : (us ++ ws)[i]? = none := Vals.none_of ra e
      rw [e2]
      exact ih
    | some x =>
      obtain ⟨u, e2, h2⟩ := Vals.get ra e
      rw [e2]
      exact .cons h2 ih
section
variable {K : Fr} {x qual : Str} {params : Arguments} {body : List Stmt} {scope : Scope} {f : Addr} {fd : FuncData} {ps : List Str}
theorem kbN (F : FunD K x qual params body scope [] [] f fd) (n : Nat) (ks : List Str) (ix : List Nat)
    (h : ∀ (kV doc pm : Value) (an : Option Addr) (cdv ct : Value) (us ws : List Value), us.length = n → ws.length = ks.length → bindArgs (PySem.W.fnOf x qual params body scope .none kV doc pm an cdv ct) ⟨us, ks.zip ws⟩ = pure (ps.zip (permV ix us ws))) : KBn K fd ps n ks (permV ix) (permV ix) := by
  obtain ⟨oc, od, dV, kV, doc, pm, an, cdv, ct, osl, rfl, lk, hcd, hD, hK⟩ := F.ex
  rcases hD with ⟨_, rfl⟩ | ⟨e, _⟩
  · exact ⟨fun s us ws _ l1 l2 => .of_eq (h kV doc pm an cdv ct us ws l1 l2), fun r z => permV_rel r z ix⟩
  · exact absurd rfl e
end
section
variable {X : Cx} {CX : CXT} {k n : Nat} {f : Addr} {fd : FuncData} {ps ks : List Str} {sp : Sp} {E : XK} {x : Str} {p pos : Pos} {kws : List Keyword} {tk : TA} {g : List Value → List Value → List Value} {gV : List V → List V → List V}
/-- f(k = v, ..), keywords alone -/
theorem pe_callN0 (F : FnOk X.prog X.w X.K X.mg X.base CX k f fd ps sp) (hr : Room k X.A) (hg : Gl X x) (hm : X.mg x = some (.ref f)) (hk : PySem.W.keepIn X.K (.ref f) = true) (hb : KBn X.K fd ps 0 ks g gV) (hx : Passes CX X E)
    (hkw : PK X kws tk) (hall : (backToKw pos (keywordEach kws X.env)).all (·.1.isSome) = true := by rfl) (hks : (backToKw pos (keywordEach kws X.env)).filterMap (·.1) = ks := by rfl)
    (hdb : (x == ("__debug__" : Str)) = false := by decide)
    (hpl : ((backTo pos (starEach [] X.env)).any (·.1) || (backToKw pos (keywordEach kws X.env)).any (·.1.isNone)) = false := by rfl) :
    PE X (.Call (.Name x p) [] kws pos) (tCallN 0 ks.length sp gV E tNil tk) := by
  refine ⟨fun pins s σ H Q I h => ?_⟩
  refine wpAny_Call_Name_kw (ld_glob I hg hm ?_ hdb)
  refine PySem.W.callWith_KW0 (h₀ := X.base) I.ok.mod.kin hk hall ?_ hpl
  refine thn (hkw.run pos pins s σ H _ I h) fun ws s2 ⟨zs, H2, I2, rz, l1, l2, q2⟩ => ⟨I2.kIn, ?_⟩
  rw [hks]
  exact run_fnN (us := []) (vs := []) F hr hb hx I2 .nil rz rfl l2 q2
end
/-! ### comprehensions over new pairs -/
section
variable {K : Fr} {σ : L2.St} {H : Hp} {te : TE} {Q : VK} {j1 j2 : Nat} {ta : TA}
/-- the places of the numbers in a list -/
def PlacesIn (kvs : List (Key × V)) (ns : List Int) : Prop := kvs.length ≤ 100000 ∧ ∀ (j : Nat) (x : Int), ns[j]? = some x → valV kvs (.inl x) = some (.int (j : Nat))
end
/-! ### a loop down -/
theorem forDown {D : Ends} {tb : TS} {σ : L2.St} {H : Hp} {j : Nat} {ta : TA} {lo hi : Int} (Pv : Nat → L2.St → Hp → Prop) (hv : ∀ Q : List V → Hp → Prop, Q [.int lo, .int hi, .int (-1)] H → ta σ H Q) (hn : -(2 ^ 62) ≤ lo ∧ lo < 2 ^ 62 ∧ -(2 ^ 62) ≤ hi ∧ hi < 2 ^ 62) (h0 : Pv 0 σ H)
    (hs : ∀ (i : Nat) σ H, i < (lo - hi).toNat → Pv i σ H → tb { D with nx := Pv (i + 1), ct := Pv (i + 1), bk := D.nx } (σ.set j (some (.int (lo - (i : Int))))) H) (hd : ∀ σ H, Pv (lo - hi).toNat σ H → D.nx σ H) : tFor (iRng3 ta) (gName j) tb D σ H := by
  refine hv _ ⟨lo, hi, -1, (lo - hi).toNat, rfl, RgC.neg hn.1 hn.2.1 hn.2.2.1 hn.2.2.2, for_rangeC (lo := lo) (c := -1) Pv h0 (fun i σ' H' hi' p => ?_) hd⟩
  have e0 : lo + (i : Int) * (-1) = lo - (i : Int) := by omega
  show tb _ (σ'.set j (some (.int (lo + (i : Int) * (-1))))) H'
  rw [e0]
  exact hs i σ' H' hi' p
/-! ### the pot of draws: what else is known stays -/
def ExP (p : Addr) (H H' : Hp) : Prop := ∀ x o, x ≠ p → H x = some o → H' x = some o
def Po (p : Addr) (H : Hp) : Prop := ∃ m s : Int, H p = some (.lst [.int m, .int s]) ∧ 0 ≤ m ∧ 0 ≤ s ∧ s < 2 ^ 40
theorem ExP.refl (p : Addr) (H : Hp) : ExP p H H := fun _ _ _ h => h
theorem ExP.trans {p : Addr} {H H1 H2 : Hp} (a : ExP p H H1) (b : ExP p H1 H2) : ExP p H H2 := fun x o n h => b x o n (a x o n h)
theorem Ex.p {p : Addr} {H H' : Hp} (e : Ex H H') : ExP p H H' := fun x o _ h => e x o h
theorem Po.ex {p : Addr} {H H' : Hp} (h : Po p H) (e : Ex H H') : Po p H' := by
  obtain ⟨m, s, h, r⟩ := h
  exact ⟨m, s, e _ _ h, r⟩
theorem Po.ne {p a : Addr} {H : Hp} (h : Po p H) (n : H a = none) : a ≠ p := by
  obtain ⟨m, s, h, _⟩ := h
  rintro rfl
  rw [n] at h; cases h
/-! ### looks of one's own: properties -/
end TP
/-! TPSeq -/
set_option maxHeartbeats 4000000
/-! # zip and enumerate over lists and tuples alike -/
namespace TP
open PySem PySem.Spec PyProof.Rows L2
/-- a list (false), a tuple (true) -/
def SqK (k : Bool) (K : Fr) (H : Hp) (a : Addr) (xs : List V) : Prop := if k = true then SqT K H a xs else SqL K H a xs
def ItK (k : Bool) (h : Heap) (it a : Addr) (i : Nat) : Prop := if k = true then h.IsTupleIter it a i else h.IsListIter it a i
def IsK (k : Bool) (h : Heap) (a : Addr) (xs : Array Value) : Prop := if k = true then h.IsTuple a xs else h.IsList a xs
theorem seqI {X : Cx} {pins : List (Addr × Obj)} {σ : L2.St} {H : Hp} {s : Shared} {k : Bool} {a : Addr} {xs : List V} (I : Inv X pins σ H s) (h : SqK k X.K H a xs) : ∃ its : List Value, Vals xs its ∧ IsK k s.heap a its.toArray := by
  cases k with
  | true =>
    obtain ⟨its, rv, p, _⟩ := I.tuple (show SqT X.K H a xs from h)
    exact ⟨its, rv, show s.heap.IsTuple a its.toArray from p⟩
  | false =>
    obtain ⟨its, rv, p, _⟩ := I.list (show SqL X.K H a xs from h)
    exact ⟨its, rv, p.isList⟩
theorem seqInj {X : Cx} {pins : List (Addr × Obj)} {σ : L2.St} {H : Hp} {s : Shared} {k : Bool} {a : Addr} {xs ys : List V} (I : Inv X pins σ H s) (h : SqK k X.K H a xs) (h' : SqK k X.K H a ys) : xs = ys := by
  cases k with
  | true => exact I.tuple_inj (show SqT X.K H a xs from h) (show SqT X.K H a ys from h')
  | false => exact I.list_inj (show SqL X.K H a xs from h) (show SqL X.K H a ys from h')
theorem drawsK {prog : Program} {w : World} {A : Around} (hh : A.handled = none) (k : Bool) (it a : Addr) (hne : a ≠ it) (items : Array Value) :
    Draws prog w A it [it, a] items.size (fun i v => items[i]? = some v) (fun i h => ItK k h it a i ∧ IsK k h a items) := by
  cases k with
  | true => exact Draws.tuple hh it a hne items
  | false => exact Draws.list hh it a hne items
def itO (k : Bool) (a : Addr) : Obj := if k = true then { cls := .type "tuple_iterator", data := .fields #[.ref a, .int 0 0] } else { cls := .type "list_iterator", data := .fields #[.ref a, .int 0 0] }
theorem beginsK (k : Bool) (a : Addr) (items : Array Value) : Begins (.ref a) (itO k a) fun h => IsK k h a items := by
  cases k with
  | true => exact begins_tuple a items
  | false => exact begins_list a items
theorem itK0 {k : Bool} {h : Heap} {it a : Addr} (e : h.get? it = some (itO k a)) : ItK k h it a 0 := by
  cases k with
  | true => exact ⟨_, e, rfl, rfl⟩
  | false => exact ⟨_, e, rfl, rfl⟩
theorem itK_at {k : Bool} {h h' : Heap} {it a : Addr} {i : Nat} (x : ItK k h it a i) (e : ∀ o, h.get? it = some o → h'.get? it = some o) : ItK k h' it a i := by
  cases k with
  | true => exact Heap.IsTupleIter.at (show h.IsTupleIter it a i from x) e
  | false => exact Heap.IsListIter.at (show h.IsListIter it a i from x) e
theorem itK_obj {k : Bool} {h : Heap} {it a : Addr} {i : Nat} (x : ItK k h it a i) : ∃ o, h.get? it = some o ∧ ∀ v, o.data ≠ .cell v := by
  cases k with
  | true =>
    obtain ⟨o, e, _, d⟩ := (show h.IsTupleIter it a i from x)
    exact ⟨o, e, fun v q => by rw [d] at q; cases q⟩
  | false =>
    obtain ⟨o, e, _, d⟩ := (show h.IsListIter it a i from x)
    exact ⟨o, e, fun v q => by rw [d] at q; cases q⟩
theorem isK_lt {k : Bool} {h : Heap} {a : Addr} {xs : Array Value} (x : IsK k h a xs) : a < h.objs.size := by
  cases k with
  | true =>
    obtain ⟨o, e, _⟩ := (show h.IsTuple a xs from x)
    exact Heap.lt_size e
  | false =>
    obtain ⟨o, e, _⟩ := (show h.IsList a xs from x)
    exact Heap.lt_size e
/-! ### zip -/
def ItzK (k1 k2 : Bool) (K : Fr) (a b : Addr) : It :=
  ⟨fun i H => ∃ (xs ys : List V) (x y : V), SqK k1 K H a xs ∧ SqK k2 K H b ys ∧ xs[i]? = some x ∧ ys[i]? = some y,
   fun i H v H' => ∃ T x y, v = .ref T ∧ H T = none ∧ H' = upd H T (.tup [x, y]) ∧ (∀ xs, SqK k1 K H a xs → xs[i]? = some x) ∧ ∀ ys, SqK k2 K H b ys → ys[i]? = some y,
   fun i H => ∃ xs ys : List V, SqK k1 K H a xs ∧ SqK k2 K H b ys ∧ i ≤ xs.length ∧ i ≤ ys.length ∧ (xs.length = i ∨ ys.length = i)⟩
theorem in1_handled {A : Around} (h : A.handled = none) : A.in1.handled = none := h
def iZipM (K : Fr) (ta : TA) : TI := fun σ H R => ta σ H fun vs H1 => ∃ (k1 k2 : Bool) (a b : Addr) (xs ys : List V), vs = [.ref a, .ref b] ∧ SqK k1 K H1 a xs ∧ SqK k2 K H1 b ys ∧ R (ItzK k1 k2 K a b) H1
/-! ### enumerate -/
theorem meets_enumK {v : Value} {o : Obj} {H : Heap → Prop} (B : Begins v o H) :
    Meets (Builtin.«enumerate.__new__» ⟨[.type "enumerate", v], []⟩) (fun _ R s => H s.heap ∧
      R (.ok (.ret (.ref (s.heap.push o).objs.size))) { s with heap := (s.heap.push o).push { cls := .type "enumerate", data := .fields #[.none, .bool false, .ref s.heap.objs.size, rawInt 0, .none, .none] } }) :=
  .of_wp fun prog w A R s h => by
    obtain ⟨hp, gn, dr, tk, os⟩ := s
    obtain ⟨begun, h⟩ := h
    have hsub := sub_enumerate
    have goes : ∀ {A' : Around} {E : Value → Shared → Prop} {Q : Value → Shared → Prop}, Q (.ref hp.objs.size) ⟨hp.push o, gn, dr, tk, os⟩ → wpAny (model prog w) A' (pyIter v) Q E ⟨hp, gn, dr, tk, os⟩ :=
      fun q => B.iter prog w _ _ ⟨hp, gn, dr, tk, os⟩ _ begun q
    wp_walk
    refine wpAny_stack_any fun st => wpAny_pure ?_
    split
    · rename_i c _ _ _ _ _
      cases (c == Value.type "enumerate") <;> (wp_walk using goes; exact ⟨_, rfl, h⟩)
    · wp_walk using goes
      exact ⟨_, rfl, h⟩
theorem enumK_begins {prog : Program} {w : World} {A : Around} {E : Value → Shared → Prop} {s : Shared} {v : Value} {o : Obj} {H : Heap → Prop} {Q : Value → Shared → Prop} (B : Begins v o H) (begun : H s.heap)
    (h : ∀ h', IsEnum h' (s.heap.objs.size + 1) s.heap.objs.size 0 .none → h'.get? s.heap.objs.size = some o → (∀ b u, s.heap.get? b = some u → h'.get? b = some u) → Q (.ref (s.heap.objs.size + 1)) { s with heap := h' }) :
    wpAny (model prog w) A (call (.type "enumerate") [v]) Q E s := by
  refine callType_new F.called_enumerate (by decide) (F.typeCall_enumerate_1 _) (F.newCall_enumerate_1 _) (fun obj => F.args_object_init_2 obj _) F.entry_enumerate_new (meets_enumK B) ⟨begun, ?_⟩
  have size1 : (s.heap.push o).objs.size = s.heap.objs.size + 1 := Heap.size_push ..
  have made := Heap.get?_push_size (s.heap.push o) (o := { cls := .type "enumerate", data := .fields #[.none, .bool false, .ref s.heap.objs.size, rawInt 0, .none, .none] }) rfl
  show _ ∧ _
  rw [size1] at made ⊢
  exact ⟨⟨_, made, rfl⟩, h _ made (Heap.get?_push_of_some _ (Heap.get?_push_size _ B.free)) fun b u g => Heap.get?_push_of_some _ (Heap.get?_push_of_some _ g)⟩
def IteK (k : Bool) (K : Fr) (a : Addr) : It :=
  ⟨fun i H => ∃ (xs : List V) (x : V), SqK k K H a xs ∧ xs[i]? = some x,
   fun i H v H' => ∃ T x, v = .ref T ∧ H T = none ∧ H' = upd H T (.tup [.int (i : Nat), x]) ∧ ∀ xs, SqK k K H a xs → xs[i]? = some x,
   fun i H => ∃ xs : List V, SqK k K H a xs ∧ xs.length = i⟩
theorem turn_enumK {P : Program} {w : World} {K : Fr} {elts : List PySem.Expr} {kk : Nat} {tpos : Pos} (k : Bool) {a e it : Addr} (ne : e ≠ it) (na : a ≠ it) (nae : a ≠ e) :
    Turn P w K (.Tuple elts kk tpos) (IteK k K a) [e, it] e (fun i h => (∃ old, IsEnum h e it ((i : Nat) : Int) old) ∧ ItK k h it a i) where
  mem := by simp
  obj := fun i h st c hc => by
    obtain ⟨⟨old, he⟩, hi⟩ := st
    simp only [List.mem_cons, List.not_mem_nil, or_false] at hc
    rcases hc with rfl | rfl
    · exact ⟨_, he, fun v q => nomatch q⟩
    · exact itK_obj hi
  keep := fun i h h' st kp => ⟨let ⟨old, he⟩ := st.1; ⟨old, kp e (by simp) _ he⟩, itK_at st.2 fun o q => kp it (by simp) o q⟩
  item := by
    intro X hP hw hK hc i pins s σ H E I hf st hg
    subst hP hw hK
    obtain ⟨he, hi⟩ := st
    obtain ⟨xs, x, qx, hx⟩ := hg
    obtain ⟨us, rv, p1⟩ := seqI I qx
    obtain ⟨u, hu, ru⟩ := rv.get hx
    have hh : X.A.in1.handled = none := in1_handled (I.ok.hd hc)
    have W := WalksT.enumerateD (A := X.A) (drawsK (prog := X.prog) (w := X.w) hh k it a na us.toArray) e ne (by simp [ne, Ne.symm nae]) (by simp)
    have hlen : i < us.toArray.size := by
      have l1 := (List.getElem?_eq_some_iff.mp hu).1
      simp only [List.size_toArray]; omega
    refine W.item i s _ _ hlen ⟨he, hi, p1⟩ fun T vals h' tk pt hT hTT mid kp => ⟨_, rfl, ?_⟩
    obtain ⟨t, c1, e1, rfl⟩ := pt
    have hc1 : c1 = u := by
      have : us.toArray[i]? = some u := by simpa using hu
      rw [this] at e1; exact (Option.some.inj e1).symm
    subst hc1
    refine W.go elts kk tpos i T { s with heap := h', toks := tk } _ _ mid fun h2' st2 kp2 => ?_
    have ap := W.apart i T h' mid
    have keep : ∀ c o, c ∉ [e, it] → s.heap.get? c = some o → h2'.get? c = some o := fun c o hc q => kp2 c o hc (kp c o hc q)
    have hT2 : h2'.IsTuple T #[.int i t, c1] := by
      obtain ⟨o, g1, g2, n, g3⟩ := hTT
      exact ⟨o, kp2 T o ap g1, g2, n, g3⟩
    have new : ObjOk X.prog X.w (upd H T (.tup [.int (i : Nat), x])) h2' T (.tup [.int (i : Nat), x]) := ⟨(by show 2 ≤ sizeLine; decide), [.int i t, c1], .cons ⟨_, rfl⟩ (.cons ru .nil), hT2⟩
    have I1 := I.turnedNew (t' := tk) (ch := [e, it]) keep hf hT new
    obtain ⟨he', hi', _⟩ := st2
    refine ⟨.ref T, _, I1, rfl, ⟨T, x, rfl, I.hok.fresh hT, rfl, fun l hl => by rw [seqInj I hl qx]; exact hx⟩, ⟨he', hi'⟩, fun c hcm => ?_⟩
    have hlt : c ≠ T := by
      rintro rfl
      obtain ⟨o, g, _⟩ := (show ∃ o, s.heap.get? c = some o ∧ True by
        simp only [List.mem_cons, List.not_mem_nil, or_false] at hcm
        rcases hcm with rfl | rfl
        · obtain ⟨_, g⟩ := he; exact ⟨_, g, trivial⟩
        · obtain ⟨o, g, _⟩ := itK_obj hi; exact ⟨o, g, trivial⟩)
      exact absurd (Heap.lt_size g) (Nat.not_lt.mpr hT)
    rw [upd_ne hlt]
    exact (hf c hcm).1
  done := by
    intro X hP hw hK hc i pins s σ H E I hf st hg
    subst hP hw hK
    obtain ⟨he, hi⟩ := st
    obtain ⟨xs, qx, hl⟩ := hg
    obtain ⟨us, rv, p1⟩ := seqI I qx
    have hh : X.A.in1.handled = none := in1_handled (I.ok.hd hc)
    have W := WalksT.enumerateD (A := X.A) (drawsK (prog := X.prog) (w := X.w) hh k it a na us.toArray) e ne (by simp [ne, Ne.symm nae]) (by simp)
    have hn : us.toArray.size = i := by
      have l1 := rv.length
      simp only [List.size_toArray]
      omega
    refine W.done s _ _ (by rw [hn]; exact ⟨he, hi, p1⟩) fun h' tk kp => ⟨rfl, ?_⟩
    exact I.turnedL (t' := tk) (ch := [e, it]) kp hf
  self := fun A i s Q E st h => let ⟨⟨_, he⟩, _⟩ := st; wpAny_pyIter_enum he h
def iEnumA (K : Fr) (ta : TA) : TI := fun σ H R => ta σ H fun vs H1 => ∃ (k : Bool) (a : Addr) (xs : List V), vs = [.ref a] ∧ SqK k K H1 a xs ∧ R (IteK k K a) H1
theorem pi_enumA {X : Cx} {e : PySem.Expr} {ta : TA} {p pos tpos : Pos} {elts : List PySem.Expr} {kk : Nat} (hg : Gl X "enumerate") (hm : X.mg "enumerate" = none) (ha : PA X [e] ta) (hs : starEach [e] X.env = [(false, eval e X.env)] := by rfl) :
    PI X (.Tuple elts kk tpos) (.Call (.Name "enumerate" p) [e] [] pos) (iEnumA X.K ta) := by
  refine ⟨fun pins s σ H R I h => ?_⟩
  refine Call_ (ld_blt I hg hm boot_enumerate (PyProof.Rows.callWith_type1 (thn (ha.run pos pins s σ H _ I h) fun us s1 ⟨vs, H1, I1, r1, q1⟩ => ?_) hs rfl))
  obtain ⟨k, a, xs, rfl, qx, q⟩ := q1
  obtain ⟨u1, rfl, h1⟩ := vals1 r1
  cases h1
  obtain ⟨vs1, rv1, p1⟩ := seqI I1 qx
  have la := isK_lt p1
  refine enumK_begins (beginsK k a vs1.toArray) p1 fun h' he o1 hk => wpAny_pyIter_enum he ?_
  have I2 : Inv X pins σ H1 { s1 with heap := h' } := I1.kept (t' := s1.toks) hk
  refine ⟨s1.heap.objs.size + 1, [s1.heap.objs.size + 1, s1.heap.objs.size], _, _, H1, rfl, I2, turn_enumK k (Nat.succ_ne_self _) (fun z => absurd la (by rw [z]; exact Nat.lt_irrefl _)) (fun z => absurd la (by rw [z]; exact Nat.not_lt.mpr (Nat.le_succ _))), ⟨⟨.none, he⟩, itK0 o1⟩, fun c hcm => ?_, q⟩
  have hle : s1.heap.objs.size ≤ c := by
    simp only [List.mem_cons, List.not_mem_nil, or_false] at hcm
    rcases hcm with rfl | rfl
    · exact Nat.le_succ _
    · exact Nat.le_refl _
  exact I1.fpOk hle (I1.hok.fresh hle)
/-! ### a list or a tuple, walked -/
def ItsK (k : Bool) (K : Fr) (a : Addr) : It := if k = true then Itt K a else Itl K a
def iSeq (K : Fr) (tl : TE) : TI := fun σ H R => tl σ H fun x H1 => ∃ (k : Bool) (a : Addr) (xs : List V), x = .ref a ∧ SqK k K H1 a xs ∧ R (ItsK k K a) H1
theorem pi_seq {X : Cx} {tg l : PySem.Expr} {tl : TE} (hl : PE X l tl) : PI X tg l (iSeq X.K tl) := by
  refine ⟨fun pins s σ H R I h => ?_⟩
  refine thn (hl.run pins s σ H _ I h) fun v s1 ⟨x, H1, I1, r1, q1⟩ => ?_
  obtain ⟨k, a, xs, rfl, qx, q⟩ := q1
  cases r1
  obtain ⟨us, rv, p⟩ := seqI I1 qx
  have fresh : ∀ b ∈ [s1.heap.objs.size], FpOk X pins H1 b := fun b hb => by
    rw [List.mem_singleton.mp hb]
    exact I1.fpOk (Nat.le_refl _) (I1.hok.fresh (Nat.le_refl _))
  cases k with
  | true => exact wpAny_pyIter_tuple (show s1.heap.IsTuple a us.toArray from p) ⟨_, [_], _, _, H1, rfl, I1.kept (t' := s1.toks) fun b o g => Heap.get?_push_of_some _ g, turn_tuple a _, ⟨_, Heap.get?_push_size _ rfl, rfl, rfl⟩, fresh, q⟩
  | false => exact wpAny_pyIter_list (show s1.heap.IsList a us.toArray from p) ⟨_, [_], _, _, H1, rfl, I1.kept (t' := s1.toks) fun b o g => Heap.get?_push_of_some _ g, turn_list a _, ⟨_, Heap.get?_push_size _ rfl, rfl, rfl⟩, fresh, q⟩
theorem walk_seq {k : Bool} {K : Fr} {a : Addr} {xs : List V} : Walk (ItsK k K a) xs.length (fun H => SqK k K H a xs) (YAt xs) := by
  cases k with
  | true => exact walk_tup
  | false => exact walk_list
theorem walk_enumK {k : Bool} {K : Fr} {a : Addr} {xs : List V} : Walk (IteK k K a) xs.length (fun H => SqK k K H a xs) (YPair (fun i => some (.int (i : Nat))) (fun i => xs[i]?)) where
  goes := fun i H hi h => ⟨xs, xs[i], h, List.getElem?_eq_getElem hi⟩
  stops := fun H h => ⟨xs, h, rfl⟩
  yields := fun i H x H' hi h y => by
    obtain ⟨T, v, rfl, nT, rfl, e⟩ := y
    exact ⟨T, _, v, rfl, nT, rfl, rfl, e xs h⟩
theorem SqK.ex {k : Bool} {K : Fr} {H H' : Hp} {a : Addr} {xs : List V} (e : Ex H H') (h : SqK k K H a xs) : SqK k K H' a xs := by
  cases k with
  | true => exact e.tup (show SqT K H a xs from h)
  | false => exact e.seq (show SqL K H a xs from h)
end TP
/-! TPZm -/
set_option maxHeartbeats 4000000
/-! # a walk over two sequences, each a list or a tuple -/
namespace TP
open PySem PySem.Spec PyProof.Rows L2
section
variable {K : Fr} {σ : L2.St} {H : Hp} {te : TE} {Q : VK} {j1 j2 : Nat} {ta : TA}
theorem SqK.of {K : Fr} {H : Hp} {a : Addr} {xs : List V} (h : SqL K H a xs ∨ SqT K H a xs) : ∃ k, SqK k K H a xs := by
  rcases h with h | h
  · exact ⟨false, h⟩
  · exact ⟨true, h⟩
theorem SqK.l {K : Fr} {H : Hp} {a : Addr} {xs : List V} (h : SqL K H a xs) : SqK false K H a xs := h
end
end TP
/-! PFd -/
set_option maxHeartbeats 4000000
namespace TP
open PySem PySem.Spec PyProof.Rows L2
local macro_rules | `(tactic| walk_at "s1") => `(tactic| first | refine ⟨_, rfl, ?_⟩ | refine ⟨_, _, rfl, rfl, ?_⟩ | refine ⟨rfl, ?_⟩ | refine iteT ?_ | refine iteF ?_)
local macro_rules | `(tactic| walk_at "st") => `(tactic| (repeat (walk_at "s1")))
local macro_rules | `(tactic| walk_at "sq") => `(tactic| first | assumption | exact sqL (by assumption) | exact sqT (by assumption) | (refine Ex.seq (by assumption) ?_; walk_at "sq") | (refine Ex.tup (by assumption) ?_; walk_at "sq"))
local macro_rules | `(tactic| walk_at "at") => `(tactic| first | assumption | (refine (show Ex _ _ by assumption) _ _ ?_; walk_at "at"))
local macro_rules | `(tactic| walk_at "sl") => `(tactic| ((try dsimp only); refine tSeqI ?_; (try dsimp only)))

variable {K : Fr}
/-! ### units_of -/
def unitsP (p : Int) (n : Nat) : List Int := (List.range (n + 1)).map fun i => p ^ i
def sp_units_of (K : Fr) : Sp := fun vs H Q _ => ∃ p, ∃ n : Nat, vs = [.int p, .int n] ∧ (2 ≤ p ∧ p ≤ 128) ∧ n ≤ 20 ∧ Evl.RetL ((unitsP p n).map V.int) H Q
def t_units_of (K : Fr) : TS := (tSeq (tAsg (tLst (tCons (tC (.int 1)) tNil)) (gName 2)) (tSeq (tFor (iRng1 (tCons (tVar 1) tNil)) (gName 3) (tDrop (tBM K "list" rAppend (tVar 2) (tCons (tOp rMulI (tOp (rIxL K) (tVar 2) (tUn rNeg (tC (.int 1)))) (tVar 0)) tNil)))) (tRet (tVar 2))))
/-! ### figures_in -/
def figs (p : Int) : Nat → Int → List Int
  | 0, _ => []
  | n + 1, x => x % p :: figs p n (x / p)
theorem figs_succ (p x : Int) (n : Nat) : figs p (n + 1) x = x % p :: figs p n (x / p) := rfl
theorem figs_len (p : Int) : ∀ (n : Nat) (x : Int), (figs p n x).length = n
  | 0, _ => rfl
  | n + 1, x => by unfold figs; rw [List.length_cons, figs_len p n]
theorem figs_cf {p : Int} (hp : 0 < p) : ∀ (n : Nat) (x : Int), Cf p (figs p n x)
  | 0, _ => fun y h => by cases h
  | n + 1, x => fun y h => by
    unfold figs at h
    rcases List.mem_cons.mp h with rfl | h
    · exact ⟨Int.emod_nonneg _ (by omega), Int.emod_lt_of_pos _ hp⟩
    · exact figs_cf hp n _ y h
def sp_figures_in (K : Fr) : Sp := fun vs H Q _ => ∃ p x, ∃ n : Nat, vs = [.int p, .int n, .int x] ∧ (2 ≤ p ∧ p ≤ 7) ∧ n ≤ 100 ∧ Evl.RetL ((figs p n x).map V.int) H Q
def t_figures_in (K : Fr) : TS := (tSeq (tAsg (tLst tNil) (gName 3)) (tSeq (tFor (iRng1 (tCons (tVar 1) tNil)) (gName 4) (tSeq (tDrop (tBM K "list" rAppend (tVar 3) (tCons (tOp rModI (tVar 2) (tVar 0)) tNil))) (tAug 2 (tVar 0) rFdivI))) (tRet (tVar 3))))
/-! ### told_by -/
def toldP (xs ys : List Int) : Int := (List.zipWith (· * ·) xs ys).sum
def sp_told_by (K : Fr) : Sp := fun vs H Q _ => ∃ a b xs ys, vs = [.ref a, .ref b] ∧ (SqL K H a (xs.map V.int) ∨ SqT K H a (xs.map V.int)) ∧ SqL K H b (ys.map V.int) ∧ xs.length ≤ 1000 ∧ (∀ x ∈ xs, -(2 ^ 64) < x ∧ x < 2 ^ 64) ∧ Evl.RetV (.int (toldP xs ys)) H Q
def t_told_by (K : Fr) : TS := (tRet (tCB (rSum K) (tCons (tLc (iZipM K (tCons (tVar 0) (tCons (tVar 1) tNil))) (gTup K 2 (gCons (gName 2) (gCons (gName 3) gNil))) tYes (tOp rMulI (tVar 2) (tVar 3)) [2, 3]) tNil)))
/-! ### powers_of -/
def powGo (p : Int) (md fac units : List Int) : Nat → List Int → Option (List Int)
  | 0, _ => none
  | n + 1, w => if w = [1] then some [] else (powGo p md fac units n (restP p (prodP p w fac) md)).map (toldP w units :: ·)
def powersP (p : Int) (md : List Int) (one : Int) : Option (List Int) :=
  (powGo p md (wn (figs p (md.length - 1) one)) (unitsP p (md.length - 1)) 200 (wn (figs p (md.length - 1) one))).map (1 :: ·)
def sp_powers_of (K : Fr) : Sp := fun vs H Q _ => ∃ p a md one l, vs = [.int p, .ref a, .int one] ∧ SqL K H a (md.map V.int) ∧ Prm p ∧ md ≠ [] ∧ md.length ≤ 13 ∧ Cf p md ∧ Told md ∧ powersP p md one = some l ∧ Evl.RetL (l.map V.int) H Q
def t_powers_of (K : Fr) : TS := (tSeq (tAsg (tCall (sp_units_of K) [] E0 (tCons (tVar 0) (tCons (tOp rSubI (tCB (rLenA K) (tCons (tVar 1) tNil)) (tC (.int 1))) tNil))) (gName 3)) (tSeq (tAsg (tCall (sp_without_noughts K) [] E0 (tCons (tCall (sp_figures_in K) [] E0 (tCons (tVar 0) (tCons (tOp rSubI (tCB (rLenA K) (tCons (tVar 1) tNil)) (tC (.int 1))) (tCons (tVar 2) tNil)))) tNil)) (gName 4)) (tSeq (tPar 5 6 (tCons (tLst (tCons (tC (.int 1)) tNil)) (tCons (tVar 4) tNil))) (tSeq (tWhile (tTest (tOp (rNeD K) (tVar 6) (tLst (tCons (tC (.int 1)) tNil)))) (tSeq (tDrop (tBM K "list" rAppend (tVar 5) (tCons (tCall (sp_told_by K) [] E0 (tCons (tVar 6) (tCons (tVar 3) tNil))) tNil))) (tAsg (tCall (sp_rest_of K) [] E0 (tCons (tVar 0) (tCons (tCall (sp_product_of K) [] E0 (tCons (tVar 0) (tCons (tVar 6) (tCons (tVar 4) tNil)))) (tCons (tVar 1) tNil)))) (gName 6)))) (tRet (tVar 5))))))
/-! ### all_by_powers -/
def allGo (p : Int) (md : List Int) (size : Int) : Nat → Int → List Int → Option (List Int)
  | 0, _, _ => none
  | n + 1, one, f => if (f.length : Int) < size - 1 then (powersP p md (one + 1)).bind fun g => allGo p md size n (one + 1) g else some f
def allP (p : Int) (md : List Int) (size : Int) : Option (List Int) := allGo p md size 200 1 [1]
def sp_all_by_powers (K : Fr) : Sp := fun vs H Q _ => ∃ p a md size l, vs = [.int p, .ref a, .int size] ∧ SqL K H a (md.map V.int) ∧ Prm p ∧ md ≠ [] ∧ md.length ≤ 13 ∧ Cf p md ∧ Told md ∧ allP p md size = some l ∧ Evl.RetL (l.map V.int) H Q
def t_all_by_powers (K : Fr) : TS := (tSeq (tPar 3 4 (tCons (tC (.int 1)) (tCons (tLst (tCons (tC (.int 1)) tNil)) tNil))) (tSeq (tWhile (tTest (tOp rLtI (tCB (rLenA K) (tCons (tVar 4) tNil)) (tOp rSubI (tVar 2) (tC (.int 1))))) (tSeq (tAug 3 (tC (.int 1)) (ipI fun i j => i + j)) (tAsg (tCall (sp_powers_of K) [] E0 (tCons (tVar 0) (tCons (tVar 1) (tCons (tVar 3) tNil)))) (gName 4)))) (tRet (tVar 4))))
end TP
/-! PFe -/
set_option maxHeartbeats 4000000
namespace TP
open PySem PySem.Spec PyProof.Rows L2
local macro_rules | `(tactic| walk_at "s1") => `(tactic| first | refine ⟨_, rfl, ?_⟩ | refine ⟨_, _, rfl, rfl, ?_⟩ | refine ⟨rfl, ?_⟩ | refine iteT ?_ | refine iteF ?_)
local macro_rules | `(tactic| walk_at "st") => `(tactic| (repeat (walk_at "s1")))
local macro_rules | `(tactic| walk_at "sq") => `(tactic| first | assumption | exact sqL (by assumption) | exact sqT (by assumption) | (refine Ex.seq (by assumption) ?_; walk_at "sq") | (refine Ex.tup (by assumption) ?_; walk_at "sq"))
local macro_rules | `(tactic| walk_at "at") => `(tactic| first | assumption | (refine (show Ex _ _ by assumption) _ _ ?_; walk_at "at"))
local macro_rules | `(tactic| walk_at "sl") => `(tactic| ((try dsimp only); refine tSeqI ?_; (try dsimp only)))

variable {K : Fr}
/-! ### a field, its object -/
structure FD where
  p : Int
  md : List Int
  pows : List Int
def FD.t (F : FD) : Nat := F.md.length - 1
def FD.size (F : FD) : Int := F.p ^ F.t
def FD.units (F : FD) : List Int := unitsP F.p (F.t - 1)
structure FD.Ok (F : FD) : Prop where
  prm : Prm F.p
  len : 3 ≤ F.md.length ∧ F.md.length ≤ 8
  cf : Cf F.p F.md
  one : F.md.getLastD 0 = 1
  big : F.size ≤ 128
  made : allP F.p F.md F.size = some F.pows
  mod : isModV F.p (some (F.md.map V.int)) = true
  nd : F.pows.Nodup
  cnt : (F.pows.length : Int) + 1 = F.size
  all : ∀ x : Int, 0 < x → x < F.size → x ∈ F.pows
  low : ∀ x ∈ F.pows, 0 < x ∧ x < F.size
  fst : F.pows[0]? = some 1
structure FieldCls (K : Fr) : Prop where
  cls : Cls K (He.ga K "Field")
  n1 : NoAttr K (He.ga K "Field") "_prime"
  n2 : NoAttr K (He.ga K "Field") "_modulus"
  n3 : NoAttr K (He.ga K "Field") "_size"
  n4 : NoAttr K (He.ga K "Field") "_units"
  n5 : NoAttr K (He.ga K "Field") "_powers"
  n6 : NoAttr K (He.ga K "Field") "_exponents"
  ha : PySem.W.findIn K (.ref (He.ga K "Field")) "__class__" = some (some (.builtin "object.__class__"))
  hn : PySem.W.specialIn K (.builtin "object.__class__") "__get__" = some (some (.builtin "getset_descriptor.__get__"))
  ht : PySem.W.takesIn K (.builtin "object.__class__") = some true
  hm : PySem.W.mroIn K (He.ga K "Field") (.type "object") = some true
def fFs (p : Int) (m : Addr) (size : Int) (u w e : Addr) : List (Str × V) := [("_prime", .int p), ("_modulus", .ref m), ("_size", .int size), ("_units", .ref u), ("_powers", .ref w), ("_exponents", .ref e)]
/-- the field F's object at a; what its lists' addresses are -/
def FA (K : Fr) (H : Hp) (a : Addr) (F : FD) (ok : Addr → Prop) : Prop := FieldCls K ∧ F.Ok ∧ ∃ dx m u w e kvs, H a = some (.ins (He.ga K "Field") dx (fFs F.p m F.size u w e)) ∧ H m = some (.lst (F.md.map V.int)) ∧ H u = some (.lst (F.units.map V.int)) ∧
  H w = some (.lst (F.pows.map V.int)) ∧ H e = some (.dK kvs) ∧ PlacesIn kvs F.pows ∧ ok m ∧ ok u ∧ ok w ∧ ok e
theorem FA.ex {H H' : Hp} {a : Addr} {F : FD} {ok : Addr → Prop} (h : FA K H a F ok) (e : Ex H H') : FA K H' a F ok := by
  obtain ⟨c, o, dx, m, u, w, x, kvs, h1, h2, h3, h4, h5, h6⟩ := h
  exact ⟨c, o, dx, m, u, w, x, kvs, e _ _ h1, e _ _ h2, e _ _ h3, e _ _ h4, e _ _ h5, h6⟩
theorem FA.mono {H : Hp} {a : Addr} {F : FD} {ok ok' : Addr → Prop} (h : FA K H a F ok) (k : ∀ x, ok x → ok' x) : FA K H a F ok' := by
  obtain ⟨c, o, dx, m, u, w, x, kvs, h1, h2, h3, h4, h5, h6, h7, h8, h9, hE⟩ := h
  exact ⟨c, o, dx, m, u, w, x, kvs, h1, h2, h3, h4, h5, h6, k _ h7, k _ h8, k _ h9, k _ hE⟩
theorem FD.Ok.two {F : FD} (o : F.Ok) : 2 ≤ F.p ∧ F.p ≤ 7 := o.prm.le
theorem FD.Ok.tb {F : FD} (o : F.Ok) : 2 ≤ F.t ∧ F.t ≤ 7 := by have := o.len; unfold FD.t; omega
theorem FD.Ok.ne {F : FD} (o : F.Ok) : F.md ≠ [] := fun e => by have := o.len; rw [e] at this; simp at this
theorem FD.Ok.ix {F : FD} (o : F.Ok) {x : Int} (h : x ∈ F.pows) : F.pows[F.pows.idxOf x]? = some x := by
  rw [List.getElem?_eq_getElem (List.idxOf_lt_length_of_mem h), List.getElem_idxOf]
theorem FD.Ok.pos {F : FD} (o : F.Ok) : 0 < F.pows.length := by
  have := o.fst
  exact (List.getElem?_eq_some_iff.mp this).1
/-! ### Field(prime, modulus) -/
def sp_Field_dot___init__ (K : Fr) : Sp := fun vs H Q _ => ∃ x m dx F, vs = [.ref x, .int F.p, .ref m] ∧ FieldCls K ∧ FD.Ok F ∧ H x = some (.ins (He.ga K "Field") dx []) ∧ SqA K H m (F.md.map V.int) ∧
  ∀ H', ExP x H H' → FA K H' x F (fun y => H y = none) → Q .non H'
def t_Field_dot___init__ (K : Fr) : TS := (tSeq (tIfS (tNot (tB (tCall (sp_is_modulus K) [] E0 (tCons (tVar 1) (tCons (tVar 2) tNil))))) tNever tNext) (tSeq (tAsg (tCall (sp_units_of K) [] E0 (tCons (tVar 1) (tCons (tOp rSubI (tCB (rLenA K) (tCons (tVar 2) tNil)) (tC (.int 1))) tNil))) (gName 3)) (tSeq (tAsg (tBM0 K "list" rPop (tVar 3)) (gName 4)) (tSeq (tIfS (tTest (tOp rGtI (tVar 4) (tC (.int 128)))) tNever tNext) (tSeq (sFld K (tVar 0) (tVar 1) "_prime") (tSeq (sFld K (tVar 0) (tCB (rListA K) (tCons (tVar 2) tNil)) "_modulus") (tSeq (sFld K (tVar 0) (tVar 4) "_size") (tSeq (sFld K (tVar 0) (tVar 3) "_units") (tSeq (sFld K (tVar 0) (tCall (sp_all_by_powers K) [] E0 (tCons (tVar 1) (tCons (tFld K (tVar 0) "_modulus") (tCons (tVar 4) tNil)))) "_powers") (sFld K (tVar 0) (tDc (iEnum K (tCons (tFld K (tVar 0) "_powers") tNil)) (gTup K 2 (gCons (gName 5) (gCons (gName 6) gNil))) tYes (tVar 6) (tVar 5) [5, 6]) "_exponents"))))))))))
/-! ### what a field tells -/
section
variable {H : Hp} {Q : VK} {E : XK}
def sp_Field_dot_size (K : Fr) : Sp := fun vs H Q _ => ∃ a F ok, vs = [.ref a] ∧ FA K H a F ok ∧ Q (.int F.size) H
def t_Field_dot_size (K : Fr) : TS := (tRet (tFld K (tVar 0) "_size"))
def sp_Field_dot_turns (K : Fr) : Sp := fun vs H Q _ => ∃ a F ok, vs = [.ref a] ∧ FA K H a F ok ∧ Q (.int F.t) H
def t_Field_dot_turns (K : Fr) : TS := (tRet (tCB (rLenA K) (tCons (tFld K (tVar 0) "_units") tNil)))
def sp_Field_dot_figures_of (K : Fr) : Sp := fun vs H Q _ => ∃ a F ok x, vs = [.ref a, .int x] ∧ FA K H a F ok ∧ Evl.RetL ((figs F.p F.t x).map V.int) H Q
def t_Field_dot_figures_of (K : Fr) : TS := (tRet (tCall (sp_figures_in K) [] E0 (tCons (tFld K (tVar 0) "_prime") (tCons (tCB (rLenA K) (tCons (tFld K (tVar 0) "_units") tNil)) (tCons (tVar 1) tNil)))))
def sp_Field_dot_with_figures (K : Fr) : Sp := fun vs H Q _ => ∃ a F ok l xs, vs = [.ref a, .ref l] ∧ FA K H a F ok ∧ (SqL K H l (xs.map V.int) ∨ SqT K H l (xs.map V.int)) ∧ xs.length ≤ 1000 ∧ (∀ x ∈ xs, -(2 ^ 64) < x ∧ x < 2 ^ 64) ∧ Evl.RetV (.int (toldP xs F.units)) H Q
def t_Field_dot_with_figures (K : Fr) : TS := (tRet (tCall (sp_told_by K) [] E0 (tCons (tVar 1) (tCons (tFld K (tVar 0) "_units") tNil))))
/-! ### sums, products, powers, turns -/
def addF (F : FD) (x y : Int) : Int := toldP ((List.zip (figs F.p F.t x) (figs F.p F.t y)).map fun z => (z.1 + z.2) % F.p) F.units
def lgF (F : FD) (x : Int) : Nat := F.pows.idxOf x
def powF (F : FD) (n : Nat) : Int := F.pows.getD (n % F.pows.length) 0
def mulF (F : FD) (x y : Int) : Int := if x = 0 then 0 else if y = 0 then 0 else powF F (lgF F x + lgF F y)
def raisF (F : FD) (x : Int) (n : Nat) : Int := if n = 0 then 1 else if x = 0 then 0 else powF F (lgF F x * n)
def turnF (F : FD) (x k : Int) : Int := raisF F x ((F.p ^ (k % F.t).toNat).toNat)
def InF (F : FD) (x : Int) : Prop := 0 ≤ x ∧ x < F.size
theorem InF.mem {F : FD} (o : F.Ok) {x : Int} (h : InF F x) (n : x ≠ 0) : x ∈ F.pows := o.all x (by unfold InF at h; omega) h.2
theorem powF_in {F : FD} (o : F.Ok) (n : Nat) : powF F n ∈ F.pows := by
  unfold powF
  have h := Nat.mod_lt n o.pos
  rw [List.getD_eq_getElem?_getD, List.getElem?_eq_getElem h]
  exact List.getElem_mem h
theorem powF_InF {F : FD} (o : F.Ok) (n : Nat) : InF F (powF F n) := by
  have := o.low _ (powF_in o n)
  unfold InF; omega
theorem InF_zero {F : FD} (o : F.Ok) : InF F 0 := by
  have := o.cnt
  unfold InF; omega
theorem InF_one {F : FD} (o : F.Ok) : InF F 1 := by
  have := o.cnt
  have := o.pos
  unfold InF; omega
theorem mulF_InF {F : FD} (o : F.Ok) (x y : Int) : InF F (mulF F x y) := by
  unfold mulF
  split
  · exact InF_zero o
  · split
    · exact InF_zero o
    · exact powF_InF o _
theorem raisF_InF {F : FD} (o : F.Ok) (x : Int) (n : Nat) : InF F (raisF F x n) := by
  unfold raisF
  split
  · exact InF_one o
  · split
    · exact InF_zero o
    · exact powF_InF o _
def sp_Field_dot_added (K : Fr) : Sp := fun vs H Q _ => ∃ a F ok x y, vs = [.ref a, .int x, .int y] ∧ FA K H a F ok ∧ Evl.RetV (.int (addF F x y)) H Q
def t_Field_dot_added (K : Fr) : TS := (tSeq (tAsg (tListZip K (tCons (tMeth (He.ga K "Field") "figures_of" (sp_Field_dot_figures_of K) [] E0 (tVar 0) (tCons (tVar 1) tNil)) (tCons (tMeth (He.ga K "Field") "figures_of" (sp_Field_dot_figures_of K) [] E0 (tVar 0) (tCons (tVar 2) tNil)) tNil))) (gName 3)) (tRet (tMeth (He.ga K "Field") "with_figures" (sp_Field_dot_with_figures K) [] E0 (tVar 0) (tCons (tLc (iList K (tVar 3)) (gTup K 2 (gCons (gName 4) (gCons (gName 5) gNil))) tYes (tOp rModI (tOp rAddI (tVar 4) (tVar 5)) (tFld K (tVar 0) "_prime")) [4, 5]) tNil))))
def sp_Field_dot_multiplied (K : Fr) : Sp := fun vs H Q _ => ∃ a F ok x y, vs = [.ref a, .int x, .int y] ∧ FA K H a F ok ∧ InF F x ∧ InF F y ∧ Q (.int (mulF F x y)) H
def t_Field_dot_multiplied (K : Fr) : TS := (tSeq (tIfS (tOr (tTest (tOp rEq (tVar 1) (tC (.int 0)))) (tTest (tOp rEq (tVar 2) (tC (.int 0))))) (tRet (tC (.int 0))) tNext) (tRet (tOp (rIxL K) (tFld K (tVar 0) "_powers") (tOp rModI (tOp rAddI (tDGet (tFld K (tVar 0) "_exponents") (tVar 1)) (tDGet (tFld K (tVar 0) "_exponents") (tVar 2))) (tCB (rLenA K) (tCons (tFld K (tVar 0) "_powers") tNil))))))
theorem dec_int0 (x : Int) : decide (V.int x = V.int 0) = decide (x = 0) := by
  by_cases c : x = 0
  · rw [c]; rfl
  · rw [decide_eq_false c, decide_eq_false fun z => c (V.int.inj z)]
def sp_Field_dot_raised (K : Fr) : Sp := fun vs H Q _ => ∃ a F ok x, ∃ n : Nat, vs = [.ref a, .int x, .int n] ∧ FA K H a F ok ∧ InF F x ∧ Q (.int (raisF F x n)) H
def t_Field_dot_raised (K : Fr) : TS := (tSeq (tIfS (tTest (tOp rEq (tVar 2) (tC (.int 0)))) (tRet (tC (.int 1))) tNext) (tSeq (tIfS (tTest (tOp rEq (tVar 1) (tC (.int 0)))) (tRet (tC (.int 0))) tNext) (tRet (tOp (rIxL K) (tFld K (tVar 0) "_powers") (tOp rModI (tOp rMulI (tDGet (tFld K (tVar 0) "_exponents") (tVar 1)) (tVar 2)) (tCB (rLenA K) (tCons (tFld K (tVar 0) "_powers") tNil)))))))
theorem lgF_lt {F : FD} (o : F.Ok) {x : Int} (hx : InF F x) (n : x ≠ 0) : lgF F x < F.pows.length := List.idxOf_lt_length_of_mem (hx.mem o n)
def sp_Field_dot_turned (K : Fr) : Sp := fun vs H Q _ => ∃ a F ok x k, vs = [.ref a, .int x, .int k] ∧ FA K H a F ok ∧ InF F x ∧ Q (.int (turnF F x k)) H
def t_Field_dot_turned (K : Fr) : TS := (tRet (tMeth (He.ga K "Field") "raised" (sp_Field_dot_raised K) [] E0 (tVar 0) (tCons (tVar 1) (tCons (tOp (rIxL K) (tFld K (tVar 0) "_units") (tOp rModI (tVar 2) (tCB (rLenA K) (tCons (tFld K (tVar 0) "_units") tNil)))) tNil))))
/-! ### checks -/
def sp_is_one_of (K : Fr) : Sp := fun vs H Q _ => ∃ a F ok v, vs = [.ref a, v] ∧ FA K H a F ok ∧ Kd K H v ∧ Q (.bl (below F.size v)) H
def t_is_one_of (K : Fr) : TS := (tRet (tCall (sp_is_below K) [] E0 (tCons (tVar 1) (tCons (tProp (He.ga K "Field") (sp_Field_dot_size K) [] E0 (tVar 0)) tNil))))
def sp_check_field (K : Fr) : Sp := fun vs H Q _ => ∃ a F ok, vs = [.ref a] ∧ FA K H a F ok ∧ Q .non H
def t_check_field (K : Fr) : TS := (tIfS (tNot (tB (tCB (rIsi K) (tCons (tVar 0) (tCons (tC (.ref (He.ga K "Field"))) tNil))))) tNever tNext)
def sp_check_one (K : Fr) : Sp := fun vs H Q _ => ∃ a F ok x, vs = [.ref a, .int x] ∧ FA K H a F ok ∧ InF F x ∧ Q .non H
def t_check_one (K : Fr) : TS := (tIfS (tNot (tB (tCall (sp_is_one_of K) [] E0 (tCons (tVar 0) (tCons (tVar 1) tNil))))) tNever tNext)
def sp_check_many (K : Fr) : Sp := fun vs H Q _ => ∃ n m : Int, vs = [.int n, .int m] ∧ 0 ≤ n ∧ n ≤ m ∧ Q .non H
def t_check_many (K : Fr) : TS := (tIfS (tNot (tB (tCall (sp_is_below K) [] E0 (tCons (tVar 0) (tCons (tOp rAddI (tVar 1) (tC (.int 1))) tNil))))) tNever tNext)
def sp_check_two (K : Fr) : Sp := fun vs H Q _ => ∃ a F ok x y, vs = [.ref a, .int x, .int y] ∧ FA K H a F ok ∧ InF F x ∧ InF F y ∧ Q .non H
def t_check_two (K : Fr) : TS := (tSeq (tDrop (tCall (sp_check_field K) [] E0 (tCons (tVar 0) tNil))) (tSeq (tDrop (tCall (sp_check_one K) [] E0 (tCons (tVar 0) (tCons (tVar 1) tNil)))) (tDrop (tCall (sp_check_one K) [] E0 (tCons (tVar 0) (tCons (tVar 2) tNil))))))
def sp_check_one_many (K : Fr) : Sp := fun vs H Q _ => ∃ a F ok, ∃ x n m : Int, vs = [.ref a, .int x, .int n, .int m] ∧ FA K H a F ok ∧ InF F x ∧ 0 ≤ n ∧ n ≤ m ∧ Q .non H
def t_check_one_many (K : Fr) : TS := (tSeq (tDrop (tCall (sp_check_field K) [] E0 (tCons (tVar 0) tNil))) (tSeq (tDrop (tCall (sp_check_one K) [] E0 (tCons (tVar 0) (tCons (tVar 1) tNil)))) (tDrop (tCall (sp_check_many K) [] E0 (tCons (tVar 2) (tCons (tVar 3) tNil))))))
/-! ### elements -/
def sp_plus (K : Fr) : Sp := fun vs H Q _ => ∃ a F ok x y, vs = [.ref a, .int x, .int y] ∧ FA K H a F ok ∧ InF F x ∧ InF F y ∧ Evl.RetV (.int (addF F x y)) H Q
def t_plus (K : Fr) : TS := (tSeq (tDrop (tCall (sp_check_two K) [] E0 (tCons (tVar 0) (tCons (tVar 1) (tCons (tVar 2) tNil))))) (tRet (tMeth (He.ga K "Field") "added" (sp_Field_dot_added K) [] E0 (tVar 0) (tCons (tVar 1) (tCons (tVar 2) tNil)))))
def sp_times (K : Fr) : Sp := fun vs H Q _ => ∃ a F ok x y, vs = [.ref a, .int x, .int y] ∧ FA K H a F ok ∧ InF F x ∧ InF F y ∧ Q (.int (mulF F x y)) H
def t_times (K : Fr) : TS := (tSeq (tDrop (tCall (sp_check_two K) [] E0 (tCons (tVar 0) (tCons (tVar 1) (tCons (tVar 2) tNil))))) (tRet (tMeth (He.ga K "Field") "multiplied" (sp_Field_dot_multiplied K) [] E0 (tVar 0) (tCons (tVar 1) (tCons (tVar 2) tNil)))))
def sp_power (K : Fr) : Sp := fun vs H Q _ => ∃ a F ok x, ∃ n : Nat, vs = [.ref a, .int x, .int n] ∧ FA K H a F ok ∧ InF F x ∧ n ≤ 1000 ∧ Q (.int (raisF F x n)) H
def t_power (K : Fr) : TS := (tSeq (tDrop (tCall (sp_check_one_many K) [] E0 (tCons (tVar 0) (tCons (tVar 1) (tCons (tVar 2) (tCons (tC (.int 1000)) tNil)))))) (tRet (tMeth (He.ga K "Field") "raised" (sp_Field_dot_raised K) [] E0 (tVar 0) (tCons (tVar 1) (tCons (tVar 2) tNil)))))
def sp_turned (K : Fr) : Sp := fun vs H Q _ => ∃ a F ok x, ∃ n : Int, vs = [.ref a, .int x, .int n] ∧ FA K H a F ok ∧ InF F x ∧ 0 ≤ n ∧ n ≤ 24 ∧ Q (.int (turnF F x n)) H
def t_turned (K : Fr) : TS := (tSeq (tDrop (tCall (sp_check_one_many K) [] E0 (tCons (tVar 0) (tCons (tVar 1) (tCons (tVar 2) (tCons (tC (.int 24)) tNil)))))) (tRet (tMeth (He.ga K "Field") "turned" (sp_Field_dot_turned K) [] E0 (tVar 0) (tCons (tVar 1) (tCons (tVar 2) tNil)))))
def sp_turned_back (K : Fr) : Sp := fun vs H Q _ => ∃ a F ok x, ∃ n : Int, vs = [.ref a, .int x, .int n] ∧ FA K H a F ok ∧ InF F x ∧ 0 ≤ n ∧ n ≤ 24 ∧ Q (.int (turnF F x (-n))) H
def t_turned_back (K : Fr) : TS := (tSeq (tDrop (tCall (sp_check_one_many K) [] E0 (tCons (tVar 0) (tCons (tVar 1) (tCons (tVar 2) (tCons (tC (.int 24)) tNil)))))) (tRet (tMeth (He.ga K "Field") "turned" (sp_Field_dot_turned K) [] E0 (tVar 0) (tCons (tVar 1) (tCons (tUn rNeg (tVar 2)) tNil)))))
end

end TP
/-! DL0 -/
set_option maxHeartbeats 4000000
/-! # Values without a heap: what a def does, told over data; that the readings do it -/
namespace TP
open PySem PySem.Spec PyProof.Rows L2
/-- data -/
inductive D where
  | non | bl (b : Bool) | int (i : Int) | str (s : Str)
  | lst (xs : List D) | tup (xs : List D)
  | fld (F : FD)
  | obj (C : Str) (ns : List Str) (ds : List D)
  | fn (s : Str)
  | dct (ks : List Str) (ds : List D)
  | dci (ks : List Int) (ds : List D)
  | pot
abbrev Li (ns : List Int) : D := .lst (ns.map D.int)
/-- a class of the program's own, whose objects have attributes of these names -/
structure ObCls (K : Fr) (C : Str) (ns : List Str) : Prop where
  cls : Cls K (He.ga K C)
  no : ∀ n ∈ ns, NoAttr K (He.ga K C) n
  ha : PySem.W.findIn K (.ref (He.ga K C)) "__class__" = some (some (.builtin "object.__class__"))
  hn : PySem.W.specialIn K (.builtin "object.__class__") "__get__" = some (some (.builtin "getset_descriptor.__get__"))
  ht : PySem.W.takesIn K (.builtin "object.__class__") = some true
  hm : PySem.W.mroIn K (He.ga K C) (.type "object") = some true
section
variable (K : Fr) (pa : Addr) (H : Hp)
mutual
/-- v tells d; the pot is at pa -/
def Rep : D → V → Prop
  | .non, v => v = .non
  | .bl b, v => v = .bl b
  | .int i, v => v = .int i
  | .str s, v => v = .str s
  | .lst ds, v => ∃ a vs, v = .ref a ∧ H a = some (.lst vs) ∧ RepL ds vs
  | .tup ds, v => ∃ a vs, v = .ref a ∧ SqT K H a vs ∧ RepL ds vs
  | .fld F, v => ∃ a, v = .ref a ∧ FA K H a F (fun _ => True)
  | .obj C ns ds, v => ObCls K C ns ∧ ∃ a dx vs, v = .ref a ∧ H a = some (.ins (He.ga K C) dx (ns.zip vs)) ∧ RepL ds vs
  | .fn s, v => v = .ref (He.ga K s)
  | .dct ks ds, v => ∃ a vs, v = .ref a ∧ H a = some (.dK ((ks.map Sum.inr).zip vs)) ∧ RepL ds vs
  | .dci ks ds, v => ∃ a vs, v = .ref a ∧ H a = some (.dK ((ks.map Sum.inl).zip vs)) ∧ RepL ds vs
  | .pot, v => v = .ref pa
def RepL : List D → List V → Prop
  | [], vs => vs = []
  | d :: ds, vs => ∃ v r, vs = v :: r ∧ Rep d v ∧ RepL ds r
end
end
section
variable {K : Fr} {pa : Addr} {H H' : Hp}
mutual
theorem Rep.ex (e : Ex H H') : ∀ (d : D) (v : V), Rep K pa H d v → Rep K pa H' d v
  | .non, v, h => h
  | .bl b, v, h => h
  | .int i, v, h => h
  | .str s, v, h => h
  | .lst ds, v, h => by
    unfold Rep at h ⊢
    obtain ⟨a, vs, e1, h1, h2⟩ := h
    exact ⟨a, vs, e1, e _ _ h1, RepL.ex e ds vs h2⟩
  | .tup ds, v, h => by
    unfold Rep at h ⊢
    obtain ⟨a, vs, e1, h1, h2⟩ := h
    exact ⟨a, vs, e1, e.tup h1, RepL.ex e ds vs h2⟩
  | .fld F, v, h => by
    unfold Rep at h ⊢
    obtain ⟨a, e1, h1⟩ := h
    exact ⟨a, e1, h1.ex e⟩
  | .obj C ns ds, v, h => by
    unfold Rep at h ⊢
    obtain ⟨c, a, dx, vs, e1, h1, h2⟩ := h
    exact ⟨c, a, dx, vs, e1, e _ _ h1, RepL.ex e ds vs h2⟩
  | .fn s, v, h => h
  | .dct ks ds, v, h => by
    unfold Rep at h ⊢
    obtain ⟨a, vs, e1, h1, h2⟩ := h
    exact ⟨a, vs, e1, e _ _ h1, RepL.ex e ds vs h2⟩
  | .dci ks ds, v, h => by
    unfold Rep at h ⊢
    obtain ⟨a, vs, e1, h1, h2⟩ := h
    exact ⟨a, vs, e1, e _ _ h1, RepL.ex e ds vs h2⟩
  | .pot, v, h => h
theorem RepL.ex (e : Ex H H') : ∀ (ds : List D) (vs : List V), RepL K pa H ds vs → RepL K pa H' ds vs
  | [], vs, h => h
  | d :: ds, vs, h => by
    unfold RepL at h ⊢
    obtain ⟨v, r, e1, h1, h2⟩ := h
    exact ⟨v, r, e1, Rep.ex e d v h1, RepL.ex e ds r h2⟩
end
theorem RepL.nil : RepL K pa H [] [] := by unfold RepL; rfl
theorem RepL.cons {d : D} {ds : List D} {v : V} {vs : List V} (h : Rep K pa H d v) (t : RepL K pa H ds vs) : RepL K pa H (d :: ds) (v :: vs) := by unfold RepL; exact ⟨v, vs, rfl, h, t⟩
theorem RepL.nil_inv {vs : List V} (h : RepL K pa H [] vs) : vs = [] := by unfold RepL at h; exact h
theorem RepL.cons_inv {d : D} {ds : List D} {vs : List V} (h : RepL K pa H (d :: ds) vs) : ∃ v r, vs = v :: r ∧ Rep K pa H d v ∧ RepL K pa H ds r := by unfold RepL at h; exact h
theorem RepL.len : ∀ {ds : List D} {vs : List V}, RepL K pa H ds vs → vs.length = ds.length
  | [], vs, h => by rw [h.nil_inv]; rfl
  | d :: ds, vs, h => by
    obtain ⟨v, r, rfl, _, t⟩ := h.cons_inv
    rw [List.length_cons, List.length_cons, RepL.len t]
theorem RepL.app : ∀ {ds es : List D} {vs us : List V}, RepL K pa H ds vs → RepL K pa H es us → RepL K pa H (ds ++ es) (vs ++ us)
  | [], es, vs, us, h, t => by rw [h.nil_inv]; exact t
  | d :: ds, es, vs, us, h, t => by
    obtain ⟨v, r, rfl, h1, h2⟩ := h.cons_inv
    exact RepL.cons h1 (RepL.app h2 t)
theorem RepL.get : ∀ {ds : List D} {vs : List V}, RepL K pa H ds vs → ∀ (i : Nat) (d : D), ds[i]? = some d → ∃ v, vs[i]? = some v ∧ Rep K pa H d v
  | [], vs, h, i, d, e => by simp at e
  | d0 :: ds, vs, h, 0, d, e => by
    obtain ⟨v, r, rfl, h1, h2⟩ := h.cons_inv
    simp at e; subst e
    exact ⟨v, rfl, h1⟩
  | d0 :: ds, vs, h, i + 1, d, e => by
    obtain ⟨v, r, rfl, h1, h2⟩ := h.cons_inv
    exact RepL.get h2 i d (by simpa using e)
theorem RepL.set : ∀ {ds : List D} {vs : List V}, RepL K pa H ds vs → ∀ (i : Nat) {d : D} {v : V}, Rep K pa H d v → RepL K pa H (ds.set i d) (vs.set i v)
  | [], vs, h, i, d, v, e => by rw [h.nil_inv]; exact RepL.nil
  | d0 :: ds, vs, h, 0, d, v, e => by
    obtain ⟨v0, r, rfl, h1, h2⟩ := h.cons_inv
    exact RepL.cons e h2
  | d0 :: ds, vs, h, i + 1, d, v, e => by
    obtain ⟨v0, r, rfl, h1, h2⟩ := h.cons_inv
    exact RepL.cons h1 (RepL.set h2 i e)
theorem RepL.take : ∀ {ds : List D} {vs : List V}, RepL K pa H ds vs → ∀ n, RepL K pa H (ds.take n) (vs.take n)
  | _, _, h, 0 => by simp only [List.take_zero]; exact RepL.nil
  | [], vs, h, n + 1 => by rw [h.nil_inv]; exact RepL.nil
  | d0 :: ds, vs, h, n + 1 => by
    obtain ⟨v0, r, rfl, h1, h2⟩ := h.cons_inv
    exact RepL.cons h1 (RepL.take h2 n)
theorem RepL.drop : ∀ {ds : List D} {vs : List V}, RepL K pa H ds vs → ∀ n, RepL K pa H (ds.drop n) (vs.drop n)
  | _, _, h, 0 => h
  | [], vs, h, n + 1 => by rw [h.nil_inv]; exact RepL.nil
  | d0 :: ds, vs, h, n + 1 => by
    obtain ⟨v0, r, rfl, h1, h2⟩ := h.cons_inv
    exact RepL.drop h2 n
theorem RepL.rev : ∀ {ds : List D} {vs : List V}, RepL K pa H ds vs → RepL K pa H ds.reverse vs.reverse
  | [], vs, h => by rw [h.nil_inv]; exact RepL.nil
  | d0 :: ds, vs, h => by
    obtain ⟨v0, r, rfl, h1, h2⟩ := h.cons_inv
    rw [List.reverse_cons, List.reverse_cons]
    exact (RepL.rev h2).app (RepL.cons h1 RepL.nil)
theorem RepL.flat {ds : List D} {vs : List V} (h : RepL K pa H ds vs) : ∀ n, RepL K pa H (List.replicate n ds).flatten (List.replicate n vs).flatten
  | 0 => RepL.nil
  | n + 1 => by
    rw [List.replicate_succ, List.replicate_succ, List.flatten_cons, List.flatten_cons]
    exact h.app (RepL.flat h n)
theorem RepL.ints : ∀ {ns : List Int} {vs : List V}, RepL K pa H (ns.map D.int) vs → vs = ns.map V.int
  | [], vs, h => h.nil_inv
  | n :: ns, vs, h => by
    obtain ⟨v, r, rfl, h1, h2⟩ := h.cons_inv
    unfold Rep at h1
    rw [h1, RepL.ints h2]; rfl
theorem Rep.int_inv {i : Int} {v : V} (h : Rep K pa H (.int i) v) : v = .int i := by unfold Rep at h; exact h
theorem Rep.bl_inv {i : Bool} {v : V} (h : Rep K pa H (.bl i) v) : v = .bl i := by unfold Rep at h; exact h
theorem Rep.str_inv {i : Str} {v : V} (h : Rep K pa H (.str i) v) : v = .str i := by unfold Rep at h; exact h
theorem Rep.non_inv {v : V} (h : Rep K pa H .non v) : v = .non := by unfold Rep at h; exact h
theorem Rep.pot_inv {v : V} (h : Rep K pa H .pot v) : v = .ref pa := by unfold Rep at h; exact h
theorem Rep.lst_inv {ds : List D} {v : V} (h : Rep K pa H (.lst ds) v) : ∃ a vs, v = .ref a ∧ H a = some (.lst vs) ∧ RepL K pa H ds vs := by unfold Rep at h; exact h
theorem Rep.tup_inv {ds : List D} {v : V} (h : Rep K pa H (.tup ds) v) : ∃ a vs, v = .ref a ∧ SqT K H a vs ∧ RepL K pa H ds vs := by unfold Rep at h; exact h
theorem Rep.fld_inv {F : FD} {v : V} (h : Rep K pa H (.fld F) v) : ∃ a, v = .ref a ∧ FA K H a F (fun _ => True) := by unfold Rep at h; exact h
theorem Rep.dct_inv {ks : List Str} {ds : List D} {v : V} (h : Rep K pa H (.dct ks ds) v) : ∃ a vs, v = .ref a ∧ H a = some (.dK ((ks.map Sum.inr).zip vs)) ∧ RepL K pa H ds vs := by unfold Rep at h; exact h
theorem Rep.dc {ks : List Str} {ds : List D} {a : Addr} {vs : List V} (h : H a = some (.dK ((ks.map Sum.inr).zip vs))) (t : RepL K pa H ds vs) : Rep K pa H (.dct ks ds) (.ref a) := by unfold Rep; exact ⟨a, vs, rfl, h, t⟩
theorem Rep.dci_inv {ks : List Int} {ds : List D} {v : V} (h : Rep K pa H (.dci ks ds) v) : ∃ a vs, v = .ref a ∧ H a = some (.dK ((ks.map Sum.inl).zip vs)) ∧ RepL K pa H ds vs := by unfold Rep at h; exact h
theorem Rep.obj_inv {C : Str} {ns : List Str} {ds : List D} {v : V} (h : Rep K pa H (.obj C ns ds) v) : ObCls K C ns ∧ ∃ a dx vs, v = .ref a ∧ H a = some (.ins (He.ga K C) dx (ns.zip vs)) ∧ RepL K pa H ds vs := by unfold Rep at h; exact h
theorem Rep.o {C : Str} {ns : List Str} {ds : List D} {a dx : Addr} {vs : List V} (c : ObCls K C ns) (h : H a = some (.ins (He.ga K C) dx (ns.zip vs))) (t : RepL K pa H ds vs) : Rep K pa H (.obj C ns ds) (.ref a) := by unfold Rep; exact ⟨c, a, dx, vs, rfl, h, t⟩
theorem Rep.i {i : Int} : Rep K pa H (.int i) (.int i) := by unfold Rep; rfl
theorem Rep.b {i : Bool} : Rep K pa H (.bl i) (.bl i) := by unfold Rep; rfl
theorem Rep.s {i : Str} : Rep K pa H (.str i) (.str i) := by unfold Rep; rfl
theorem Rep.n : Rep K pa H .non .non := by unfold Rep; rfl
theorem Rep.l {ds : List D} {a : Addr} {vs : List V} (h : H a = some (.lst vs)) (t : RepL K pa H ds vs) : Rep K pa H (.lst ds) (.ref a) := by unfold Rep; exact ⟨a, vs, rfl, h, t⟩
theorem Rep.t {ds : List D} {a : Addr} {vs : List V} (h : SqT K H a vs) (t : RepL K pa H ds vs) : Rep K pa H (.tup ds) (.ref a) := by unfold Rep; exact ⟨a, vs, rfl, h, t⟩
theorem Rep.f {F : FD} {a : Addr} (h : FA K H a F (fun _ => True)) : Rep K pa H (.fld F) (.ref a) := by unfold Rep; exact ⟨a, rfl, h⟩
end
/-- scalars: their telling needs no heap -/
def D.flat : D → Bool
  | .non | .bl _ | .int _ | .str _ => true
  | _ => false
theorem Rep.flat {K : Fr} {pa : Addr} {H H' : Hp} {d : D} {v : V} (f : d.flat = true) (h : Rep K pa H d v) : Rep K pa H' d v := by
  cases d <;> first | (cases f; done) | (unfold Rep at h ⊢; exact h)
/-! ### how the heap grows: F is what is told and stays, H all -/
structure Gw (pa : Addr) (F H F' H' : Hp) : Prop where
  ex : Ex F F'
  kp : ExP pa H H'
  nw : ∀ p, F p = none → F' p ≠ none → H p = none
theorem Gw.refl (pa : Addr) (F H : Hp) : Gw pa F H F H := ⟨Ex.refl _, ExP.refl _ _, fun p h h' => absurd h h'⟩
/-- where one stands -/
inductive G where
  | fz (d : D) | ow (ds : List D) | any
abbrev GE := List G
structure Bs (pa : Addr) (F H : Hp) : Prop where
  ex : Ex F H
  po : Po pa H
  np : F pa = none
def SlotOk (K : Fr) (pa : Addr) (H0 F H : Hp) (σ : L2.St) (i : Nat) : G → Prop
  | .fz d => ∃ v, σ[i]? = some (some v) ∧ Rep K pa F d v
  | .ow ds => ∃ a vs, σ[i]? = some (some (.ref a)) ∧ H a = some (.lst vs) ∧ F a = none ∧ H0 a = none ∧ a ≠ pa ∧ RepL K pa F ds vs
  | .any => True
structure StO (K : Fr) (pa : Addr) (H0 F : Hp) (ρ : GE) (σ : L2.St) (H : Hp) : Prop where
  bs : Bs pa F H
  len : ρ.length = σ.length
  sl : ∀ (i : Nat) (g : G), ρ[i]? = some g → SlotOk K pa H0 F H σ i g
  inj : ∀ (i j : Nat) (ds es : List D) (a : Addr), ρ[i]? = some (.ow ds) → ρ[j]? = some (.ow es) → σ[i]? = some (some (.ref a)) → σ[j]? = some (some (.ref a)) → i = j
section
variable {K : Fr} {pa : Addr} {H0 F F' F'' H H' H'' : Hp} {ρ : GE} {σ : L2.St}
theorem Gw.trans (b : Bs pa F' H') (n2 : F'' pa = none) (P : Po pa H) (g : Gw pa F H F' H') (g' : Gw pa F' H' F'' H'') : Gw pa F H F'' H'' := by
  refine ⟨g.ex.trans g'.ex, g.kp.trans g'.kp, fun p h h' => ?_⟩
  by_cases c : F' p = none
  · have q := g'.nw p c h'
    cases e : H p with
    | none => rfl
    | some o =>
      have np : p ≠ pa := by
        rintro rfl
        exact h' n2
      have := g.kp p o np e
      rw [this] at q; cases q
  · exact g.nw p h c
theorem Bs.gw (b : Bs pa F H) (g : Gw pa F H F' H') (e : Ex F' H') (P : Po pa H') : Bs pa F' H' := by
  refine ⟨e, P, ?_⟩
  cases c : F' pa with
  | none => rfl
  | some o =>
    have := g.nw pa b.np (by rw [c]; exact fun z => nomatch z)
    obtain ⟨m, s, h, _⟩ := b.po
    rw [h] at this; cases this
theorem StO.grow (S : StO K pa H0 F ρ σ H) (g : Gw pa F H F' H') (b : Bs pa F' H') : StO K pa H0 F' ρ σ H' := by
  refine ⟨b, S.len, fun i x h => ?_, S.inj⟩
  have q := S.sl i x h
  cases x with
  | fz d =>
    obtain ⟨v, h1, h2⟩ := q
    exact ⟨v, h1, Rep.ex g.ex d v h2⟩
  | ow ds =>
    obtain ⟨a, vs, h1, h2, h3, h4, h5, h6⟩ := q
    refine ⟨a, vs, h1, g.kp a _ h5 h2, ?_, h4, h5, RepL.ex g.ex ds vs h6⟩
    cases c : F' a with
    | none => rfl
    | some o =>
      have := g.nw a h3 (by rw [c]; exact fun z => nomatch z)
      rw [h2] at this; cases this
  | any => trivial
end
/-! ### what a value is: told (fz), new (nw), lent (br) -/
def RepB (K : Fr) (pa : Addr) (F H : Hp) (d : D) (v : V) : Prop := Rep K pa F d v ∨ ∃ ds a vs, d = .lst ds ∧ v = .ref a ∧ a ≠ pa ∧ H a = some (.lst vs) ∧ RepL K pa F ds vs
inductive Md | fz | nw | br | nd | nn | nc
/-- the lists among vs are new since H -/
def NewL (H F : Hp) (vs : List V) : Prop := ∀ a us, V.ref a ∈ vs → F a = some (.lst us) → H a = none
def NqL (q : Addr) (ds : List D) (vs : List V) : Prop := ∀ (j : Nat) (xs : List D), ds[j]? = some (.lst xs) → vs[j]? ≠ some (.ref q)
/-- H: ahead of it, H1: behind it -/
def RepM (K : Fr) (pa : Addr) (H F H1 : Hp) : Md → D → V → Prop
  | .fz, d, v => Rep K pa F d v
  | .nw, d, v => ∃ ds a vs, d = .lst ds ∧ v = .ref a ∧ H1 a = some (.lst vs) ∧ F a = none ∧ H a = none ∧ RepL K pa F ds vs
  | .br, d, v => RepB K pa F H1 d v
  | .nd, d, v => ∃ ds q vs, v = .ref q ∧ ((d = .lst ds ∧ F q = some (.lst vs)) ∨ (d = .tup ds ∧ SqT K F q vs)) ∧ RepL K pa F ds vs ∧ NewL H F vs ∧ NqL q ds vs
  | .nn, d, v => ∃ ds q vs, d = .lst ds ∧ v = .ref q ∧ F q = some (.lst vs) ∧ H q = none ∧ RepL K pa F ds vs ∧ NewL H F vs ∧ NqL q ds vs
  | .nc, d, v => ∃ ks ds a vs, d = .dct ks ds ∧ v = .ref a ∧ H1 a = some (.dK ((ks.map Sum.inr).zip vs)) ∧ F a = none ∧ H a = none ∧ RepL K pa F ds vs
abbrev WE := GE → (D → Prop) → Prop
abbrev WA := GE → (List D → Prop) → Prop
abbrev WT := GE → (Bool → Prop) → Prop
abbrev WI := GE → (List (List D) → Prop) → Prop
structure WEnds where
  nx : GE → Prop
  rt : D → Prop
  bk : GE → Prop := fun _ => False
  ct : GE → Prop := fun _ => False
abbrev WS := WEnds → GE → Prop
/-- the def's name for what it does -/
abbrev WC := List D → (D → Prop) → Prop
/-- the reading te does what we says -/
def RE (K : Fr) (m : Md) (te : TE) (we : WE) : Prop := ∀ {pa : Addr} {H0 F H : Hp} {ρ : GE} {σ : L2.St} {Q : VK} {Qd : D → Prop}, StO K pa H0 F ρ σ H → we ρ Qd →
  (∀ d v F' H', Gw pa F H F' H' → StO K pa H0 F' ρ σ H' → RepM K pa H F' H' m d v → Qd d → Q v H') → te σ H Q
def RT (K : Fr) (tt : TT) (wt : WT) : Prop := ∀ {pa : Addr} {H0 F H : Hp} {ρ : GE} {σ : L2.St} {Q : Bool → Hp → Prop} {Qd : Bool → Prop}, StO K pa H0 F ρ σ H → wt ρ Qd →
  (∀ b F' H', Gw pa F H F' H' → StO K pa H0 F' ρ σ H' → Qd b → Q b H') → tt σ H Q
/-- arguments, each told or lent -/
def RepML (K : Fr) (pa : Addr) (F H : Hp) : Bool → List D → List V → Prop
  | false, ds, vs => RepL K pa F ds vs
  | true, ds, vs => Paired (fun d v => RepB K pa F H d v) ds vs
def RA (K : Fr) (lent : Bool) (ta : TA) (wa : WA) : Prop := ∀ {pa : Addr} {H0 F H : Hp} {ρ : GE} {σ : L2.St} {Q : List V → Hp → Prop} {Qd : List D → Prop}, StO K pa H0 F ρ σ H → wa ρ Qd →
  (∀ ds vs F' H', Gw pa F H F' H' → StO K pa H0 F' ρ σ H' → RepML K pa F' H' lent ds vs → Qd ds → Q vs H') → ta σ H Q
section
variable {K : Fr} {pa : Addr} {H0 F F' F'' H H' H'' : Hp} {ρ : GE} {σ : L2.St} {te : TE} {we : WE}
theorem StO.gwT (S : StO K pa H0 F ρ σ H) (g : Gw pa F H F' H') (S' : StO K pa H0 F' ρ σ H') (g' : Gw pa F' H' F'' H'') (S'' : StO K pa H0 F'' ρ σ H'') : Gw pa F H F'' H'' := Gw.trans S'.bs S''.bs.np S.bs.po g g'
/-- a new object, told from now on -/
theorem gw_new {p : Addr} {o : HO} (b : Bs pa F H) (np : H p = none) : Gw pa F H (upd F p o) (upd H p o) ∧ Bs pa (upd F p o) (upd H p o) := by
  have nF : F p = none := by
    cases c : F p with
    | none => rfl
    | some x => have := b.ex p x c; rw [np] at this; cases this
  have npa : p ≠ pa := by
    obtain ⟨m, s, h, _⟩ := b.po
    rintro rfl
    rw [np] at h; cases h
  refine ⟨⟨Ex.new nF, (Ex.new np).p, fun q h h' => ?_⟩, ⟨fun a x e => ?_, ?_, ?_⟩⟩
  · by_cases c : q = p
    · rw [c]; exact np
    · rw [upd_ne c] at h'; exact absurd h h'
  · by_cases c : a = p
    · rw [c, upd_same] at e ⊢; exact e
    · rw [upd_ne c] at e ⊢; exact b.ex a x e
  · exact b.po.ex (Ex.new np)
  · rw [upd_ne (Ne.symm npa)]; exact b.np
/-- a new object, not told -/
theorem gw_own {p : Addr} {o : HO} (b : Bs pa F H) (np : H p = none) : Gw pa F H F (upd H p o) ∧ Bs pa F (upd H p o) ∧ F p = none := by
  have nF : F p = none := by
    cases c : F p with
    | none => rfl
    | some x => have := b.ex p x c; rw [np] at this; cases this
  exact ⟨⟨Ex.refl _, (Ex.new np).p, fun q h h' => absurd h h'⟩, ⟨b.ex.trans (Ex.new np), b.po.ex (Ex.new np), b.np⟩, nF⟩
/-- what was new is told from now on -/
theorem gw_told {p : Addr} {o : HO} (b : Bs pa F H) (b' : Bs pa F' H') (g : Gw pa F H F' H') (np : H p = none) (h : H' p = some o) (nf : F' p = none) : Gw pa F H (upd F' p o) H' ∧ Bs pa (upd F' p o) H' := by
  have npa : p ≠ pa := by
    obtain ⟨m, s, h, _⟩ := b.po
    rintro rfl
    rw [np] at h; cases h
  refine ⟨⟨g.ex.trans (Ex.new nf), g.kp, fun q z z' => ?_⟩, ⟨fun a x e => ?_, b'.po, by rw [upd_ne (Ne.symm npa)]; exact b'.np⟩⟩
  · by_cases c : q = p
    · rw [c]; exact np
    · rw [upd_ne c] at z'; exact g.nw q z z'
  · by_cases c : a = p
    · rw [c, upd_same] at e; rw [c, h, ← e]
    · rw [upd_ne c] at e; exact b'.ex a x e
/-- new ones may be told, or lent; told ones lent -/
theorem re_told (h : RE K .nw te we) : RE K .fz te we := by
  intro pa H0 F H ρ σ Q Qd S w k
  refine h S w fun d v F' H' g S' r q => ?_
  obtain ⟨ds, a, vs, rfl, rfl, h1, h2, h3, h4⟩ := r
  obtain ⟨g2, b2⟩ := gw_told (o := .lst vs) S.bs S'.bs g h3 h1 h2
  exact k (.lst ds) _ _ _ g2 (S.grow g2 b2) (show Rep K pa (upd F' a (.lst vs)) (.lst ds) (.ref a) from Rep.l upd_same (RepL.ex (Ex.new h2) _ _ h4)) q
theorem RepB.gw {d : D} {v : V} (h : RepB K pa F H d v) (g : Gw pa F H F' H') : RepB K pa F' H' d v := by
  rcases h with h | ⟨ds, a, vs, rfl, rfl, n, h1, h2⟩
  · exact .inl (Rep.ex g.ex d v h)
  · exact .inr ⟨ds, a, vs, rfl, rfl, n, g.kp a _ n h1, RepL.ex g.ex _ _ h2⟩
theorem RepML.gw {b : Bool} {ds : List D} {vs : List V} (h : RepML K pa F H b ds vs) (g : Gw pa F H F' H') : RepML K pa F' H' b ds vs := by
  cases b with
  | false => exact RepL.ex g.ex _ _ h
  | true =>
    unfold RepML at h ⊢
    induction h with
    | nil => exact .nil
    | cons r _ ih => exact .cons (r.gw g) ih
theorem Po.nea {a : Addr} (b : Bs pa F H) (np : H a = none) : a ≠ pa := by
  obtain ⟨m, s, h, _⟩ := b.po
  rintro rfl
  rw [np] at h; cases h
theorem re_lent (h : RE K .fz te we) : RE K .br te we := fun S w k => h S w fun d v F' H' g S' r q => k d v F' H' g S' (.inl r) q
theorem re_lentN (h : RE K .nw te we) : RE K .br te we := by
  intro pa H0 F H ρ σ Q Qd S w k
  refine h S w fun d v F' H' g S' r q => k d v F' H' g S' (.inr ?_) q
  obtain ⟨ds, a, vs, rfl, rfl, h1, h2, h3, h4⟩ := r
  exact ⟨ds, a, vs, rfl, rfl, Po.nea S.bs h3, h1, h4⟩
end
end TP
/-! TPG -/
set_option maxHeartbeats 4000000
/-! # Defs that tell a list's text: promised of a run that tells none just then -/
namespace TP
open PySem PySem.Spec PyProof.Rows L2
/-- kept by a run in which no list's text is being told -/
structure FnG (P : Program) (w : World) (K : Fr) (mg : Str → Option Value) (bs : Heap) (k : Nat) (fn : Addr) (fd : FuncData) (prs : List Str) (sp : Sp) : Prop where
  len : ∀ vs Z Q E, sp vs Z Q E → vs.length = prs.length
  run : ∀ (A : Around) (fr : List Env) (t : Shared) (Z : Hp) (ar : Args) (us : List Value) (vs : List V) (Q : VK) (E : XK), A.guards = some [] → Room k A → Env0 P w K mg bs A fr t Z → BindsTo t fd ar (prs.zip us) → Vals vs us → sp vs Z Q E →
    codeAny (model P w) A (.call (.ref fn) ar) (CR CX0 fr P w Z t Q E) t
section
variable {P : Program} {w : World} {K : Fr} {mg : Str → Option Value} {bs : Heap} {x qual : Str} {params : Arguments} {body : List Stmt} {scope : Scope} {fn : Addr} {fd : FuncData} {N prs : List Str} {k : Nat} {sp : Sp}
theorem okG (F : FunD K x qual params body scope [] [] fn fd) (S : FnScope N prs scope) (len : ∀ vs Z Q E, sp vs Z Q E → vs.length = prs.length)
    (bod : ∀ (cdv : Value) (A : Around) (fr : List Env) (t : Shared) (Z : Hp) (vs : List V) (Q : VK) (E : XK), A.guards = some [] → Room k (A.deeper (envOfC qual scope t.heap.objs.size fn cdv)) → sp vs Z Q E →
      ∃ rd, PSs (cxOf CX0 P w K mg bs N qual scope fn cdv A fr t Z E) body rd ∧ rd { nx := fun _ Z' => Q .non Z', rt := Q } (start N vs) Z) : FnG P w K mg bs (k + 1) fn fd prs sp := by
  obtain ⟨oc, od, dV, kV, doc, pm, an, cdv, ct, osl, rfl, look, code, _, _⟩ := F.ex
  refine ⟨len, fun A fr t Z ar us vs Q E gd room env bind rel pre => ?_⟩
  have same : ∀ b o, bs.get? b = some o → t.heap.get? b = some o := fun b o z => (env.bs b o z).1
  have inK : K.In t.heap := env.mod.kin.keeps same
  have noLim : t.heap.NoLimit := env.mod.nolimit.keeps same
  have kinds : ∀ y ∈ prs.zip us, scope.names.lookup y.1 = some .local ∨ (scope.names.lookup y.1 = some .cell ∧ ((cellsFrom (t.heap.objs.size + 1) scope.names []).lookup y.1).isSome = true) := by
    rintro ⟨n, v⟩ mem
    rcases S.par n (List.of_mem_zip mem).1 with z | z
    · exact .inl z
    · exact .inr ⟨z, PySem.W.cellsFrom_some _ _ _ (.inl z)⟩
  refine codeAny_call_function room.depth (inK _ _ look) rfl S.co S.gen rfl (PySem.W.codeRec_of inK code) (bind _ _ _ _ (wpAny_newFunctionEnv_cells S.kind kinds fun e he t1 ic => ?_))
  cases he
  refine ⟨noLim.keeps ic.toInCall.keep, codeAny_func ?_⟩
  obtain ⟨rd, der, go⟩ := bod cdv A fr t Z vs Q E gd (room.deeper _) pre
  have st := inv_start (CX := CX0) (E := E) S room.hd env (len _ _ _ _ pre) rel ic
  refine wpAny_mono (der.run [] t1 (start N vs) Z _ st go) (fun flow t2 out => ?_) fun _ _ z => z
  match flow, out with
  | .ret u, ⟨v, σ2, Z2, J, rv, q⟩ => exact ⟨v, Z2, J.os, J.bare, J.base, J.hok, rv, q⟩
  | .next, ⟨σ2, Z2, J, q⟩ => exact ⟨V.non, Z2, J.os, J.bare, J.base, J.hok, rfl, q⟩
  | .brk, ⟨_, _, _, q⟩ => exact q.elim
  | .cont, ⟨_, _, _, q⟩ => exact q.elim
end
section
variable {X : Cx} {k : Nat} {fn : Addr} {fd : FuncData} {prs : List Str} {sp : Sp} {x : Str} {p pos : Pos} {e : PySem.Expr} {es : List PySem.Expr} {t : TA}
/-- f(e, ..) of such a def -/
theorem pe_callG (gd : X.A.guards = some []) (F : FnG X.prog X.w X.K X.mg X.base k fn fd prs sp) (room : Room k X.A) (gl : Gl X x) (at_ : X.mg x = some (.ref fn)) (kp : PySem.W.keepIn X.K (.ref fn) = true) (bd : Binds X.K fd prs []) (ha : PA X (e :: es) t)
    (hdb : (x == ("__debug__" : Str)) = false := by decide) (h1 : starEach (e :: es) X.env = (false, eval e X.env) :: starEach es X.env := by rfl) (h2 : (backTo pos (starEach es X.env)).any (·.1) = false := by rfl) :
    PE X (.Call (.Name x p) (e :: es) [] pos) (tCall sp [] E0 t) := by
  refine ⟨fun pins s σ Z Q I pre => wpAny_Call_Name_kw (ld_glob I gl at_ ?_ hdb)⟩
  refine PySem.W.callWith_K (h₀ := X.base) I.ok.mod.kin kp (thn (ha.run pos pins s σ Z _ I pre) fun us s1 ⟨vs, Z1, J, rel, q⟩ => ⟨J.kIn, ?_⟩) h1 h2
  have q2 : sp (vs ++ []) Z1 Q E0 := q
  rw [List.append_nil] at q2
  have n1 : (us ++ ([] : List Value)).length = prs.length := by rw [List.append_nil, ← rel.length]; exact F.len _ _ _ _ q2
  have b1 := bd s1 us J.kIn n1
  rw [List.append_nil] at b1
  refine wpAny_call (codeAny_mono (F.run X.A X.stack s1 Z1 ⟨us, []⟩ us vs Q E0 gd room J.env0 b1 rel q2) fun r s2 out => ?_)
  match r, out with
  | .ok (.ret u), out => exact J.after out
  | .ok .next, out => exact False.elim out
  | .ok .brk, out => exact False.elim out
  | .ok .cont, out => exact False.elim out
  | .error er, out => exact False.elim out
/-- a list's numbers as its text tells them -/
def shownI (ns : List Int) : Str := (dI ns).shown
def rReprI (K : Fr) : List V → Hp → VK → Prop := fun xs Z Q => ∃ (a : Addr) (ns : List Int), xs = [.ref a] ∧ SqL K Z a (ns.map V.int) ∧ (∀ n ∈ ns, n.natAbs < 10 ^ 12) ∧ ns.length ≤ 1000 ∧ Q (.str (shownI ns)) Z
end
end TP
/-! DL1 -/
set_option maxHeartbeats 4000000
namespace TP
open PySem PySem.Spec PyProof.Rows L2
section
variable {K : Fr} {pa : Addr} {H0 F F' F'' H H' H'' : Hp} {ρ : GE} {σ : L2.St}
/-! ### what lent values are -/
theorem RepB.rep {d : D} {v : V} (h : RepB K pa F H d v) (n : ∀ ds, d ≠ .lst ds) : Rep K pa F d v := by
  rcases h with h | ⟨ds, a, vs, rfl, _⟩
  · exact h
  · exact absurd rfl (n ds)
theorem RepB.int_inv {i : Int} {v : V} (h : RepB K pa F H (.int i) v) : v = .int i := (h.rep (fun _ z => nomatch z)).int_inv
theorem RepB.bl_inv {i : Bool} {v : V} (h : RepB K pa F H (.bl i) v) : v = .bl i := (h.rep (fun _ z => nomatch z)).bl_inv
theorem RepB.str_inv {i : Str} {v : V} (h : RepB K pa F H (.str i) v) : v = .str i := (h.rep (fun _ z => nomatch z)).str_inv
theorem RepB.non_inv {v : V} (h : RepB K pa F H .non v) : v = .non := (h.rep (fun _ z => nomatch z)).non_inv
theorem RepB.lst_inv {ds : List D} {v : V} (b : Bs pa F H) (h : RepB K pa F H (.lst ds) v) : ∃ a vs, v = .ref a ∧ H a = some (.lst vs) ∧ a ≠ pa ∧ RepL K pa F ds vs := by
  rcases h with h | ⟨es, a, vs, e, rfl, n, h1, h2⟩
  · obtain ⟨a, vs, rfl, h1, h2⟩ := h.lst_inv
    refine ⟨a, vs, rfl, b.ex _ _ h1, ?_, h2⟩
    rintro rfl
    have := b.np
    rw [h1] at this; cases this
  · cases e
    exact ⟨a, vs, rfl, h1, n, h2⟩
theorem RepB.tup_inv {ds : List D} {v : V} (b : Bs pa F H) (h : RepB K pa F H (.tup ds) v) : ∃ a vs, v = .ref a ∧ SqT K H a vs ∧ RepL K pa F ds vs := by
  obtain ⟨a, vs, rfl, h1, h2⟩ := (h.rep (fun _ z => nomatch z)).tup_inv
  exact ⟨a, vs, rfl, b.ex.tup h1, h2⟩
theorem Po.back {a : Addr} (P : Po pa H) (g : Gw pa F H F' H') (h : H' a = none) (P' : Po pa H') : H a = none := by
  cases e : H a with
  | none => rfl
  | some o =>
    by_cases c : a = pa
    · obtain ⟨m, s, z, _⟩ := P'
      rw [c, z] at h; cases h
    · have := g.kp a o c e
      rw [h] at this; cases this
theorem RepM.back {m : Md} {d : D} {v : V} (P : Po pa H) (P' : Po pa H') (g : Gw pa F H F' H') {F2 H2 : Hp} (h : RepM K pa H' F2 H2 m d v) : RepM K pa H F2 H2 m d v := by
  cases m with
  | fz => exact h
  | br => exact h
  | nd =>
    obtain ⟨ds, q, vs, rfl, h1, h2, h3, h4⟩ := h
    exact ⟨ds, q, vs, rfl, h1, h2, fun a us m e => Po.back P g (h3 a us m e) P', h4⟩
  | nw =>
    obtain ⟨ds, a, vs, rfl, rfl, h1, h2, h3, h4⟩ := h
    exact ⟨ds, a, vs, rfl, rfl, h1, h2, Po.back P g h3 P', h4⟩
  | nn =>
    obtain ⟨ds, q, vs, rfl, rfl, h1, h2, h3, h4, h5⟩ := h
    exact ⟨ds, q, vs, rfl, rfl, h1, Po.back P g h2 P', h3, fun a us m e => Po.back P g (h4 a us m e) P', h5⟩
  | nc =>
    obtain ⟨ks, ds, a, vs, rfl, rfl, h1, h2, h3, h4⟩ := h
    exact ⟨ks, ds, a, vs, rfl, rfl, h1, h2, Po.back P g h3 P', h4⟩
/-- a new list, not yet told -/
theorem RepM.nwI {ds : List D} {a : Addr} {vs : List V} (h1 : H' a = some (.lst vs)) (h2 : F a = none) (h3 : H a = none) (h4 : RepL K pa F ds vs) : RepM K pa H F H' .nw (.lst ds) (.ref a) := ⟨ds, a, vs, rfl, rfl, h1, h2, h3, h4⟩
theorem RepM.i {i : Int} : RepM K pa H F H' .fz (.int i) (.int i) := show Rep K pa F (.int i) (.int i) from Rep.i
theorem RepM.b {i : Bool} : RepM K pa H F H' .fz (.bl i) (.bl i) := show Rep K pa F (.bl i) (.bl i) from Rep.b
theorem RepM.s {i : Str} : RepM K pa H F H' .fz (.str i) (.str i) := show Rep K pa F (.str i) (.str i) from Rep.s
theorem RepM.n : RepM K pa H F H' .fz .non .non := show Rep K pa F (.non) (.non) from Rep.n
theorem RepM.r {d : D} {v : V} (h : RepM K pa H F H' .fz d v) : Rep K pa F d v := h
theorem RepM.bl_inv {d : Bool} {v : V} (h : RepM K pa H F H' .fz (.bl d) v) : v = .bl d := Rep.bl_inv h.r
theorem RepM.int_inv {d : Int} {v : V} (h : RepM K pa H F H' .fz (.int d) v) : v = .int d := Rep.int_inv h.r
theorem RepM.lentI {d : D} {v : V} (h : RepM K pa H F H' .br d v) : RepB K pa F H' d v := h
theorem RepM.f {d : D} {v : V} (h : Rep K pa F d v) : RepM K pa H F H' .fz d v := h
/-! ### names and constants -/
def wC (d : D) : WE := fun _ Q => Q d
def wVar (i : Nat) : WE := fun ρ Q => match ρ[i]? with | some (.fz d) => Q d | _ => False
def wVarB (i : Nat) : WE := fun ρ Q => match ρ[i]? with | some (.fz d) => Q d | some (.ow ds) => Q (.lst ds) | _ => False
theorem re_int {i : Int} : RE K .fz (tC (.int i)) (wC (.int i)) := fun S w k => k _ _ _ _ (Gw.refl _ _ _) S RepM.i w
theorem re_bl {i : Bool} : RE K .fz (tC (.bl i)) (wC (.bl i)) := fun S w k => k _ _ _ _ (Gw.refl _ _ _) S RepM.b w
theorem re_str {i : Str} : RE K .fz (tC (.str i)) (wC (.str i)) := fun S w k => k _ _ _ _ (Gw.refl _ _ _) S RepM.s w
theorem re_non : RE K .fz (tC .non) (wC .non) := fun S w k => k _ _ _ _ (Gw.refl _ _ _) S RepM.n w
theorem re_var {i : Nat} : RE K .fz (tVar i) (wVar i) := by
  intro pa H0 F H ρ σ Q Qd S w k
  unfold wVar at w
  split at w
  · rename_i d e
    obtain ⟨v, h1, h2⟩ := S.sl _ _ e
    exact ⟨v, h1, k _ _ _ _ (Gw.refl _ _ _) S h2 w⟩
  · exact w.elim
theorem re_varB {i : Nat} : RE K .br (tVar i) (wVarB i) := by
  intro pa H0 F H ρ σ Q Qd S w k
  unfold wVarB at w
  split at w
  · rename_i d e
    obtain ⟨v, h1, h2⟩ := S.sl _ _ e
    exact ⟨v, h1, k _ _ _ _ (Gw.refl _ _ _) S (.inl h2) w⟩
  · rename_i ds e
    obtain ⟨a, vs, h1, h2, h3, h4, h5, h6⟩ := S.sl _ _ e
    exact ⟨.ref a, h1, k _ _ _ _ (Gw.refl _ _ _) S (.inr ⟨ds, a, vs, rfl, rfl, h5, h2, h6⟩) w⟩
  · exact w.elim
/-! ### two values -/
def V2 (K : Fr) (m : Md) (r2 : R2) (f : D → D → (D → Prop) → Prop) : Prop := ∀ {pa : Addr} {F H : Hp} {x y : V} {d e : D} {Q : VK} {Qd : D → Prop}, Bs pa F H → RepB K pa F H d x → RepB K pa F H e y → f d e Qd →
  (∀ d' v F' H', Gw pa F H F' H' → Bs pa F' H' → RepM K pa H F' H' m d' v → Qd d' → Q v H') → r2 x y H Q
def wOp (f : D → D → (D → Prop) → Prop) (wa wb : WE) : WE := fun ρ Q => wa ρ fun d => wb ρ fun e => f d e Q
variable {ta tb te : TE} {wa wb we : WE} {m : Md}
theorem re_op {r2 : R2} {f : D → D → (D → Prop) → Prop} (h : V2 K m r2 f) (ha : RE K .br ta wa) (hb : RE K .br tb wb) : RE K m (tOp r2 ta tb) (wOp f wa wb) := by
  intro pa H0 F H ρ σ Q Qd S w k
  refine ha S w fun d x F1 H1 g1 S1 r1 w1 => hb S1 w1 fun e y F2 H2 g2 S2 r2' w2 => ?_
  have g12 := S.gwT g1 S1 g2 S2
  refine h S2.bs (RepB.gw r1 g2) r2' w2 fun d' v F' H' g b r q => ?_
  have g' := Gw.trans S2.bs b.np S.bs.po g12 g
  exact k d' v F' H' g' (S.grow g' b) (r.back S.bs.po S2.bs.po g12) q
def V1 (K : Fr) (m : Md) (r : V → Hp → VK → Prop) (f : D → (D → Prop) → Prop) : Prop := ∀ {pa : Addr} {F H : Hp} {x : V} {d : D} {Q : VK} {Qd : D → Prop}, Bs pa F H → RepB K pa F H d x → f d Qd →
  (∀ d' v F' H', Gw pa F H F' H' → Bs pa F' H' → RepM K pa H F' H' m d' v → Qd d' → Q v H') → r x H Q
def wUn (f : D → (D → Prop) → Prop) (wa : WE) : WE := fun ρ Q => wa ρ fun d => f d Q
theorem re_un' {r : V → Hp → VK → Prop} {f : D → (D → Prop) → Prop} {t : TE} (h : V1 K m r f) (ha : RE K .br ta wa) (ht : ∀ σ H Q, (ta σ H fun x H1 => r x H1 Q) → t σ H Q) : RE K m t (wUn f wa) := by
  intro pa H0 F H ρ σ Q Qd S w k
  refine ht σ H Q (ha S w fun d x F1 H1 g1 S1 r1 w1 => ?_)
  refine h S1.bs r1 w1 fun d' v F' H' g b r q => ?_
  have g' := Gw.trans S1.bs b.np S.bs.po g1 g
  exact k d' v F' H' g' (S.grow g' b) (r.back S.bs.po S1.bs.po g1) q
theorem re_un {r : V → Hp → VK → Prop} {f : D → (D → Prop) → Prop} (h : V1 K m r f) (ha : RE K .br ta wa) : RE K m (tUn r ta) (wUn f wa) := re_un' h ha fun _ _ _ z => z
def fII (C : Int → Int → Prop) (g : Int → Int → D) : D → D → (D → Prop) → Prop := fun d e Q => match d, e with | .int i, .int j => C i j ∧ Q (g i j) | _, _ => False
def fI0 (g : Int → Int → D) : D → D → (D → Prop) → Prop := fun d e Q => match d, e with | .int i, .int j => Q (g i j) | _, _ => False
abbrev fAdd := fI0 fun i j => .int (i + j)
abbrev fSub := fI0 fun i j => .int (i - j)
abbrev fMul := fII CMul fun i j => .int (i * j)
abbrev fMod := fII (fun _ j => 0 < j) fun i j => .int (i % j)
abbrev fFdiv := fII CDiv fun i j => .int (i / j)
abbrev fPow := fII CPow fun i j => .int (i ^ j.toNat)
abbrev fLt := fI0 fun i j => .bl (decide (i < j))
abbrev fLe := fI0 fun i j => .bl (decide (i ≤ j))
abbrev fGt := fI0 fun i j => .bl (decide (j < i))
abbrev fGe := fI0 fun i j => .bl (decide (j ≤ i))
theorem flat_v2 {g : Int → Int → D} {gv : Int → Int → V} (hg : ∀ i j (K : Fr) pa H, Rep K pa H (g i j) (gv i j)) {C : Int → Int → Prop} : V2 K .fz (rI C gv) (fII C g) := by
  intro pa F H x y d e Q Qd b hx hy w k
  unfold fII at w
  split at w
  · exact ⟨_, _, hx.int_inv, hy.int_inv, w.1, k _ _ _ _ (Gw.refl _ _ _) b (hg _ _ _ _ _) w.2⟩
  · exact w.elim
theorem flat_v20 {g : Int → Int → D} {gv : Int → Int → V} (hg : ∀ i j (K : Fr) pa H, Rep K pa H (g i j) (gv i j)) : V2 K .fz (rI0 gv) (fI0 g) := by
  intro pa F H x y d e Q Qd b hx hy w k
  unfold fI0 at w
  split at w
  · exact ⟨_, _, hx.int_inv, hy.int_inv, k _ _ _ _ (Gw.refl _ _ _) b (hg _ _ _ _ _) w⟩
  · exact w.elim
theorem v2_add : V2 K .fz rAddI fAdd := flat_v20 fun _ _ _ _ _ => Rep.i
theorem v2_sub : V2 K .fz rSubI fSub := flat_v20 fun _ _ _ _ _ => Rep.i
theorem v2_mul : V2 K .fz rMulI fMul := flat_v2 fun _ _ _ _ _ => Rep.i
theorem v2_fdiv : V2 K .fz rFdivI fFdiv := flat_v2 fun _ _ _ _ _ => Rep.i
theorem v2_lt : V2 K .fz rLtI fLt := flat_v20 fun _ _ _ _ _ => Rep.b
theorem v2_le : V2 K .fz rLeI fLe := flat_v20 fun _ _ _ _ _ => Rep.b
theorem v2_ge : V2 K .fz rGeI fGe := flat_v20 fun _ _ _ _ _ => Rep.b
def fNeg : D → (D → Prop) → Prop := fun d Q => match d with | .int i => Q (.int (-i)) | _ => False
theorem v1_neg : V1 K .fz rNeg fNeg := by
  intro pa F H x d Q Qd b hx w k
  unfold fNeg at w
  split at w
  · exact ⟨_, hx.int_inv, k _ _ _ _ (Gw.refl _ _ _) b RepM.i w⟩
  · exact w.elim
/-! ### lists -/
def many : Nat := 1000000
theorem many_ok {n : Nat} (h : n ≤ many) : n ≤ sizeLine := by unfold many at h; unfold sizeLine; omega
/-- a new list, as the rules give it -/
theorem new_nw {Q : VK} {Qd : D → Prop} {ds : List D} {vs : List V} (b : Bs pa F H) (r : RepL K pa F ds vs) (q : Qd (.lst ds))
    (k : ∀ d' v F' H', Gw pa F H F' H' → Bs pa F' H' → RepM K pa H F' H' .nw d' v → Qd d' → Q v H') : ∀ p, H p = none → Q (.ref p) (upd H p (.lst vs)) := fun p np => by
  obtain ⟨g, b', nf⟩ := gw_own (o := .lst vs) b np
  exact k _ _ _ _ g b' (.nwI upd_same nf np r) q
theorem new_tup {Q : VK} {Qd : D → Prop} {ds : List D} {vs : List V} (b : Bs pa F H) (r : RepL K pa F ds vs) (q : Qd (.tup ds))
    (k : ∀ d' v F' H', Gw pa F H F' H' → Bs pa F' H' → RepM K pa H F' H' .fz d' v → Qd d' → Q v H') : ∀ p, H p = none → Q (.ref p) (upd H p (.tup vs)) := fun p np => by
  obtain ⟨g, b'⟩ := gw_new (o := .tup vs) b np
  exact k (.tup ds) _ _ _ g b' (RepM.f (d := .tup ds) <| Rep.t (sqT upd_same) (RepL.ex g.ex _ _ r)) q
def fCat : D → D → (D → Prop) → Prop := fun d e Q => match d, e with | .lst xs, .lst ys => xs.length + ys.length ≤ many ∧ Q (.lst (xs ++ ys)) | _, _ => False
theorem v2_cat : V2 K .nw rCat fCat := by
  intro pa F H x y d e Q Qd b hx hy w k
  unfold fCat at w
  split at w
  · obtain ⟨a, vs, rfl, h1, n1, r1⟩ := hx.lst_inv b
    obtain ⟨c, us, rfl, h2, n2, r2⟩ := hy.lst_inv b
    exact ⟨a, c, vs, us, rfl, rfl, h1, h2, by rw [r1.len, r2.len]; exact many_ok w.1, new_nw b (r1.app r2) w.2 k⟩
  · exact w.elim
def fRep : D → D → (D → Prop) → Prop := fun d e Q => match d, e with | .lst xs, .int n => (-(2 ^ 60) ≤ n ∧ n < 2 ^ 60 ∧ xs.length * n.toNat ≤ many) ∧ Q (.lst (List.replicate n.toNat xs).flatten) | _, _ => False
theorem v2_rep : V2 K .nw rRep fRep := by
  intro pa F H x y d e Q Qd b hx hy w k
  unfold fRep at w
  split at w
  · obtain ⟨a, vs, rfl, h1, n1, r1⟩ := hx.lst_inv b
    exact ⟨a, _, vs, rfl, hy.int_inv, h1, by omega, by omega, by rw [r1.len]; exact many_ok w.1.2.2, new_nw b (r1.flat _) w.2 k⟩
  · exact w.elim
theorem atI_rep {ds : List D} {vs : List V} (r : RepL K pa F ds vs) {i : Int} {d : D} (h : atI ds i = some d) : ∃ v, atI vs i = some v ∧ Rep K pa F d v := by
  unfold atI at h ⊢
  rw [r.len]
  cases e : ixN ds.length i with
  | none => rw [e] at h; cases h
  | some j =>
    rw [e] at h
    exact r.get j d h
def fIx : D → D → (D → Prop) → Prop := fun d e Q => match d, e with
  | .lst xs, .int i => (match atI xs i with | some x => Q x | none => False)
  | .tup xs, .int i => (match atI xs i with | some x => Q x | none => False)
  | _, _ => False
theorem v2_ix : V2 K .fz (rIxA K) fIx := by
  intro pa F H x y d e Q Qd b hx hy w k
  unfold fIx at w
  split at w
  · obtain ⟨a, vs, rfl, h1, n1, r1⟩ := hx.lst_inv b
    split at w
    · rename_i z e
      obtain ⟨v, h2, h3⟩ := atI_rep r1 e
      rw [hy.int_inv]
      exact .inl ⟨a, vs, _, v, rfl, rfl, sqL h1, h2, k _ _ _ _ (Gw.refl _ _ _) b h3 w⟩
    · exact w.elim
  · obtain ⟨a, vs, rfl, h1, r1⟩ := hx.tup_inv b
    split at w
    · rename_i z e
      obtain ⟨v, h2, h3⟩ := atI_rep r1 e
      rw [hy.int_inv]
      exact .inr ⟨a, vs, _, v, rfl, rfl, h1, h2, k _ _ _ _ (Gw.refl _ _ _) b h3 w⟩
    · exact w.elim
  · exact w.elim
/-! ### equality, membership -/
mutual
def D.py : D → PyData
  | .non => .none
  | .bl b => .bool b
  | .int i => .int i
  | .str s => .str s
  | .lst xs => .list (D.pys xs)
  | .tup xs => .tuple (D.pys xs)
  | .fld _ => .none
  | .obj _ _ _ => .none
  | .fn _ => .none
  | .dct _ _ => .none
  | .dci _ _ => .none
  | .pot => .none
def D.pys : List D → List PyData
  | [] => []
  | d :: ds => d.py :: D.pys ds
end
mutual
/-- data of Python's own, of at most so many depths -/
def D.data : Nat → D → Bool
  | _, .non | _, .bl _ | _, .int _ => true
  | _, .str s => PyData.strOk s
  | 0, .lst _ | 0, .tup _ => false
  | n + 1, .lst xs => D.datas n xs
  | n + 1, .tup xs => D.datas n xs
  | _, .fld _ => false
  | _, .obj _ _ _ => false
  | _, .fn _ => false
  | _, .dct _ _ => false
  | _, .dci _ _ => false
  | _, .pot => false
def D.datas : Nat → List D → Bool
  | _, [] => true
  | n, d :: ds => d.data n && D.datas n ds
end
mutual
theorem Rep.dp (b : Ex F H) : ∀ (n : Nat) (d : D) (v : V), d.data n = true → Rep K pa F d v → Dp K H v d.py
  | n, .non, v, h, r => by rw [r.non_inv]; exact .non
  | n, .bl x, v, h, r => by rw [r.bl_inv]; exact .bl x
  | n, .int x, v, h, r => by rw [r.int_inv]; exact .int x
  | n, .str x, v, h, r => by rw [r.str_inv]; exact .str x
  | 0, .lst ds, v, h, r => by unfold D.data at h; cases h
  | 0, .tup ds, v, h, r => by unfold D.data at h; cases h
  | n + 1, .lst ds, v, h, r => by
    unfold D.data at h
    obtain ⟨a, vs, rfl, h1, r1⟩ := r.lst_inv
    exact .lst (sqL (b _ _ h1)) (RepL.dp b n ds vs h r1)
  | n + 1, .tup ds, v, h, r => by
    unfold D.data at h
    obtain ⟨a, vs, rfl, h1, r1⟩ := r.tup_inv
    exact .tup (Ex.tup b h1) (RepL.dp b n ds vs h r1)
  | n, .fld _, v, h, r => by unfold D.data at h; cases h
  | n, .obj _ _ _, v, h, r => by unfold D.data at h; cases h
  | n, .fn _, v, h, r => by unfold D.data at h; cases h
  | n, .pot, v, h, r => by unfold D.data at h; cases h
theorem RepL.dp (b : Ex F H) : ∀ (n : Nat) (ds : List D) (vs : List V), D.datas n ds = true → RepL K pa F ds vs → DpAll K H vs (D.pys ds)
  | n, [], vs, h, r => by rw [r.nil_inv]; exact .nil
  | n, d :: ds, vs, h, r => by
    unfold D.datas at h
    obtain ⟨v, us, rfl, h1, r1⟩ := r.cons_inv
    rw [Bool.and_eq_true] at h
    exact .cons (Rep.dp b n d v h.1 h1) (RepL.dp b n ds us h.2 r1)
end
theorem RepB.dp {n : Nat} {d : D} {v : V} (b : Bs pa F H) (h : d.data n = true) (r : RepB K pa F H d v) : Dp K H v d.py := by
  rcases r with r | ⟨ds, a, vs, rfl, rfl, _, h1, h2⟩
  · exact Rep.dp b.ex n d v h r
  · cases n with
    | zero => unfold D.data at h; cases h
    | succ n =>
      unfold D.data at h
      exact .lst (sqL h1) (RepL.dp b.ex n ds vs h h2)
mutual
theorem D.lay : ∀ (n : Nat) (d : D), d.data n = true → d.py.canLay0 = true
  | n, .non, h | n, .bl x, h | n, .int x, h => by unfold D.py PyData.canLay0; rfl
  | n, .str x, h => by unfold D.data at h; unfold D.py PyData.canLay0; exact h
  | 0, .lst ds, h => by unfold D.data at h; cases h
  | 0, .tup ds, h => by unfold D.data at h; cases h
  | n + 1, .lst ds, h => by unfold D.data at h; unfold D.py PyData.canLay0; exact D.lays n ds h
  | n + 1, .tup ds, h => by unfold D.data at h; unfold D.py PyData.canLay0; exact D.lays n ds h
  | n, .fld _, h => by unfold D.data at h; cases h
  | n, .obj _ _ _, h => by unfold D.data at h; cases h
  | n, .fn _, h => by unfold D.data at h; cases h
  | n, .pot, h => by unfold D.data at h; cases h
theorem D.lays : ∀ (n : Nat) (ds : List D), D.datas n ds = true → PyData.canLayAll0 (D.pys ds) = true
  | n, [], h => by unfold D.pys PyData.canLayAll0; rfl
  | n, d :: ds, h => by
    unfold D.datas at h
    rw [Bool.and_eq_true] at h
    unfold D.pys PyData.canLayAll0
    rw [D.lay n d h.1, D.lays n ds h.2]; rfl
end
mutual
theorem D.dep : ∀ (n : Nat) (d : D), d.data n = true → d.py.depth ≤ n
  | n, .non, h | n, .bl x, h | n, .int x, h | n, .str x, h => by unfold D.py PyData.depth; exact Nat.zero_le _
  | 0, .lst ds, h => by unfold D.data at h; cases h
  | 0, .tup ds, h => by unfold D.data at h; cases h
  | n + 1, .lst ds, h => by
    unfold D.data at h; unfold D.py PyData.depth
    have := D.deps n ds h
    omega
  | n + 1, .tup ds, h => by
    unfold D.data at h; unfold D.py PyData.depth
    have := D.deps n ds h
    omega
  | n, .fld _, h => by unfold D.data at h; cases h
  | n, .obj _ _ _, h => by unfold D.data at h; cases h
  | n, .fn _, h => by unfold D.data at h; cases h
  | n, .pot, h => by unfold D.data at h; cases h
theorem D.deps : ∀ (n : Nat) (ds : List D), D.datas n ds = true → PyData.depthAll (D.pys ds) ≤ n
  | n, [], h => by unfold D.pys PyData.depthAll; exact Nat.zero_le _
  | n, d :: ds, h => by
    unfold D.datas at h
    rw [Bool.and_eq_true] at h
    unfold D.pys PyData.depthAll
    have h1 := D.dep n d h.1
    have h2 := D.deps n ds h.2
    omega
end
theorem D.shp {n : Nat} {d : D} (h : d.data n = true) (hn : n ≤ 60) : SeqAt.shaped d.py = true := by
  have h1 := D.dep n d h
  show (d.py.canLay0 && decide (d.py.depth ≤ 64)) = true
  rw [Bool.and_eq_true]
  exact ⟨D.lay n d h, decide_eq_true (by omega)⟩
abbrev D.dat (d : D) : Prop := d.data 9 = true
def eqD (d e : D) : Bool := PyData.eqv d.py e.py
def fEq : D → D → (D → Prop) → Prop := fun d e Q => (d.dat ∧ e.dat) ∧ Q (.bl (eqD d e))
def fNe : D → D → (D → Prop) → Prop := fun d e Q => (d.dat ∧ e.dat) ∧ Q (.bl (!eqD d e))
theorem v2_eq : V2 K .fz (rEqD K) fEq := by
  intro pa F H x y d e Q Qd b hx hy w k
  obtain ⟨⟨h1, h2⟩, q⟩ := w
  exact ⟨_, _, hx.dp b h1, hy.dp b h2, D.shp h1 (by decide), D.shp h2 (by decide), k _ _ _ _ (Gw.refl _ _ _) b RepM.b q⟩
theorem v2_ne : V2 K .fz (rNeD K) fNe := by
  intro pa F H x y d e Q Qd b hx hy w k
  obtain ⟨⟨h1, h2⟩, q⟩ := w
  exact ⟨_, _, hx.dp b h1, hy.dp b h2, D.shp h1 (by decide), D.shp h2 (by decide), k _ _ _ _ (Gw.refl _ _ _) b RepM.b q⟩
def fIn (neg : Bool) : D → D → (D → Prop) → Prop := fun d e Q => match e with | .lst es => (d.dat ∧ (D.lst es).dat) ∧ Q (.bl ((es.any fun z => eqD z d) != neg)) | _ => False
theorem pys_map : ∀ ds : List D, D.pys ds = ds.map D.py
  | [] => rfl
  | d :: ds => by unfold D.pys; rw [pys_map ds]; rfl
def fIsB (neg : Bool) : D → D → (D → Prop) → Prop := fun d e Q => match d, e with | .bl a, .bl c => Q (.bl (decide (a = c) != neg)) | _, _ => False
theorem v2_isB : V2 K .fz rIsB (fIsB false) := by
  intro pa F H x y d e Q Qd b hx hy w k
  unfold fIsB at w
  split at w
  · exact ⟨_, _, hx.bl_inv, hy.bl_inv, k _ _ _ _ (Gw.refl _ _ _) b RepM.b (by rw [Bool.bne_false] at w; exact w)⟩
  · exact w.elim
theorem v2_notB : V2 K .fz rNotB (fIsB true) := by
  intro pa F H x y d e Q Qd b hx hy w k
  unfold fIsB at w
  split at w
  · exact ⟨_, _, hx.bl_inv, hy.bl_inv, k _ _ _ _ (Gw.refl _ _ _) b RepM.b (by rw [Bool.bne_true] at w; exact w)⟩
  · exact w.elim
end
end TP
/-! DL2 -/
set_option maxHeartbeats 4000000
namespace TP
open PySem PySem.Spec PyProof.Rows L2
section
variable {K : Fr} {pa : Addr} {H0 F F' F'' H H' H'' : Hp} {ρ : GE} {σ : L2.St} {ta tb tc te : TE} {wa wb wc we : WE} {m : Md} {tA : TA} {wA : WA} {n : Nat} {b : Bool}
/-! ### arguments -/
def RAn (K : Fr) (lent : Bool) (n : Nat) (ta : TA) (wa : WA) : Prop := ∀ {pa : Addr} {H0 F H : Hp} {ρ : GE} {σ : L2.St} {Q : List V → Hp → Prop} {Qd : List D → Prop}, StO K pa H0 F ρ σ H → wa ρ Qd →
  (∀ ds vs F' H', Gw pa F H F' H' → StO K pa H0 F' ρ σ H' → RepML K pa F' H' lent ds vs → ds.length = n → Qd ds → Q vs H') → ta σ H Q
def wNil : WA := fun _ Q => Q []
def wCons (we : WE) (wa : WA) : WA := fun ρ Q => we ρ fun d => wa ρ fun ds => Q (d :: ds)
theorem RepML.t {ds : List D} {vs : List V} (h : RepL K pa F ds vs) : RepML K pa F H false ds vs := h
theorem RepML.l {ds : List D} {vs : List V} (h : Paired (fun d v => RepB K pa F H d v) ds vs) : RepML K pa F H true ds vs := h
theorem RepML.r {ds : List D} {vs : List V} (h : RepML K pa F H false ds vs) : RepL K pa F ds vs := h
theorem RepML.p {ds : List D} {vs : List V} (h : RepML K pa F H true ds vs) : Paired (fun d v => RepB K pa F H d v) ds vs := h
theorem ra_nil : RAn K b 0 tNil wNil := fun S w k => k [] [] _ _ (Gw.refl _ _ _) S (by cases b; exact RepML.t RepL.nil; exact RepML.l Paired.nil) rfl w
theorem ra_cons (he : RE K .fz te we) (ha : RAn K false n tA wA) : RAn K false (n + 1) (tCons te tA) (wCons we wA) := by
  intro pa H0 F H ρ σ Q Qd S w k
  refine he S w fun d x F1 H1 g1 S1 r1 w1 => ha S1 w1 fun ds vs F2 H2 g2 S2 r2 l w2 => ?_
  exact k _ _ _ _ (S.gwT g1 S1 g2 S2) S2 (RepML.t (RepL.cons (Rep.ex g2.ex _ _ r1.r) r2.r)) (by rw [List.length_cons, l]) w2
theorem ra_consB (he : RE K .br te we) (ha : RAn K true n tA wA) : RAn K true (n + 1) (tCons te tA) (wCons we wA) := by
  intro pa H0 F H ρ σ Q Qd S w k
  refine he S w fun d x F1 H1 g1 S1 r1 w1 => ha S1 w1 fun ds vs F2 H2 g2 S2 r2 l w2 => ?_
  exact k _ _ _ _ (S.gwT g1 S1 g2 S2) S2 (RepML.l (Paired.cons (RepB.gw r1.lentI g2) r2.p)) (by rw [List.length_cons, l]) w2
theorem RepML.len {ds : List D} {vs : List V} (h : RepML K pa F H b ds vs) : vs.length = ds.length := by
  cases b with
  | false => exact RepL.len h
  | true =>
    unfold RepML at h
    induction h with
    | nil => rfl
    | cons _ _ ih => rw [List.length_cons, List.length_cons, ih]
/-! ### displays -/
def wLst (wa : WA) : WE := fun ρ Q => wa ρ fun ds => Q (.lst ds)
def wTup (wa : WA) : WE := fun ρ Q => wa ρ fun ds => Q (.tup ds)
theorem re_lst (ha : RAn K false n tA wA) (hn : n ≤ many := by decide) : RE K .nw (tLst tA) (wLst wA) := by
  intro pa H0 F H ρ σ Q Qd S w k
  refine ha S w fun ds vs F1 H1 g1 S1 r1 l w1 => ⟨by rw [RepML.len r1, l]; exact many_ok hn, ?_⟩
  refine new_nw S1.bs r1.r w1 fun d' v F' H' g b' r q => ?_
  have g' := Gw.trans S1.bs b'.np S.bs.po g1 g
  exact k d' v F' H' g' (S.grow g' b') (r.back S.bs.po S1.bs.po g1) q
theorem re_tup (ha : RAn K false n tA wA) (hn : n ≤ many := by decide) : RE K .fz (tTup tA) (wTup wA) := by
  intro pa H0 F H ρ σ Q Qd S w k
  refine ha S w fun ds vs F1 H1 g1 S1 r1 l w1 => ⟨by rw [RepML.len r1, l]; exact many_ok hn, ?_⟩
  refine new_tup S1.bs r1.r w1 fun d' v F' H' g b' r q => ?_
  have g' := Gw.trans S1.bs b'.np S.bs.po g1 g
  exact k d' v F' H' g' (S.grow g' b') (r.back S.bs.po S1.bs.po g1) q
/-! ### calls of built-ins -/
def VA (K : Fr) (m : Md) (r : List V → Hp → VK → Prop) (f : WC) : Prop := ∀ {pa : Addr} {F H : Hp} {vs : List V} {ds : List D} {Q : VK} {Qd : D → Prop}, Bs pa F H → Paired (fun d v => RepB K pa F H d v) ds vs → f ds Qd →
  (∀ d' v F' H', Gw pa F H F' H' → Bs pa F' H' → RepM K pa H F' H' m d' v → Qd d' → Q v H') → r vs H Q
def wCB (f : WC) (wa : WA) : WE := fun ρ Q => wa ρ fun ds => f ds Q
theorem re_cb {r : List V → Hp → VK → Prop} {f : WC} (h : VA K m r f) (ha : RAn K true n tA wA) : RE K m (tCB r tA) (wCB f wA) := by
  intro pa H0 F H ρ σ Q Qd S w k
  refine ha S w fun ds vs F1 H1 g1 S1 r1 l w1 => h S1.bs r1.p w1 fun d' v F' H' g b' r q => ?_
  have g' := Gw.trans S1.bs b'.np S.bs.po g1 g
  exact k d' v F' H' g' (S.grow g' b') (r.back S.bs.po S1.bs.po g1) q
theorem p1 {F : D → V → Prop} {d : D} {vs : List V} (h : Paired F [d] vs) : ∃ v, vs = [v] ∧ F d v := by
  cases h with
  | cons h t => cases t; exact ⟨_, rfl, h⟩
theorem p2 {F : D → V → Prop} {d e : D} {vs : List V} (h : Paired F [d, e] vs) : ∃ v u, vs = [v, u] ∧ F d v ∧ F e u := by
  cases h with
  | cons h t =>
    obtain ⟨u, rfl, h2⟩ := p1 t
    exact ⟨_, _, rfl, h, h2⟩
def fLen : WC := fun ds Q => match ds with | [.lst xs] => Q (.int xs.length) | [.tup xs] => Q (.int xs.length) | _ => False
theorem fLen_lst (ds : List D) (Q : D → Prop) : fLen [.lst ds] Q = Q (.int ds.length) := rfl
theorem fLen_tup (ds : List D) (Q : D → Prop) : fLen [.tup ds] Q = Q (.int ds.length) := rfl
theorem va_len : VA K .fz (rLenA K) fLen := by
  intro pa F H vs ds Q Qd b h w k
  unfold fLen at w
  split at w
  · obtain ⟨v, rfl, h1⟩ := p1 h
    obtain ⟨a, vs, rfl, h1, n1, r1⟩ := h1.lst_inv b
    exact ⟨a, vs, rfl, .inl (sqL h1), k _ _ _ _ (Gw.refl _ _ _) b RepM.i (by rw [r1.len]; exact w)⟩
  · obtain ⟨v, rfl, h1⟩ := p1 h
    obtain ⟨a, vs, rfl, h1, r1⟩ := h1.tup_inv b
    exact ⟨a, vs, rfl, .inr h1, k _ _ _ _ (Gw.refl _ _ _) b RepM.i (by rw [r1.len]; exact w)⟩
  · exact w.elim
/-- the ints, the bools of a list -/
def D.ints : List D → Option (List Int)
  | [] => some []
  | .int i :: ds => (D.ints ds).map (i :: ·)
  | _ :: _ => none
def D.bls : List D → Option (List Bool)
  | [] => some []
  | .bl i :: ds => (D.bls ds).map (i :: ·)
  | _ :: _ => none
theorem D.ints_map : ∀ ns : List Int, D.ints (ns.map D.int) = some ns
  | [] => rfl
  | n :: ns => by
    show (D.ints (ns.map D.int)).map (n :: ·) = _
    rw [D.ints_map ns]; rfl
theorem D.bls_map : ∀ ns : List Bool, D.bls (ns.map D.bl) = some ns
  | [] => rfl
  | n :: ns => by
    show (D.bls (ns.map D.bl)).map (n :: ·) = _
    rw [D.bls_map ns]; rfl
theorem D.ints_inv : ∀ {ds : List D} {ns : List Int}, D.ints ds = some ns → ds = ns.map D.int
  | [], ns, h => by cases h; rfl
  | .int i :: ds, ns, h => by
    unfold D.ints at h
    cases e : D.ints ds with
    | none => rw [e] at h; cases h
    | some l =>
      rw [e] at h
      cases h
      rw [D.ints_inv e]; rfl
  | .non :: _, _, h | .bl _ :: _, _, h | .str _ :: _, _, h | .lst _ :: _, _, h | .tup _ :: _, _, h | .fld _ :: _, _, h | .obj _ _ _ :: _, _, h | .fn _ :: _, _, h | .pot :: _, _, h => by unfold D.ints at h; cases h
theorem D.bls_inv : ∀ {ds : List D} {ns : List Bool}, D.bls ds = some ns → ds = ns.map D.bl
  | [], ns, h => by cases h; rfl
  | .bl i :: ds, ns, h => by
    unfold D.bls at h
    cases e : D.bls ds with
    | none => rw [e] at h; cases h
    | some l =>
      rw [e] at h
      cases h
      rw [D.bls_inv e]; rfl
  | .non :: _, _, h | .int _ :: _, _, h | .str _ :: _, _, h | .lst _ :: _, _, h | .tup _ :: _, _, h | .fld _ :: _, _, h | .obj _ _ _ :: _, _, h | .fn _ :: _, _, h | .pot :: _, _, h => by unfold D.bls at h; cases h
theorem RepL.bls : ∀ {ns : List Bool} {vs : List V}, RepL K pa H (ns.map D.bl) vs → vs = ns.map V.bl
  | [], vs, h => h.nil_inv
  | n :: ns, vs, h => by
    obtain ⟨v, r, rfl, h1, h2⟩ := h.cons_inv
    rw [h1.bl_inv, RepL.bls h2]; rfl
def fInts (g : List Int → (D → Prop) → Prop) : WC := fun ds Q => match ds with | [.lst xs] => (match D.ints xs with | some ns => g ns Q | none => False) | _ => False
theorem va_ints {r : List V → Hp → VK → Prop} {g : List Int → (D → Prop) → Prop} (h : ∀ {pa : Addr} {F H : Hp} {a : Addr} {ns : List Int} {Q : VK} {Qd : D → Prop}, Bs pa F H → H a = some (.lst (ns.map V.int)) → g ns Qd →
    (∀ d' v F' H', Gw pa F H F' H' → Bs pa F' H' → RepM K pa H F' H' m d' v → Qd d' → Q v H') → r [.ref a] H Q) : VA K m r (fInts g) := by
  intro pa F H vs ds Q Qd b hp w k
  unfold fInts at w
  split at w
  · split at w
    · rename_i ns e
      obtain ⟨v, rfl, h1⟩ := p1 hp
      obtain ⟨a, vs, rfl, h1, n1, r1⟩ := h1.lst_inv b
      rw [D.ints_inv e] at r1
      rw [r1.ints] at h1
      exact h b h1 w k
    · exact w.elim
  · exact w.elim
abbrev fSum : WC := fInts fun ns Q => Q (.int ns.sum)
abbrev fMax : WC := fInts fun ns Q => 0 < ns.length ∧ ∀ m, m ∈ ns → (∀ y, y ∈ ns → y ≤ m) → Q (.int m)
abbrev fMin : WC := fInts fun ns Q => 0 < ns.length ∧ ∀ m, m ∈ ns → (∀ y, y ∈ ns → m ≤ y) → Q (.int m)
abbrev fSorted : WC := fInts fun ns Q => ∀ l : List Int, l.Perm ns → l.Pairwise (· ≤ ·) → Q (Li l)
def fAll : WC := fun ds Q => match ds with | [.lst xs] => (match D.bls xs with | some ns => Q (.bl (ns.all id)) | none => False) | _ => False
def fAny : WC := fun ds Q => match ds with | [.lst xs] => (match D.bls xs with | some ns => Q (.bl (ns.any id)) | none => False) | _ => False
theorem va_all : VA K .fz (L2.rAll K) fAll := by
  intro pa F H vs ds Q Qd b hp w k
  unfold fAll at w
  split at w
  · split at w
    · rename_i ns e
      obtain ⟨v, rfl, h1⟩ := p1 hp
      obtain ⟨a, vs, rfl, h1, n1, r1⟩ := h1.lst_inv b
      rw [D.bls_inv e] at r1
      rw [r1.bls] at h1
      exact ⟨_, _, rfl, sqL h1, k _ _ _ _ (Gw.refl _ _ _) b RepM.b w⟩
    · exact w.elim
  · exact w.elim
def fAbs : WC := fun ds Q => match ds with | [.int i] => Q (.int (if i < 0 then -i else i)) | _ => False
def fInt : WC := fun ds Q => match ds with | [.int i] => Q (.int i) | [.bl b] => Q (.int (if b = true then 1 else 0)) | _ => False
def fMax2 : WC := fun ds Q => match ds with | [.int i, .int j] => Q (.int (if j > i then j else i)) | _ => False
def fMin2 : WC := fun ds Q => match ds with | [.int i, .int j] => Q (.int (if j < i then j else i)) | _ => False
theorem va_min2 : VA K .fz TP.rMin2 fMin2 := by
  intro pa F H vs ds Q Qd b hp w k
  unfold fMin2 at w
  split at w
  · obtain ⟨v, u, rfl, h1, h2⟩ := p2 hp
    exact ⟨_, _, by rw [h1.int_inv, h2.int_inv], k _ _ _ _ (Gw.refl _ _ _) b RepM.i w⟩
  · exact w.elim
def fDivmod : WC := fun ds Q => match ds with | [.int i, .int j] => CDiv i j ∧ Q (.tup [.int (i / j), .int (i % j)]) | _ => False
def fList : WC := fun ds Q => match ds with | [.lst xs] => Q (.lst xs) | [.tup xs] => Q (.lst xs) | _ => False
theorem va_list : VA K .nw (rListA K) fList := by
  intro pa F H vs ds Q Qd b hp w k
  unfold fList at w
  split at w
  · obtain ⟨v, rfl, h1⟩ := p1 hp
    obtain ⟨a, vs, rfl, h1, n1, r1⟩ := h1.lst_inv b
    exact ⟨a, vs, rfl, .inl (sqL h1), new_nw b r1 w k⟩
  · obtain ⟨v, rfl, h1⟩ := p1 hp
    obtain ⟨a, vs, rfl, h1, r1⟩ := h1.tup_inv b
    exact ⟨a, vs, rfl, .inr h1, new_nw b r1 w k⟩
  · exact w.elim
def fTuple : WC := fun ds Q => match ds with | [.lst xs] => Q (.tup xs) | [.tup xs] => Q (.tup xs) | _ => False
theorem va_tuple : VA K .fz (rTupA K) fTuple := by
  intro pa F H vs ds Q Qd b hp w k
  unfold fTuple at w
  split at w
  · obtain ⟨v, rfl, h1⟩ := p1 hp
    obtain ⟨a, vs, rfl, h1, n1, r1⟩ := h1.lst_inv b
    exact ⟨a, vs, rfl, .inl ⟨sqL h1, new_tup b r1 w k⟩⟩
  · obtain ⟨v, rfl, h1⟩ := p1 hp
    have h0 := h1.rep (fun _ z => nomatch z)
    obtain ⟨a, vs, rfl, h1, r1⟩ := h1.tup_inv b
    exact ⟨a, vs, rfl, .inr ⟨h1, k _ _ _ _ (Gw.refl _ _ _) b (RepM.f h0) w⟩⟩
  · exact w.elim
/-! ### slices -/
def cutD (xs : List D) (lo hi : Option Int) : List D := (xs.drop (HT.sIx xs.length 0 lo)).take (HT.sIx xs.length xs.length hi - HT.sIx xs.length 0 lo)
theorem cut_rep {ds : List D} {vs : List V} (r : RepL K pa F ds vs) (lo hi : Option Int) : RepL K pa F (cutD ds lo hi) (cutV vs lo hi) := by
  unfold cutD cutV
  rw [r.len]
  exact (r.drop _).take _
abbrev TO' := L2.St → Hp → (Option Int → Hp → Prop) → Prop
def ROp (K : Fr) (t : TO') (w : GE → (Option Int → Prop) → Prop) : Prop := ∀ {pa : Addr} {H0 F H : Hp} {ρ : GE} {σ : L2.St} {Q : Option Int → Hp → Prop} {Qd : Option Int → Prop}, StO K pa H0 F ρ σ H → w ρ Qd →
  (∀ o F' H', Gw pa F H F' H' → StO K pa H0 F' ρ σ H' → Qd o → Q o H') → t σ H Q
def wNoPart : GE → (Option Int → Prop) → Prop := fun _ Q => Q none
def wPart (we : WE) : GE → (Option Int → Prop) → Prop := fun ρ Q => we ρ fun d => match d with | .int i => Q (some i) | _ => False
theorem ro_none : ROp K tNoPart wNoPart := fun S w k => k _ _ _ (Gw.refl _ _ _) S w
theorem ro_some (he : RE K .fz te we) : ROp K (tPart te) (wPart we) := by
  intro pa H0 F H ρ σ Q Qd S w k
  refine he S w fun d x F1 H1 g1 S1 r1 w1 => ?_
  split at w1
  · exact ⟨_, r1.int_inv, k _ _ _ g1 S1 w1⟩
  · exact w1.elim
def wSl (we : WE) (wl wh : GE → (Option Int → Prop) → Prop) : WE := fun ρ Q => we ρ fun d => wl ρ fun lo => wh ρ fun hi => match d with | .lst xs => Q (.lst (cutD xs lo hi)) | _ => False
theorem re_sl {tl th : TO'} {wl wh : GE → (Option Int → Prop) → Prop} (he : RE K .br te we) (hl : ROp K tl wl) (hh : ROp K th wh) : RE K .nw (L2.tSl (rSlL K) te tl th) (wSl we wl wh) := by
  intro pa H0 F H ρ σ Q Qd S w k
  refine he S w fun d x F1 H1 g1 S1 r1 w1 => hl S1 w1 fun lo F2 H2 g2 S2 w2 => hh S2 w2 fun hi F3 H3 g3 S3 w3 => ?_
  split at w3
  · have g13 := S.gwT g1 S1 (S1.gwT g2 S2 g3 S3) S3
    obtain ⟨a, vs, rfl, h1, n1, r⟩ := ((RepB.gw r1 g2).gw g3).lst_inv S3.bs
    refine ⟨a, vs, rfl, sqL h1, new_nw S3.bs (cut_rep r lo hi) w3 fun d' v F' H' g b' r q => ?_⟩
    have g' := Gw.trans S3.bs b'.np S.bs.po g13 g
    exact k d' v F' H' g' (S.grow g' b') (r.back S.bs.po S3.bs.po g13) q
  · exact w3.elim
def fRev : D → (D → Prop) → Prop := fun d Q => match d with | .lst xs => Q (.lst xs.reverse) | _ => False
theorem re_rev (he : RE K .br te we) : RE K .nw (tRevL K te) (wUn fRev we) := by
  refine re_un' (r := fun x H1 Q => ∃ a xs, x = .ref a ∧ SqL K H1 a xs ∧ ∀ p, H1 p = none → Q (.ref p) (upd H1 p (.lst xs.reverse))) ?_ he fun _ _ _ z => z
  intro pa F H x d Q Qd b hx w k
  unfold fRev at w
  split at w
  · obtain ⟨a, vs, rfl, h1, n1, r⟩ := hx.lst_inv b
    exact ⟨a, vs, rfl, sqL h1, new_nw b r.rev w k⟩
  · exact w.elim
/-! ### tests -/
def wTest (we : WE) : WT := fun ρ Q => we ρ fun d => match d with | .bl b => Q b | _ => False
theorem rt_test (he : RE K .fz te we) : RT K (tTest te) (wTest we) := by
  intro pa H0 F H ρ σ Q Qd S w k
  refine he S w fun d x F1 H1 g1 S1 r1 w1 => ?_
  split at w1
  · exact ⟨_, r1.bl_inv, k _ _ _ g1 S1 w1⟩
  · exact w1.elim
theorem rt_b (he : RE K .fz te we) : RT K (tB te) (wTest we) := rt_test he
variable {t1 t2 : TT} {w1 w2 : WT}
def wAnd (w1 w2 : WT) : WT := fun ρ Q => w1 ρ fun b => if b = true then w2 ρ Q else Q false
def wOr (w1 w2 : WT) : WT := fun ρ Q => w1 ρ fun b => if b = true then Q true else w2 ρ Q
def wNot (w1 : WT) : WT := fun ρ Q => w1 ρ fun b => Q (!b)
theorem rt_or (h1 : RT K t1 w1) (h2 : RT K t2 w2) : RT K (tOr t1 t2) (wOr w1 w2) := by
  intro pa H0 F H ρ σ Q Qd S w k
  refine h1 S w fun b F1 H1 g1 S1 q => ?_
  cases b with
  | false => exact h2 S1 q fun b' F2 H2 g2 S2 q2 => k _ _ _ (S.gwT g1 S1 g2 S2) S2 q2
  | true => exact k _ _ _ g1 S1 q
theorem rt_not (h1 : RT K t1 w1) : RT K (tNot t1) (wNot w1) := by
  intro pa H0 F H ρ σ Q Qd S w k
  exact h1 S w fun b F1 H1 g1 S1 q => k _ _ _ g1 S1 q
def wYes : WT := fun _ Q => Q true
theorem rt_yes : RT K tYes wYes := fun S w k => k _ _ _ (Gw.refl _ _ _) S w
def wAndV (wa wb : WE) : WE := fun ρ Q => wa ρ fun d => match d with | .bl b => (if b = true then wb ρ Q else Q (.bl false)) | _ => False
def wOrV (wa wb : WE) : WE := fun ρ Q => wa ρ fun d => match d with | .bl b => (if b = true then Q (.bl true) else wb ρ Q) | _ => False
def wNotV (wa : WE) : WE := fun ρ Q => wa ρ fun d => match d with | .bl b => Q (.bl (!b)) | _ => False
theorem re_andV (ha : RE K .fz ta wa) (hb : RE K .fz tb wb) : RE K .fz (tAndV ta tb) (wAndV wa wb) := by
  intro pa H0 F H ρ σ Q Qd S w k
  refine ha S w fun d x F1 H1 g1 S1 r1 q => ?_
  split at q
  · rename_i b
    refine ⟨b, r1.bl_inv, ?_⟩
    cases b with
    | true => exact hb S1 q fun d v F2 H2 g2 S2 r2 q2 => k _ _ _ _ (S.gwT g1 S1 g2 S2) S2 r2 q2
    | false => exact k _ _ _ _ g1 S1 RepM.b q
  · exact q.elim
theorem re_notV (ha : RE K .fz ta wa) : RE K .fz (tNotV ta) (wNotV wa) := by
  intro pa H0 F H ρ σ Q Qd S w k
  refine ha S w fun d x F1 H1 g1 S1 r1 q => ?_
  split at q
  · exact ⟨_, r1.bl_inv, k _ _ _ _ g1 S1 RepM.b q⟩
  · exact q.elim
def wIf (wt : WT) (wa wb : WE) : WE := fun ρ Q => wt ρ fun b => if b = true then wa ρ Q else wb ρ Q
theorem RepM.up (S : StO K pa H0 F ρ σ H) (S1 : StO K pa H0 F' ρ σ H') (g : Gw pa F H F' H') {F2 H2 : Hp} {d : D} {v : V} (r : RepM K pa H' F2 H2 m d v) : RepM K pa H F2 H2 m d v := r.back S.bs.po S1.bs.po g
def wChain (f f' : D → D → (D → Prop) → Prop) (wa wb wc : WE) : WE := fun ρ Q => wa ρ fun d => wb ρ fun e => f d e fun z => match z with | .bl k => (if k = true then wc ρ fun u => f' e u Q else Q (.bl false)) | _ => False
theorem re_chain {r r' : R2} {f f' : D → D → (D → Prop) → Prop} (h : V2 K .fz r f) (h' : V2 K .fz r' f') (ha : RE K .br ta wa) (hb : RE K .br tb wb) (hc : RE K .br tc wc) : RE K .fz (tChain r r' ta tb tc) (wChain f f' wa wb wc) := by
  intro pa H0 F H ρ σ Q Qd S w k
  refine ha S w fun d x F1 H1 g1 S1 r1 q1 => hb S1 q1 fun e y F2 H2 g2 S2 r2 q2 => ?_
  have g12 := S.gwT g1 S1 g2 S2
  refine h S2.bs (RepB.gw r1 g2) r2 q2 fun z zv F3 H3 g3 b3 r3 q3 => ?_
  have g13 := Gw.trans S2.bs b3.np S.bs.po g12 g3
  have S3 := S.grow g13 b3
  split at q3
  · rename_i kk
    refine ⟨kk, r3.bl_inv, ?_⟩
    cases kk with
    | false => exact k _ _ _ _ g13 S3 RepM.b q3
    | true =>
      refine hc S3 q3 fun u uv F4 H4 g4 S4 r4 q4 => ?_
      have g14 := S.gwT g13 S3 g4 S4
      refine h' S4.bs ((RepB.gw r2 g3).gw g4) r4 q4 fun z zv F5 H5 g5 b5 r5 q5 => ?_
      have g15 := Gw.trans S4.bs b5.np S.bs.po g14 g5
      exact k _ _ _ _ g15 (S.grow g15 b5) r5 q5
  · exact q3.elim
end
end TP
/-! DL3 -/
set_option maxHeartbeats 4000000
namespace TP
open PySem PySem.Spec PyProof.Rows L2
section
variable {K : Fr} {pa : Addr} {H0 F F' F'' H H' H'' : Hp} {ρ : GE} {σ : L2.St} {ta tb tc te : TE} {wa wb wc we : WE} {m : Md} {tA tB : TA} {wA wB : WA} {n k : Nat} {b : Bool}
/-! ### calls of defs -/
def spD (K : Fr) (m : Md) (c : WC) : Sp := fun vs H Q _ => ∃ (pa : Addr) (F : Hp) (ds : List D) (Qd : D → Prop), Bs pa F H ∧ RepL K pa F ds vs ∧ c ds Qd ∧
  ∀ d v F' H', Gw pa F H F' H' → Bs pa F' H' → RepM K pa H F' H' m d v → Qd d → Q v H'
def Ad (K : Fr) (sp : Sp) (m : Md) (c : WC) : Prop := ∀ vs H Q E, spD K m c vs H Q E → sp vs H Q E
theorem Ad.id {c : WC} : Ad K (spD K m c) m c := fun _ _ _ _ h => h
def wCall (c : WC) (wa : WA) : WE := fun ρ Q => wa ρ fun ds => c ds Q
theorem re_call {sp : Sp} {c : WC} (A : Ad K sp m c) (ha : RAn K false n tA wA) : RE K m (tCall sp [] E0 tA) (wCall c wA) := by
  intro pa H0 F H ρ σ Q Qd S w k
  refine ha S w fun ds vs F1 H1 g1 S1 r1 l w1 => ?_
  rw [List.append_nil]
  refine A _ _ _ _ ⟨pa, F1, ds, Qd, S1.bs, r1.r, w1, fun d v F' H' g b' r q => ?_⟩
  have g' := Gw.trans S1.bs b'.np S.bs.po g1 g
  exact k d v F' H' g' (S.grow g' b') (r.back S.bs.po S1.bs.po g1) q
/-- the whole heap but the pot, told for a while -/
def whole (pa : Addr) (H : Hp) : Hp := fun x => if x = pa then none else H x
theorem whole_bs (P : Po pa H) : Bs pa (whole pa H) H := by
  refine ⟨fun a o e => ?_, P, by unfold whole; rw [if_pos rfl]⟩
  unfold whole at e
  split at e
  · cases e
  · exact e
theorem whole_ex (b : Bs pa F H) : Ex F (whole pa H) := fun a o e => by
  unfold whole
  rw [if_neg]
  · exact b.ex _ _ e
  · rintro rfl
    rw [b.np] at e; cases e
theorem RepB.whole {d : D} {v : V} (b : Bs pa F H) (r : RepB K pa F H d v) : Rep K pa (whole pa H) d v := by
  rcases r with r | ⟨ds, a, vs, rfl, rfl, n, h1, h2⟩
  · exact Rep.ex (whole_ex b) _ _ r
  · refine Rep.l ?_ (RepL.ex (whole_ex b) _ _ h2)
    unfold TP.whole
    rw [if_neg n]; exact h1
theorem lentL (b : Bs pa F H) : ∀ {ds : List D} {vs : List V}, Paired (fun d v => RepB K pa F H d v) ds vs → RepL K pa (whole pa H) ds vs
  | _, _, .nil => RepL.nil
  | _, _, .cons h t => RepL.cons (h.whole b) (lentL b t)
/-- lent arguments: what comes back is flat -/
def wCallB (c : WC) (wa : WA) : WE := fun ρ Q => wa ρ fun ds => c ds fun d => d.flat = true ∧ Q d
def D.flatL : D → Bool
  | .lst ds => ds.all D.flat
  | _ => false
def wCallBN (c : WC) (wa : WA) : WE := fun ρ Q => wa ρ fun ds => c ds fun d => d.flatL = true ∧ Q d
/-! ### keywords -/
theorem permV_rep {ds es : List D} {vs us : List V} (h : RepL K pa F ds vs) (h' : RepL K pa F es us) : ∀ ix : List Nat, RepL K pa F (permV ix ds es) (permV ix vs us)
  | [] => RepL.nil
  | i :: ix => by
    have r := h.app h'
    have ih := permV_rep h h' ix
    unfold permV at ih ⊢
    rw [List.filterMap_cons, List.filterMap_cons]
    cases e : (ds ++ es)[i]? with
    | some d =>
      obtain ⟨v, e2, hv⟩ := r.get i d e
      rw [e2]
      exact RepL.cons hv ih
    | none =>
      have e2 : (vs ++ us)[i]? = none := by
        rw [List.getElem?_eq_none_iff] at e ⊢
        rw [r.len]; exact e
      rw [e2]; exact ih
def wCallN (ix : List Nat) (c : WC) (wa wb : WA) : WE := fun ρ Q => wa ρ fun ds => wb ρ fun es => c (permV ix ds es) Q
theorem re_callN {sp : Sp} {c : WC} {ix : List Nat} (A : Ad K sp m c) (ha : RAn K false n tA wA) (hb : RAn K false k tB wB) : RE K m (tCallN n k sp (permV ix) E0 tA tB) (wCallN ix c wA wB) := by
  intro pa H0 F H ρ σ Q Qd S w kk
  refine ha S w fun ds vs F1 H1 g1 S1 r1 l1 w1 => hb S1 w1 fun es us F2 H2 g2 S2 r2 l2 w2 => ⟨by rw [r1.len, l1], by rw [r2.len, l2], ?_⟩
  have g12 := S.gwT g1 S1 g2 S2
  refine A _ _ _ _ ⟨pa, F2, _, Qd, S2.bs, permV_rep (r1.gw g2).r r2.r ix, w2, fun d v F' H' g b' r q => ?_⟩
  have g' := Gw.trans S2.bs b'.np S.bs.po g12 g
  exact kk d v F' H' g' (S.grow g' b') (r.back S.bs.po S2.bs.po g12) q
def wCallNB (ix : List Nat) (c : WC) (wa wb : WA) : WE := fun ρ Q => wa ρ fun ds => wb ρ fun es => c (permV ix ds es) fun d => d.flat = true ∧ Q d
def wCallNBN (ix : List Nat) (c : WC) (wa wb : WA) : WE := fun ρ Q => wa ρ fun ds => wb ρ fun es => c (permV ix ds es) fun d => d.flatL = true ∧ Q d
/-! ### methods, properties -/
/-- what has a class of the program's own, C; no attribute of its own is named so -/
def IsOb (K : Fr) (C : Addr) (f : Str) (ob : D → Bool) : Prop := ∀ (d : D) (pa : Addr) (F : Hp) (v : V), ob d = true → Rep K pa F d v → ∃ a dx fs, v = .ref a ∧ F a = some (.ins C dx fs) ∧ fs.lookup f = none
def isFld : D → Bool
  | .fld _ => true
  | _ => false
def wMeth (ob : D → Bool) (c : WC) (we : WE) (wa : WA) : WE := fun ρ Q => we ρ fun d => ob d = true ∧ wa ρ fun ds => c (d :: ds) Q
def wMethB (ob : D → Bool) (c : WC) (we : WE) (wa : WA) : WE := fun ρ Q => we ρ fun d => ob d = true ∧ wa ρ fun ds => c (d :: ds) fun d => d.flat = true ∧ Q d
def wProp (ob : D → Bool) (c : WC) (we : WE) : WE := fun ρ Q => we ρ fun d => ob d = true ∧ c [d] Q
/-! ### places in the environment -/
theorem StO.set {i : Nat} {d : D} {v : V} (S : StO K pa H0 F ρ σ H) (r : Rep K pa F d v) : StO K pa H0 F (ρ.set i (.fz d)) (σ.set i (some v)) H := by
  refine ⟨S.bs, by rw [List.length_set, List.length_set, S.len], fun j g e => ?_, fun j l ds es a h1 h2 h3 h4 => ?_⟩
  · by_cases c : i = j
    · subst c
      by_cases hl : i < ρ.length
      · rw [List.getElem?_set_self hl] at e
        cases e
        exact ⟨v, by rw [List.getElem?_set_self (by rw [← S.len]; exact hl)], r⟩
      · rw [List.getElem?_eq_none (by rw [List.length_set]; omega)] at e; cases e
    · rw [List.getElem?_set_ne c] at e
      have q := S.sl j g e
      cases g with
      | fz d' =>
        obtain ⟨u, h1, h2⟩ := q
        exact ⟨u, by rw [List.getElem?_set_ne c]; exact h1, h2⟩
      | ow ds =>
        obtain ⟨a, us, h1, h2⟩ := q
        exact ⟨a, us, by rw [List.getElem?_set_ne c]; exact h1, h2⟩
      | any => trivial
  · have f : ∀ (x : Nat) (es : List D), (ρ.set i (.fz d))[x]? = some (.ow es) → i ≠ x ∧ ρ[x]? = some (.ow es) := fun x es e => by
      by_cases c : i = x
      · subst c
        by_cases hl : i < ρ.length
        · rw [List.getElem?_set_self hl] at e; cases e
        · rw [List.getElem?_eq_none (by rw [List.length_set]; omega)] at e; cases e
      · rw [List.getElem?_set_ne c] at e
        exact ⟨c, e⟩
    obtain ⟨n1, e1⟩ := f j ds h1
    obtain ⟨n2, e2⟩ := f l es h2
    rw [List.getElem?_set_ne n1] at h3
    rw [List.getElem?_set_ne n2] at h4
    exact S.inj j l ds es a e1 e2 h3 h4
theorem StO.any {i : Nat} {o : Option V} (S : StO K pa H0 F ρ σ H) : StO K pa H0 F (ρ.set i .any) (σ.set i o) H := by
  refine ⟨S.bs, by rw [List.length_set, List.length_set, S.len], fun j g e => ?_, fun j l ds es a h1 h2 h3 h4 => ?_⟩
  · by_cases c : i = j
    · subst c
      by_cases hl : i < ρ.length
      · rw [List.getElem?_set_self hl] at e
        cases e
        trivial
      · rw [List.getElem?_eq_none (by rw [List.length_set]; omega)] at e; cases e
    · rw [List.getElem?_set_ne c] at e
      have q := S.sl j g e
      cases g with
      | fz d' =>
        obtain ⟨u, h1, h2⟩ := q
        exact ⟨u, by rw [List.getElem?_set_ne c]; exact h1, h2⟩
      | ow ds =>
        obtain ⟨a, us, h1, h2⟩ := q
        exact ⟨a, us, by rw [List.getElem?_set_ne c]; exact h1, h2⟩
      | any => trivial
  · have f : ∀ (x : Nat) (es : List D), (ρ.set i .any)[x]? = some (.ow es) → i ≠ x ∧ ρ[x]? = some (.ow es) := fun x es e => by
      by_cases c : i = x
      · subst c
        by_cases hl : i < ρ.length
        · rw [List.getElem?_set_self hl] at e; cases e
        · rw [List.getElem?_eq_none (by rw [List.length_set]; omega)] at e; cases e
      · rw [List.getElem?_set_ne c] at e
        exact ⟨c, e⟩
    obtain ⟨n1, e1⟩ := f j ds h1
    obtain ⟨n2, e2⟩ := f l es h2
    rw [List.getElem?_set_ne n1] at h3
    rw [List.getElem?_set_ne n2] at h4
    exact S.inj j l ds es a e1 e2 h3 h4
/-- a slot is not known any more -/
theorem StO.forget {i : Nat} (S : StO K pa H0 F ρ σ H) : StO K pa H0 F (ρ.set i .any) σ H := by
  have h := S.any (i := i) (o := (σ[i]?).getD none)
  have e : σ.set i ((σ[i]?).getD none) = σ := by
    apply List.ext_getElem?
    intro j
    by_cases c : i = j
    · subst c
      by_cases hl : i < σ.length
      · rw [List.getElem?_set_self hl, List.getElem?_eq_getElem hl]; rfl
      · rw [List.getElem?_eq_none (by rw [List.length_set]; omega), List.getElem?_eq_none (by omega)]
    · rw [List.getElem?_set_ne c]
  rw [e] at h; exact h
/-- a slot holds a list that nothing else holds -/
theorem StO.setO {i : Nat} {ds : List D} {a : Addr} {vs : List V} (S : StO K pa H0 F ρ σ H) (h1 : H a = some (.lst vs)) (h2 : F a = none) (h3 : H0 a = none) (h4 : a ≠ pa) (r : RepL K pa F ds vs)
    (hn : ∀ j es, ρ[j]? = some (.ow es) → i ≠ j → σ[j]? ≠ some (some (.ref a))) : StO K pa H0 F (ρ.set i (.ow ds)) (σ.set i (some (.ref a))) H := by
  refine ⟨S.bs, by rw [List.length_set, List.length_set, S.len], fun j g e => ?_, fun j l es es' x h1 h2 h3 h4 => ?_⟩
  · by_cases c : i = j
    · subst c
      by_cases hl : i < ρ.length
      · rw [List.getElem?_set_self hl] at e
        cases e
        exact ⟨a, vs, by rw [List.getElem?_set_self (by rw [← S.len]; exact hl)], h1, h2, h3, h4, r⟩
      · rw [List.getElem?_eq_none (by rw [List.length_set]; omega)] at e; cases e
    · rw [List.getElem?_set_ne c] at e
      have q := S.sl j g e
      cases g with
      | fz d' =>
        obtain ⟨u, h1, h2⟩ := q
        exact ⟨u, by rw [List.getElem?_set_ne c]; exact h1, h2⟩
      | ow ds =>
        obtain ⟨a, us, h1, h2⟩ := q
        exact ⟨a, us, by rw [List.getElem?_set_ne c]; exact h1, h2⟩
      | any => trivial
  · have f : ∀ (z : Nat) (es : List D), (ρ.set i (.ow ds))[z]? = some (.ow es) → (σ.set i (some (.ref a)))[z]? = some (some (.ref x)) → (i = z ∧ x = a) ∨ (i ≠ z ∧ ρ[z]? = some (.ow es) ∧ σ[z]? = some (some (.ref x))) := fun z es e e' => by
      by_cases c : i = z
      · subst c
        by_cases hl : i < ρ.length
        · rw [List.getElem?_set_self (by rw [← S.len]; exact hl)] at e'
          cases e'; exact .inl ⟨rfl, rfl⟩
        · rw [List.getElem?_eq_none (by rw [List.length_set]; omega)] at e; cases e
      · rw [List.getElem?_set_ne c] at e e'
        exact .inr ⟨c, e, e'⟩
    rcases f j es h1 h3 with ⟨c1, x1⟩ | ⟨n1, e1, s1⟩ <;> rcases f l es' h2 h4 with ⟨c2, x2⟩ | ⟨n2, e2, s2⟩
    · rw [← c1, ← c2]
    · rw [x1] at s2
      exact absurd s2 (hn l es' e2 n2)
    · rw [x2] at s1
      exact absurd s1 (hn j es e1 n1)
    · exact S.inj j l es es' x e1 e2 s1 s2
def wipeG (ρ : GE) : List Nat → GE
  | [] => ρ
  | v :: vs => (wipeG ρ vs).set v .any
def setsG : GE → List Nat → List D → GE
  | ρ, j :: js, d :: ds => setsG (ρ.set j (.fz d)) js ds
  | ρ, _, _ => ρ
def setsV : L2.St → List Nat → List V → L2.St
  | σ, j :: js, v :: vs => setsV (σ.set j (some v)) js vs
  | σ, _, _ => σ
theorem StO.wipe (S : StO K pa H0 F ρ σ H) : ∀ vs : List Nat, StO K pa H0 F (wipeG ρ vs) (L2.wipe σ vs) H
  | [] => S
  | v :: vs => (StO.wipe S vs).any
theorem StO.forgets (S : StO K pa H0 F ρ σ H) : ∀ vs : List Nat, StO K pa H0 F (wipeG ρ vs) σ H
  | [] => S
  | v :: vs => (StO.forgets S vs).forget
theorem StO.sets : ∀ {js : List Nat} {ds : List D} {vs : List V} {ρ : GE} {σ : L2.St}, StO K pa H0 F ρ σ H → RepL K pa F ds vs → StO K pa H0 F (setsG ρ js ds) (setsV σ js vs) H
  | [], _, _, _, _, S, r => by unfold setsG setsV; exact S
  | j :: js, [], vs, _, _, S, r => by rw [r.nil_inv]; exact S
  | j :: js, d :: ds, vs, _, _, S, r => by
    obtain ⟨v, us, rfl, h1, h2⟩ := r.cons_inv
    unfold setsG setsV
    exact StO.sets (S.set h1) h2
end
end TP
/-! DL4 -/
set_option maxHeartbeats 4000000
namespace TP
open PySem PySem.Spec PyProof.Rows L2
section
variable {K : Fr} {pa : Addr} {H0 F F' F'' H H' H'' : Hp} {ρ : GE} {σ : L2.St} {ta tb tc te : TE} {wa wb wc we : WE} {m : Md} {tA tB : TA} {wA wB : WA} {n k : Nat} {b : Bool}
/-! ### what a loop walks -/
/-- the i-th turn: what it yields goes to the slots js -/
def Yields (K : Fr) (pa : Addr) (F' : Hp) (js : List Nat) (it : List D) (i : Nat) (Y : Nat → Hp → V → Hp → Prop) (g : TG) : Prop := ∀ (F2 H2 : Hp) (x : V) (H3 : Hp) (σ2 : L2.St) (Q : L2.St → Hp → Prop), Bs pa F2 H2 → Ex F' F2 → Y i H2 x H3 →
  (∀ vs H4, Gw pa F2 H2 F2 H4 → Bs pa F2 H4 → RepL K pa F2 it vs → Q (setsV σ2 js vs) H4) → g x σ2 H3 Q
def RI (K : Fr) (ti : TI) (g : TG) (js : List Nat) (wi : WI) : Prop := ∀ {pa : Addr} {H0 F H : Hp} {ρ : GE} {σ : L2.St} {R : It → Hp → Prop} {Qd : List (List D) → Prop}, StO K pa H0 F ρ σ H → wi ρ Qd →
  (∀ its F' H' J Gp Y, Gw pa F H F' H' → StO K pa H0 F' ρ σ H' → Walk J its.length Gp Y → (∀ F2 H2, Ex F' F2 → Bs pa F2 H2 → Gp H2) → (∀ i it, its[i]? = some it → it.length = js.length ∧ Yields K pa F' js it i Y g) → Qd its → R J H') → ti σ H R
/-- the items of a list, of a tuple -/
def D.seq : D → Option (Bool × List D)
  | .lst ds => some (false, ds)
  | .tup ds => some (true, ds)
  | _ => none
theorem D.seq_lst (ds : List D) : D.seq (.lst ds) = some (false, ds) := rfl
theorem D.seq_tup (ds : List D) : D.seq (.tup ds) = some (true, ds) := rfl
theorem seqK {d : D} {k : Bool} {ds : List D} {v : V} (e : d.seq = some (k, ds)) (r : Rep K pa F d v) : ∃ a vs, v = .ref a ∧ SqK k K F a vs ∧ RepL K pa F ds vs := by
  cases d <;> first | (cases e; done) | skip
  · cases e
    obtain ⟨a, vs, rfl, h1, h2⟩ := r.lst_inv
    exact ⟨a, vs, rfl, sqL h1, h2⟩
  · cases e
    obtain ⟨a, vs, rfl, h1, h2⟩ := r.tup_inv
    exact ⟨a, vs, rfl, h1, h2⟩
def wEach (we : WE) : WI := fun ρ Q => we ρ fun d => match d.seq with | some (_, ds) => Q (ds.map fun d => [d]) | none => False
theorem y_name {j : Nat} {ds : List D} {vs : List V} (r : RepL K pa F' ds vs) (i : Nat) (it : List D) (e : (ds.map fun d => [d])[i]? = some it) : it.length = [j].length ∧ Yields K pa F' [j] it i (YAt vs) (gName j) := by
  rw [List.getElem?_map] at e
  cases c : ds[i]? with
  | none => rw [c] at e; cases e
  | some d =>
    rw [c] at e
    cases e
    refine ⟨rfl, fun F2 H2 x H3 σ2 Q b ex y q => ?_⟩
    obtain ⟨rfl, e2⟩ := y
    obtain ⟨v, e3, rv⟩ := r.get i d c
    rw [e3] at e2; cases e2
    exact q [_] H3 (Gw.refl _ _ _) b (RepL.cons (Rep.ex ex _ _ rv) RepL.nil)
theorem ri_seq {j : Nat} (he : RE K .fz te we) : RI K (iSeq K te) (gName j) [j] (wEach we) := by
  intro pa H0 F H ρ σ R Qd S w k
  refine he S w fun d x F1 H1 g1 S1 r1 w1 => ?_
  split at w1
  · rename_i kk ds e
    obtain ⟨a, vs, rfl, h1, r⟩ := seqK e r1.r
    exact ⟨kk, a, vs, rfl, h1.ex S1.bs.ex, k _ F1 H1 (ItsK kk K a) _ (YAt vs) g1 S1 (by rw [List.length_map, ← r.len]; exact walk_seq) (fun F2 H2 ex b => (h1.ex ex).ex b.ex) (y_name r) w1⟩
  · exact w1.elim
/-- for a, b in (a list of pairs) -/
def D.parts : D → List D
  | .tup ds => ds
  | _ => []
def isTup (n : Nat) : D → Bool
  | .tup ds => ds.length == n
  | _ => false
def wEachN (n : Nat) (we : WE) : WI := fun ρ Q => we ρ fun d => match d.seq with | some (_, ds) => ds.all (isTup n) = true ∧ Q (ds.map D.parts) | none => False
/-- names, one after another -/
def gNames : List Nat → TGs
  | [] => gNil
  | j :: js => gCons (gName j) (gNames js)
theorem gNames_run {Q : L2.St → Hp → Prop} : ∀ {js : List Nat} {vs : List V} {σ : L2.St}, vs.length = js.length → Q (setsV σ js vs) H → gNames js vs σ H Q
  | [], vs, σ, l, q => by
    have e : vs = [] := List.length_eq_zero_iff.mp l
    subst e
    exact ⟨rfl, q⟩
  | j :: js, [], σ, l, q => by cases l
  | j :: js, v :: vs, σ, l, q => ⟨v, vs, rfl, gNames_run (Nat.succ.inj l) q⟩
theorem gTup_run {n : Nat} {js : List Nat} {it : List D} {a : Addr} {vs : List V} {Q : L2.St → Hp → Prop} (hl : it.length = js.length) (hn : js.length = n) (h : SqT K H a vs) (r : RepL K pa F it vs) (q : Q (setsV σ js vs) H) : gTup K n (gNames js) (.ref a) σ H Q :=
  ⟨a, vs, rfl, h, by rw [r.len, hl, hn], gNames_run (by rw [r.len, hl]) q⟩
theorem ri_seqN {n : Nat} {js : List Nat} (he : RE K .fz te we) (hn : js.length = n := by rfl) : RI K (iSeq K te) (gTup K n (gNames js)) js (wEachN n we) := by
  intro pa H0 F H ρ σ R Qd S w k
  refine he S w fun d x F1 H1 g1 S1 r1 w1 => ?_
  split at w1
  · rename_i kk ds e0
    obtain ⟨a, vs, rfl, h1, r⟩ := seqK e0 r1.r
    refine ⟨kk, a, vs, rfl, h1.ex S1.bs.ex, k _ F1 H1 (ItsK kk K a) _ (YAt vs) g1 S1 (by rw [List.length_map, ← r.len]; exact walk_seq) (fun F2 H2 ex b => (h1.ex ex).ex b.ex) (fun i it e => ?_) w1.2⟩
    rw [List.getElem?_map] at e
    cases c : ds[i]? with
    | none => rw [c] at e; cases e
    | some d =>
      rw [c] at e
      cases e
      have hd := List.all_eq_true.mp w1.1 d (List.mem_of_getElem? c)
      cases d <;> first | (cases hd; done) | skip
      rename_i ps
      have hd' : ps.length = n := by simpa [isTup] using hd
      refine ⟨by show ps.length = _; rw [hd', hn], fun F2 H2 x H3 σ2 Q b ex y q => ?_⟩
      obtain ⟨rfl, e2⟩ := y
      obtain ⟨v, e3, rv⟩ := r.get i _ c
      rw [e3] at e2; cases e2
      obtain ⟨t, us, rfl, ht, rt⟩ := rv.tup_inv
      have rt2 := RepL.ex ex _ _ rt
      exact gTup_run (by show ps.length = _; rw [hd', hn]) hn ((ex.trans b.ex).tup ht) rt2 (q us H3 (Gw.refl _ _ _) b rt2)
  · exact w1.elim
/-- a new pair at each turn -/
theorem y_pair {j1 j2 : Nat} {xs ys : Nat → Option V} {d e : D} {i : Nat} (hx : ∀ x, xs i = some x → ∀ F2, Ex F' F2 → Rep K pa F2 d x) (hy : ∀ y, ys i = some y → ∀ F2, Ex F' F2 → Rep K pa F2 e y) :
    [d, e].length = [j1, j2].length ∧ Yields K pa F' [j1, j2] [d, e] i (YPair xs ys) (gTup K 2 (gNames [j1, j2])) := by
  refine ⟨rfl, fun F2 H2 x H3 σ2 Q b ex y q => ?_⟩
  obtain ⟨T, u, v, rfl, nT, rfl, e1, e2⟩ := y
  obtain ⟨g, b2, nF⟩ := gw_own (o := .tup [u, v]) b nT
  have r : RepL K pa F2 [d, e] [u, v] := RepL.cons (hx u e1 F2 ex) (RepL.cons (hy v e2 F2 ex) RepL.nil)
  exact gTup_run rfl rfl (sqT upd_same) r (q [u, v] _ g b2 r)
def wEnum (wa : WA) : WI := fun ρ Q => wa ρ fun ds => match ds with | [d] => (match d.seq with | some (_, xs) => Q (xs.zipIdx.map fun p => [.int p.2, p.1]) | none => False) | _ => False
theorem ri_enum {j1 j2 : Nat} (ha : RAn K false n tA wA) : RI K (iEnumA K tA) (gTup K 2 (gNames [j1, j2])) [j1, j2] (wEnum wA) := by
  intro pa H0 F H ρ σ R Qd S w k
  refine ha S w fun ds vs F1 H1 g1 S1 r1 l w1 => ?_
  split at w1
  · split at w1
    · rename_i kk xs e0
      obtain ⟨v, t, rfl, hv, ht⟩ := r1.r.cons_inv
      rw [ht.nil_inv]
      obtain ⟨a, us, rfl, h1, r⟩ := seqK e0 hv
      refine ⟨kk, a, us, rfl, h1.ex S1.bs.ex, k _ F1 H1 (IteK kk K a) _ _ g1 S1 (by rw [List.length_map, List.length_zipIdx, ← r.len]; exact walk_enumK) (fun F2 H2 ex b => (h1.ex ex).ex b.ex) (fun i it e => ?_) w1⟩
      rw [List.getElem?_map, List.getElem?_zipIdx] at e
      cases c : xs[i]? with
      | none => rw [c] at e; cases e
      | some d =>
        rw [c] at e
        cases e
        refine y_pair (fun x e2 F2 ex => ?_) (fun y e2 F2 ex => ?_)
        · cases e2
          have : (0 : Nat) + i = i := Nat.zero_add i
          show Rep K pa F2 (.int ((0 + i : Nat) : Int)) (.int (i : Nat))
          rw [this]; exact Rep.i
        · obtain ⟨v, e3, rv⟩ := r.get i d c
          rw [e3] at e2; cases e2
          exact Rep.ex ex _ _ rv
    · exact w1.elim
  · exact w1.elim
def wZip (wa : WA) : WI := fun ρ Q => wa ρ fun ds => match ds with | [d, e] => (match d.seq, e.seq with | some (_, xs), some (_, ys) => Q ((xs.zip ys).map fun p => [p.1, p.2]) | _, _ => False) | _ => False
/-- the ints from lo on, n of them -/
def rgD (lo : Int) (n : Nat) : List (List D) := (List.range n).map fun (i : Nat) => [.int (lo + i)]
theorem y_rng {j : Nat} {f : Nat → Int} {n : Nat} (i : Nat) (it : List D) (e : ((List.range n).map fun (i : Nat) => [D.int (f i)])[i]? = some it) : it.length = [j].length ∧ Yields K pa F' [j] it i (YFn fun i => .int (f i)) (gName j) := by
  rw [List.getElem?_map] at e
  cases c : (List.range n)[i]? with
  | none => rw [c] at e; cases e
  | some d =>
    rw [c] at e
    have hd : d = i := by
      obtain ⟨h1, h2⟩ := List.getElem?_eq_some_iff.mp c
      rw [List.getElem_range] at h2
      exact h2.symm
    subst hd
    cases e
    refine ⟨rfl, fun F2 H2 x H3 σ2 Q b ex y q => ?_⟩
    obtain ⟨rfl, rfl⟩ := y
    exact q [.int (f d)] H3 (Gw.refl _ _ _) b (RepL.cons Rep.i RepL.nil)
def wRng1 (wa : WA) : WI := fun ρ Q => wa ρ fun ds => match ds with | [.int j] => (-(2 ^ 62) ≤ j ∧ j < 2 ^ 62) ∧ Q (rgD 0 j.toNat) | _ => False
theorem ri_rng1 {j : Nat} (ha : RAn K true n tA wA) : RI K (iRng1 tA) (gName j) [j] (wRng1 wA) := by
  intro pa H0 F H ρ σ R Qd S w k
  refine ha S w fun ds vs F1 H1 g1 S1 r1 l w1 => ?_
  split at w1
  · rename_i i
    obtain ⟨v, rfl, hv⟩ := p1 r1.p
    refine ⟨i, by rw [hv.int_inv], w1.1.1, w1.1.2, k _ F1 H1 (Itr 0 i.toNat) _ _ g1 S1 (by rw [List.length_map, List.length_range]; exact walk_range) (fun _ _ _ _ => trivial) (fun i it e => y_rng (f := fun i => 0 + (i : Int)) i it e) w1.2⟩
  · exact w1.elim
def wRng2 (wa : WA) : WI := fun ρ Q => wa ρ fun ds => match ds with | [.int i, .int j] => (-(2 ^ 62) ≤ i ∧ i < 2 ^ 62 ∧ -(2 ^ 62) ≤ j ∧ j < 2 ^ 62) ∧ Q (rgD i (j - i).toNat) | _ => False
theorem ri_rng2 {j : Nat} (ha : RAn K true n tA wA) : RI K (iRng2 tA) (gName j) [j] (wRng2 wA) := by
  intro pa H0 F H ρ σ R Qd S w k
  refine ha S w fun ds vs F1 H1 g1 S1 r1 l w1 => ?_
  split at w1
  · rename_i i j'
    obtain ⟨v, u, rfl, hv, hu⟩ := p2 r1.p
    refine ⟨i, j', by rw [hv.int_inv, hu.int_inv], w1.1, k _ F1 H1 (Itr i (j' - i).toNat) _ _ g1 S1 (by rw [List.length_map, List.length_range]; exact walk_range) (fun _ _ _ _ => trivial) (fun i' it e => y_rng (f := fun z => i + (z : Int)) i' it e) w1.2⟩
  · exact w1.elim
/-- down by ones -/
def rgDown (lo : Int) (n : Nat) : List (List D) := (List.range n).map fun (i : Nat) => [.int (lo - i)]
def wDown (wa : WA) : WI := fun ρ Q => wa ρ fun ds => match ds with | [.int i, .int j, .int c] => (c = -1 ∧ -(2 ^ 62) ≤ i ∧ i < 2 ^ 62 ∧ -(2 ^ 62) ≤ j ∧ j < 2 ^ 62) ∧ Q (rgDown i (i - j).toNat) | _ => False
theorem p3 {F : D → V → Prop} {d e f : D} {vs : List V} (h : Paired F [d, e, f] vs) : ∃ v u z, vs = [v, u, z] ∧ F d v ∧ F e u ∧ F f z := by
  cases h with
  | cons h t =>
    obtain ⟨u, z, rfl, h2, h3⟩ := p2 t
    exact ⟨_, _, _, rfl, h, h2, h3⟩
/-! ### comprehensions -/
def wLcGo (wt : WT) (we : WE) (ρ : GE) (js : List Nat) : List (List D) → (List D → Prop) → Prop
  | [], Q => Q []
  | it :: its, Q => wt (setsG ρ js it) fun b => if b = true then we (setsG ρ js it) fun d => wLcGo wt we ρ js its fun ds => Q (d :: ds) else wLcGo wt we ρ js its Q
def wLc (js vs : List Nat) (wi : WI) (wt : WT) (we : WE) : WE := fun ρ Q => wi ρ fun its => its.length ≤ many ∧ wLcGo wt we (wipeG ρ vs) js its fun ds => Q (.lst ds)
theorem wipe_set {v : Option V} {j : Nat} : ∀ {vs : List Nat} {σ : L2.St}, j ∈ vs → L2.wipe (σ.set j v) vs = L2.wipe σ vs
  | [], _, h => by cases h
  | w :: vs, σ, h => by
    unfold L2.wipe
    by_cases c : j ∈ vs
    · rw [wipe_set c]
    · have e : j = w := by
        rcases List.mem_cons.mp h with h | h
        · exact h
        · exact absurd h c
      subst e
      have e2 : ∀ {vs : List Nat} {σ : L2.St}, j ∉ vs → L2.wipe (σ.set j v) vs = (L2.wipe σ vs).set j v := by
        intro vs
        induction vs with
        | nil => intro σ _; rfl
        | cons u us ih =>
          intro σ hn
          have h1 : j ≠ u := fun z => hn (z ▸ List.mem_cons_self)
          have h2 : j ∉ us := fun z => hn (List.mem_cons_of_mem _ z)
          unfold L2.wipe
          rw [ih h2, List.set_comm _ _ h1]
      rw [e2 c, List.set_set]
theorem wipe_sets : ∀ {js : List Nat} {us : List V} {vs : List Nat} {σ : L2.St}, (∀ j ∈ js, j ∈ vs) → L2.wipe (setsV σ js us) vs = L2.wipe σ vs
  | [], _, _, _, _ => by unfold setsV; rfl
  | j :: js, [], _, _, _ => by unfold setsV; rfl
  | j :: js, u :: us, vs, σ, h => by
    unfold setsV
    rw [wipe_sets fun x hx => h x (List.mem_cons_of_mem _ hx), wipe_set (h j List.mem_cons_self)]
theorem wipe_wipe {σ : L2.St} {vs : List Nat} : L2.wipe (L2.wipe σ vs) vs = L2.wipe σ vs := by
  have h : ∀ us : List Nat, (∀ u ∈ us, u ∈ vs) → L2.wipe (L2.wipe σ us) vs = L2.wipe σ vs := by
    intro us
    induction us with
    | nil => intro _; rfl
    | cons u us ih =>
      intro hu
      show L2.wipe ((L2.wipe σ us).set u none) vs = _
      rw [wipe_set (hu u List.mem_cons_self), ih fun x hx => hu x (List.mem_cons_of_mem _ hx)]
  exact h vs fun _ z => z
theorem re_lc {ti : TI} {g : TG} {tt : TT} {wi : WI} {wt : WT} {js vs : List Nat} (hi : RI K ti g js wi) (ht : RT K tt wt) (he : RE K .fz te we) (hj : ∀ j ∈ js, j ∈ vs := by decide) : RE K .nw (tLc ti g tt te vs) (wLc js vs wi wt we) := by
  intro pa H0 F H ρ σ Q Qd S w k
  refine hi S w fun its F1 H1 J Gp Y g1 S1 wk hG hy w1 Da nD => ?_
  obtain ⟨hm, w1⟩ := w1
  refine lc_it (n := its.length) wk (fun i H' => i ≤ its.length ∧ ∃ F2 acc accv, Gw pa F1 H1 F2 H' ∧ Bs pa F2 H' ∧ F2 Da = none ∧ H' Da = some (.lst accv) ∧ RepL K pa F2 acc accv ∧ acc.length ≤ i ∧ wLcGo wt we (wipeG ρ vs) js (its.drop i) fun ds => Qd (.lst (acc ++ ds))) ?_ ?_ ?_ ?_
  · obtain ⟨g2, b2, n2⟩ := gw_own (o := .lst []) S1.bs nD
    exact ⟨Nat.zero_le _, F1, [], [], g2, b2, n2, upd_same, RepL.nil, Nat.le_refl _, by rw [List.drop_zero]; exact w1⟩
  · rintro i H' _ ⟨_, F2, acc, accv, g2, b2, _⟩
    exact hG F2 H' g2.ex b2
  · rintro i x H' H3 hi' ⟨_, F2, acc, accv, g2, b2, nF, hD, ra, la, w2⟩ y
    have g12 := Gw.trans S1.bs b2.np S.bs.po g1 g2
    have hit : its[i]? = some its[i] := List.getElem?_eq_getElem hi'
    obtain ⟨lit, yi⟩ := hy i its[i] hit
    have Sw := ((S.grow g12 b2).wipe vs)
    rw [List.drop_eq_getElem_cons hi'] at w2
    unfold wLcGo at w2
    refine yi F2 H' x H3 (L2.wipe σ vs) _ b2 g2.ex y fun us H4 g4 b4 ru => ⟨by rw [wipe_sets hj, wipe_wipe], ?_⟩
    have S4 := (Sw.grow g4 b4).sets (js := js) ru
    have hD4 : H4 Da = some (.lst accv) := by
      refine g4.kp Da _ ?_ hD
      exact Po.nea S1.bs nD
    refine ht S4 w2 fun b F5 H5 g5 S5 q5 => ?_
    have nDp : Da ≠ pa := Po.nea S1.bs nD
    have g45 : Gw pa F2 H' F5 H5 := Gw.trans b4 S5.bs.np b2.po g4 g5
    have nF5 : F5 Da = none := by
      cases c : F5 Da with
      | none => rfl
      | some o =>
        have := g45.nw Da nF (by rw [c]; exact fun z => nomatch z)
        rw [hD] at this; cases this
    have hD5 := g5.kp Da _ nDp hD4
    cases b with
    | true =>
      rw [if_pos rfl] at q5 ⊢
      refine he S5 q5 fun d v F6 H6 g6 S6 r6 q6 => ?_
      have g46 : Gw pa F2 H' F6 H6 := Gw.trans S5.bs S6.bs.np b2.po g45 g6
      have nF6 : F6 Da = none := by
        cases c : F6 Da with
        | none => rfl
        | some o =>
          have := g46.nw Da nF (by rw [c]; exact fun z => nomatch z)
          rw [hD] at this; cases this
      have hD6 := g6.kp Da _ nDp hD5
      have g16 : Gw pa F1 H1 F6 H6 := Gw.trans b2 S6.bs.np S1.bs.po g2 g46
      refine ⟨accv, hD6, ?_, by omega, F6, acc ++ [d], accv ++ [v], ⟨g16.ex, fun a o na e => ?_, g16.nw⟩, ⟨fun a o e => ?_, ?_, S6.bs.np⟩, nF6, upd_same, ?_, ?_, ?_⟩
      · rw [ra.len]
        refine Nat.lt_of_le_of_lt la ?_
        unfold many at hm
        unfold sizeLine
        omega
      · by_cases c : a = Da
        · rw [c] at e; rw [nD] at e; cases e
        · rw [upd_ne c]; exact g16.kp a o na e
      · by_cases c : a = Da
        · rw [c] at e; rw [nF6] at e; cases e
        · rw [upd_ne c]; exact S6.bs.ex a o e
      · obtain ⟨mm, ss, hp, hh⟩ := S6.bs.po
        exact ⟨mm, ss, by rw [upd_ne (Ne.symm nDp)]; exact hp, hh⟩
      · exact (RepL.ex g46.ex _ _ ra).app (RepL.cons r6.r RepL.nil)
      · rw [List.length_append]; simpa using la
      · simpa using q6
    | false =>
      rw [if_neg Bool.false_ne_true] at q5 ⊢
      have g15 : Gw pa F1 H1 F5 H5 := Gw.trans b2 S5.bs.np S1.bs.po g2 g45
      exact ⟨by omega, F5, acc, accv, g15, S5.bs, nF5, hD5, RepL.ex g45.ex _ _ ra, by omega, q5⟩
  · rintro H' ⟨_, F2, acc, accv, g2, b2, nF, hD, ra, la, w2⟩
    have g12 := Gw.trans S1.bs b2.np S.bs.po g1 g2
    rw [List.drop_eq_nil_of_le (Nat.le_refl _)] at w2
    unfold wLcGo at w2
    rw [List.append_nil] at w2
    exact k (.lst acc) _ F2 H' g12 (S.grow g12 b2) (.nwI hD nF (Po.back S.bs.po g1 nD S1.bs.po) ra) w2
end
end TP
/-! DL5 -/
set_option maxHeartbeats 4000000
namespace TP
open PySem PySem.Spec PyProof.Rows L2
/-! ### statements -/
structure EOk (K : Fr) (pa : Addr) (H0 F0 : Hp) (m : Md) (E : L2.Ends) (D : WEnds) : Prop where
  nx : ∀ F ρ σ H, Gw pa F0 H0 F H → StO K pa H0 F ρ σ H → D.nx ρ → E.nx σ H
  rt : ∀ d v F H, Gw pa F0 H0 F H → Bs pa F H → RepM K pa H0 F H m d v → D.rt d → E.rt v H
  bk : ∀ F ρ σ H, Gw pa F0 H0 F H → StO K pa H0 F ρ σ H → D.bk ρ → E.bk σ H
  ct : ∀ F ρ σ H, Gw pa F0 H0 F H → StO K pa H0 F ρ σ H → D.ct ρ → E.ct σ H
def RS (K : Fr) (m : Md) (ts : TS) (ws : WS) : Prop := ∀ {pa : Addr} {H0 F0 F H : Hp} {ρ : GE} {σ : L2.St} {E : L2.Ends} {D : WEnds}, Po pa H0 → Gw pa F0 H0 F H → StO K pa H0 F ρ σ H → ws D ρ → EOk K pa H0 F0 m E D → ts E σ H
section
variable {K : Fr} {pa : Addr} {H0 F F' F'' H H' H'' : Hp} {ρ : GE} {σ : L2.St} {ta tb tc te : TE} {wa wb wc we : WE} {m : Md} {tA tB : TA} {wA wB : WA} {n k : Nat} {b : Bool} {ts tu : TS} {ws wu : WS} {tt : TT} {wt : WT}
def wSeq (ws wu : WS) : WS := fun D ρ => ws { D with nx := wu D } ρ
theorem rs_seq (h1 : RS K m ts ws) (h2 : RS K m tu wu) : RS K m (tSeq ts tu) (wSeq ws wu) := by
  intro pa H0 F0 F H ρ σ E D b0 g S w e
  exact h1 b0 g S w ⟨fun F ρ σ H g S q => h2 b0 g S q e, e.rt, e.bk, e.ct⟩
def wNext : WS := fun D ρ => D.nx ρ
theorem rs_next : RS K m tNext wNext := fun b0 g S w e => e.nx _ _ _ _ g S w
/-- what is never come to -/
def wNever : WS := fun _ _ => False
def wBreak : WS := fun D ρ => D.bk ρ
def wCont : WS := fun D ρ => D.ct ρ
def wRet (we : WE) : WS := fun D ρ => we ρ D.rt
theorem rs_ret (he : RE K m te we) : RS K m (tRet te) (wRet we) := by
  intro pa H0 F0 F H ρ σ E D b0 g S w e
  exact he S w fun d v F' H' g' S' r q => e.rt d v F' H' (Gw.trans S.bs S'.bs.np b0 g g') S'.bs (r.back b0 S.bs.po g) q
/-- a list of the def's own goes back as a new one -/
def wRetO (i : Nat) : WS := fun D ρ => match ρ[i]? with | some (.ow ds) => D.rt (.lst ds) | _ => False
theorem rs_retO {i : Nat} : RS K .nw (tRet (tVar i)) (wRetO i) := by
  intro pa H0 F0 F H ρ σ E D b0 g S w e
  unfold wRetO at w
  split at w
  · rename_i ds h
    obtain ⟨a, vs, h1, h2, h3, h4, h5, h6⟩ := S.sl _ _ h
    exact ⟨_, h1, e.rt _ _ F H g S.bs (.nwI h2 h3 h4 h6) w⟩
  · exact w.elim
def wDrop (we : WE) : WS := fun D ρ => we ρ fun _ => D.nx ρ
def wAsg (i : Nat) (we : WE) : WS := fun D ρ => we ρ fun d => D.nx (ρ.set i (.fz d))
theorem rs_asg {i : Nat} (he : RE K .fz te we) : RS K m (tAsg te (gName i)) (wAsg i we) := by
  intro pa H0 F0 F H ρ σ E D b0 g S w e
  exact he S w fun d v F' H' g' S' r q => e.nx _ _ _ _ (Gw.trans S.bs S'.bs.np b0 g g') (S'.set r.r) q
/-- a new list, of the slot's own -/
theorem StO.own {i : Nat} {ds : List D} {a : Addr} {vs : List V} {F0 : Hp} (b0 : Po pa H0) (g0 : Gw pa F0 H0 F H) (S : StO K pa H0 F ρ σ H) (S' : StO K pa H0 F' ρ σ H') (h1 : H' a = some (.lst vs)) (h2 : F' a = none) (h3 : H a = none) (r : RepL K pa F' ds vs) :
    StO K pa H0 F' (ρ.set i (.ow ds)) (σ.set i (some (.ref a))) H' := by
  refine S'.setO h1 h2 (Po.back b0 g0 h3 S.bs.po) (Po.nea S.bs h3) r fun j es e n c => ?_
  obtain ⟨x, us, q1, q2, _⟩ := S.sl j _ e
  rw [c] at q1
  cases q1
  rw [h3] at q2; cases q2
def wAsgO (i : Nat) (we : WE) : WS := fun D ρ => we ρ fun d => match d with | .lst ds => D.nx (ρ.set i (.ow ds)) | _ => False
theorem rs_asgO {i : Nat} (he : RE K .nw te we) : RS K m (tAsg te (gName i)) (wAsgO i we) := by
  intro pa H0 F0 F H ρ σ E D b0 g S w e
  refine he S w fun d v F' H' g' S' r q => ?_
  obtain ⟨ds, a, vs, rfl, rfl, h1, h2, h3, h4⟩ := r
  exact e.nx _ _ _ _ (Gw.trans S.bs S'.bs.np b0 g g') (StO.own b0 g S S' h1 h2 h3 h4) q
/-- the list is told from now on -/
def wFz (i : Nat) (ws : WS) : WS := fun D ρ => match ρ[i]? with | some (.ow ds) => ws D (ρ.set i (.fz (.lst ds))) | _ => ws D ρ
theorem rs_fz {i : Nat} (h : RS K m ts ws) : RS K m ts (wFz i ws) := by
  intro pa H0 F0 F H ρ σ E D b0 g S w e
  unfold wFz at w
  split at w
  · rename_i ds hr
    obtain ⟨a, vs, h1, h2, h3, h4, h5, h6⟩ := S.sl _ _ hr
    have hi : i < ρ.length := (List.getElem?_eq_some_iff.mp hr).1
    have eF : Ex F (upd F a (.lst vs)) := Ex.new h3
    have bs' : Bs pa (upd F a (.lst vs)) H := by
      refine ⟨fun x o q => ?_, S.bs.po, by rw [upd_ne (Ne.symm h5)]; exact S.bs.np⟩
      by_cases c : x = a
      · rw [c, upd_same] at q; rw [c, h2, ← q]
      · rw [upd_ne c] at q; exact S.bs.ex x o q
    have g' : Gw pa F0 H0 (upd F a (.lst vs)) H := by
      refine ⟨g.ex.trans eF, g.kp, fun p z z' => ?_⟩
      by_cases c : p = a
      · rw [c]; exact h4
      · rw [upd_ne c] at z'; exact g.nw p z z'
    have S1 : StO K pa H0 (upd F a (.lst vs)) (ρ.set i .any) σ H := by
      have Sf := S.forget (i := i)
      refine ⟨bs', Sf.len, fun j x q => ?_, Sf.inj⟩
      have qq := Sf.sl j x q
      cases x with
      | fz d =>
        obtain ⟨v, q1, q2⟩ := qq
        exact ⟨v, q1, Rep.ex eF _ _ q2⟩
      | ow es =>
        obtain ⟨c, us, q1, q2, q3, q4, q5, q6⟩ := qq
        refine ⟨c, us, q1, q2, ?_, q4, q5, RepL.ex eF _ _ q6⟩
        rw [upd_ne]; exact q3
        rintro rfl
        by_cases cc : i = j
        · subst cc
          rw [List.getElem?_set_self hi] at q; cases q
        · rw [List.getElem?_set_ne cc] at q
          exact cc (S.inj i j ds es c hr q h1 q1)
      | any => trivial
    have S2 := S1.set (i := i) (d := .lst ds) (v := .ref a) (Rep.l upd_same (RepL.ex eF _ _ h6))
    rw [List.set_set] at S2
    have es : σ.set i (some (.ref a)) = σ := by
      apply List.ext_getElem?
      intro j
      by_cases c : i = j
      · subst c
        rw [List.getElem?_set_self (by rw [← S.len]; exact hi), h1]
      · rw [List.getElem?_set_ne c]
    rw [es] at S2
    exact h b0 g' S2 w e
  · exact h b0 g S w e
/-! two at once -/
def wPar (i j : Nat) (wa wb : WE) : WS := fun D ρ => wa ρ fun d => wb ρ fun e => D.nx ((ρ.set i (.fz d)).set j (.fz e))
theorem rs_par {i j : Nat} (ha : RE K .fz ta wa) (hb : RE K .fz tb wb) : RS K m (tPar i j (tCons ta (tCons tb tNil))) (wPar i j wa wb) := by
  intro pa H0 F0 F H ρ σ E D b0 g S w e
  refine ha S w fun d v F1 H1 g1 S1 r1 q1 => hb S1 q1 fun d2 v2 F2 H2 g2 S2 r2 q2 => ⟨_, _, rfl, ?_⟩
  exact e.nx _ _ _ _ (Gw.trans S.bs S2.bs.np b0 g (S.gwT g1 S1 g2 S2)) ((S2.set (Rep.ex g2.ex _ _ r1.r)).set r2.r) q2
def wParO (i j : Nat) (wa wb : WE) : WS := fun D ρ => wa ρ fun d => wb ρ fun e => match d with | .lst ds => D.nx ((ρ.set i (.ow ds)).set j (.fz e)) | _ => False
def wParO2 (i j : Nat) (wa wb : WE) : WS := fun D ρ => wa ρ fun d => wb ρ fun e => match e with | .lst ds => D.nx ((ρ.set i (.fz d)).set j (.ow ds)) | _ => False
def wPar3 (i j l : Nat) (wa wb wc : WE) : WS := fun D ρ => wa ρ fun d => wb ρ fun e => wc ρ fun f => D.nx (((ρ.set i (.fz d)).set j (.fz e)).set l (.fz f))
/-- a, b, .. = a tuple -/
def wUnp (js : List Nat) (we : WE) : WS := fun D ρ => we ρ fun d => match d with | .tup ds => ds.length = js.length ∧ D.nx (setsG ρ js ds) | _ => False
theorem rs_unp {js : List Nat} (he : RE K .fz te we) (hn : js.length = n := by rfl) : RS K m (tAsg te (gTup K n (gNames js))) (wUnp js we) := by
  intro pa H0 F0 F H ρ σ E D b0 g S w e
  refine he S w fun d v F' H' g' S' r q => ?_
  split at q
  · rename_i ds
    obtain ⟨a, vs, rfl, h1, h2⟩ := r.r.tup_inv
    exact gTup_run q.1 hn (S'.bs.ex.tup h1) h2 (e.nx _ _ _ _ (Gw.trans S.bs S'.bs.np b0 g g') (S'.sets h2) q.2)
  · exact q.elim
def wAug (i : Nat) (f : Int → Int → Int) (C : Int → Int → Prop) (we : WE) : WS := fun D ρ => match ρ[i]? with
  | some (.fz (.int x)) => we ρ fun d => (match d with | .int y => C x y ∧ D.nx (ρ.set i (.fz (.int (f x y)))) | _ => False)
  | _ => False
/-! ### a list of one's own changes -/
theorem StO.chg {i : Nat} {ds es : List D} {a : Addr} {vs us : List V} {F0 : Hp} (b0 : Po pa H0) (g : Gw pa F0 H0 F H) (S : StO K pa H0 F ρ σ H) (hr : ρ[i]? = some (.ow ds)) (hs : σ[i]? = some (some (.ref a))) (h1 : H a = some (.lst vs)) (r : RepL K pa F es us) :
    StO K pa H0 F (ρ.set i (.ow es)) σ (upd H a (.lst us)) ∧ Gw pa F0 H0 F (upd H a (.lst us)) := by
  obtain ⟨a', vs', q1, q2, q3, q4, q5, q6⟩ := S.sl _ _ hr
  rw [hs] at q1
  cases q1
  have hi : i < ρ.length := (List.getElem?_eq_some_iff.mp hr).1
  refine ⟨⟨⟨fun x o e => ?_, ?_, S.bs.np⟩, by rw [List.length_set, S.len], fun j x q => ?_, fun j l ds' es' c e1 e2 e3 e4 => ?_⟩, ⟨g.ex, fun x o n e => ?_, g.nw⟩⟩
  · by_cases c : x = a
    · rw [c, q3] at e; cases e
    · rw [upd_ne c]; exact S.bs.ex x o e
  · obtain ⟨mm, ss, hp, hh⟩ := S.bs.po
    exact ⟨mm, ss, by rw [upd_ne (Ne.symm q5)]; exact hp, hh⟩
  · by_cases c : i = j
    · subst c
      rw [List.getElem?_set_self hi] at q
      cases q
      exact ⟨a, us, hs, upd_same, q3, q4, q5, r⟩
    · rw [List.getElem?_set_ne c] at q
      have z := S.sl j x q
      cases x with
      | fz d => exact z
      | ow es2 =>
        obtain ⟨c2, us2, z1, z2, z3⟩ := z
        refine ⟨c2, us2, z1, ?_, z3⟩
        rw [upd_ne]; exact z2
        rintro rfl
        exact c (S.inj i j ds es2 c2 hr q hs z1)
      | any => trivial
  · have f : ∀ (z : Nat) (es0 : List D), (ρ.set i (.ow es))[z]? = some (.ow es0) → ∃ es1, ρ[z]? = some (.ow es1) := fun z es0 e => by
      by_cases c : i = z
      · subst c; exact ⟨ds, hr⟩
      · rw [List.getElem?_set_ne c] at e; exact ⟨es0, e⟩
    obtain ⟨d1, f1⟩ := f j ds' e1
    obtain ⟨d2, f2⟩ := f l es' e2
    exact S.inj j l d1 d2 c f1 f2 e3 e4
  · by_cases c : x = a
    · rw [c, q4] at e; cases e
    · rw [upd_ne c]; exact g.kp x o n e
def wApp (i : Nat) (we : WE) : WS := fun D ρ => match ρ[i]? with | some (.ow ds) => we ρ fun d => ds.length < many ∧ D.nx (ρ.set i (.ow (ds ++ [d]))) | _ => False
def wExt (i : Nat) (we : WE) : WS := fun D ρ => match ρ[i]? with | some (.ow ds) => we ρ fun d => (match d with | .lst es => ds.length + es.length ≤ many ∧ D.nx (ρ.set i (.ow (ds ++ es))) | _ => False) | _ => False
theorem rs_ext {i : Nat} (he : RE K .br te we) : RS K m (tDrop (tBM K "list" rExtend (tVar i) (tCons te tNil))) (wExt i we) := by
  intro pa H0 F0 F H ρ σ E D b0 g S w e
  unfold wExt at w
  split at w
  · rename_i ds hr
    obtain ⟨a, vs, h1, h2, _⟩ := S.sl _ _ hr
    refine ⟨.ref a, h1, .inl ⟨rfl, _, .inl (.inl h2)⟩, ?_⟩
    refine he S w fun d v F' H' g' S' r q => ?_
    split at q
    · rename_i es
      obtain ⟨a', us, k1, k2, k3, k4, k5, k6⟩ := S'.sl _ _ hr
      rw [h1] at k1
      cases k1
      obtain ⟨c, zs, rfl, z1, z2, z3⟩ := r.lentI.lst_inv S'.bs
      have g2 := Gw.trans S.bs S'.bs.np b0 g g'
      obtain ⟨S3, g3⟩ := StO.chg (us := us ++ zs) b0 g2 S' hr h1 k2 (k6.app z3)
      exact ⟨a, c, us, zs, rfl, rfl, k2, z1, by rw [k6.len, z3.len]; exact many_ok q.1, e.nx _ _ _ _ g3 S3 q.2⟩
    · exact q.elim
  · exact w.elim
/-- x = xs.pop() -/
def wPop (i j : Nat) : WS := fun D ρ => match ρ[i]? with | some (.ow ds) => (match ds[ds.length - 1]? with | some d => D.nx ((ρ.set i (.ow ds.dropLast)).set j (.fz d)) | none => False) | _ => False
theorem RepL.dropL : ∀ {ds : List TP.D} {vs : List V}, RepL K pa F ds vs → RepL K pa F ds.dropLast vs.dropLast := fun {ds vs} r => by
  rw [List.dropLast_eq_take, List.dropLast_eq_take, r.len]
  exact r.take _
theorem rs_pop {i j : Nat} : RS K m (tAsg (tBM0 K "list" rPop (tVar i)) (gName j)) (wPop i j) := by
  intro pa H0 F0 F H ρ σ E D b0 g S w e
  unfold wPop at w
  split at w
  · rename_i ds hr
    split at w
    · rename_i d hd
      obtain ⟨a, vs, h1, h2, _, _, _, h6⟩ := S.sl _ _ hr
      obtain ⟨v, hv, rv⟩ := h6.get _ _ hd
      refine ⟨.ref a, h1, .inl ⟨rfl, _, .inl (.inl h2)⟩, ?_⟩
      obtain ⟨S3, g3⟩ := StO.chg b0 g S hr h1 h2 h6.dropL
      exact ⟨a, vs, v, rfl, rfl, h2, by rw [h6.len]; exact hv, e.nx _ _ _ _ g3 (S3.set rv) w⟩
    · exact w.elim
  · exact w.elim
/-- xs.pop(), the value dropped -/
def wPopD (i : Nat) : WS := fun D ρ => match ρ[i]? with | some (.ow ds) => ds ≠ [] ∧ D.nx (ρ.set i (.ow ds.dropLast)) | _ => False
/-- xs[k] = x -/
def wPut (i : Nat) (we wj : WE) : WS := fun D ρ => we ρ fun d => match ρ[i]? with
  | some (.ow ds) => wj ρ fun e => (match e with | .int k => (match ixN ds.length k with | some j => D.nx (ρ.set i (.ow (ds.set j d))) | none => False) | _ => False)
  | _ => False
theorem rs_put {i : Nat} {tj : TE} {wj : WE} (he : RE K .fz te we) (hj : RE K .fz tj wj) : RS K m (tAsg te (gSub (tVar i) tj rSetL)) (wPut i we wj) := by
  intro pa H0 F0 F H ρ σ E D b0 g S w e
  refine he S w fun d v F1 H1 g1 S1 r1 q => ?_
  split at q
  · rename_i ds hr
    obtain ⟨a, vs, h1, h2, _⟩ := S1.sl _ _ hr
    refine ⟨.ref a, h1, hj S1 q fun x xv F2 H2 g2 S2 r2 q2 => ?_⟩
    split at q2
    · rename_i kk
      split at q2
      · rename_i j hj
        obtain ⟨a', us, k1, k2, k3, k4, k5, k6⟩ := S2.sl _ _ hr
        rw [h1] at k1
        cases k1
        have g3 := Gw.trans S.bs S2.bs.np b0 g (S.gwT g1 S1 g2 S2)
        obtain ⟨S3, g4⟩ := StO.chg b0 g3 S2 hr h1 k2 (k6.set j (Rep.ex g2.ex _ _ r1.r))
        exact ⟨a, us, kk, j, rfl, r2.int_inv, k2, by rw [k6.len]; exact hj, e.nx _ _ _ _ g4 S3 q2⟩
      · exact q2.elim
    · exact q2.elim
  · exact q.elim
/-! ### tests, loops -/
def wIfS (wt : WT) (ws wu : WS) : WS := fun D ρ => wt ρ fun b => if b = true then ws D ρ else wu D ρ
theorem rs_if (ht : RT K tt wt) (h1 : RS K m ts ws) (h2 : RS K m tu wu) : RS K m (tIfS tt ts tu) (wIfS wt ws wu) := by
  intro pa H0 F0 F H ρ σ E D b0 g S w e
  refine ht S w fun b F' H' g' S' q => ?_
  have g2 := Gw.trans S.bs S'.bs.np b0 g g'
  cases b with
  | true => exact h1 b0 g2 S' q e
  | false => exact h2 b0 g2 S' q e
def wWhile (junk : List Nat) (wt : WT) (ws : WS) : WS := fun D ρ => ∃ W : Nat → GE → Prop, (∃ m, W m (wipeG ρ junk)) ∧ ∀ m ρ, W m ρ → wt ρ fun b =>
  if b = true then ws { D with nx := fun ρ' => ∃ m', m' < m ∧ W m' (wipeG ρ' junk), ct := fun ρ' => ∃ m', m' < m ∧ W m' (wipeG ρ' junk), bk := D.nx } ρ else D.nx ρ
theorem rs_while {junk : List Nat} (ht : RT K tt wt) (h1 : RS K m ts ws) : RS K m (tWhile tt ts) (wWhile junk wt ws) := by
  intro pa H0 F0 F H ρ σ E D b0 g S w e
  obtain ⟨W, ⟨m0, w0⟩, turn⟩ := w
  refine ⟨fun m σ H => ∃ F ρ, Gw pa F0 H0 F H ∧ StO K pa H0 F ρ σ H ∧ W m ρ, ⟨m0, F, _, g, S.forgets junk, w0⟩, ?_⟩
  rintro mm σ1 H1 ⟨F1, ρ1, g1, S1, w1⟩
  refine ht S1 (turn mm ρ1 w1) fun b F2 H2 g2 S2 q => ?_
  have g3 := Gw.trans S1.bs S2.bs.np b0 g1 g2
  cases b with
  | true =>
    rw [if_pos rfl] at q ⊢
    refine ⟨fun σ' H' => ∃ m', m' < mm ∧ ∃ F ρ, Gw pa F0 H0 F H' ∧ StO K pa H0 F ρ σ' H' ∧ W m' ρ, fun σ' H' ⟨m', hm, z⟩ => ⟨m', hm, z⟩, ?_⟩
    exact h1 b0 g3 S2 q ⟨fun F ρ σ H g S ⟨m', hm, z⟩ => ⟨m', hm, F, _, g, S.forgets junk, z⟩, e.rt, e.nx, fun F ρ σ H g S ⟨m', hm, z⟩ => ⟨m', hm, F, _, g, S.forgets junk, z⟩⟩
  | false =>
    rw [if_neg Bool.false_ne_true] at q ⊢
    exact e.nx _ _ _ _ g3 S2 q
def wForGo (js junk : List Nat) (body : WS) (E : WEnds) : List (List D) → GE → Prop
  | [], ρ => E.nx ρ
  | it :: its, ρ => body { E with nx := fun ρ' => wForGo js junk body E its (wipeG ρ' junk), ct := fun ρ' => wForGo js junk body E its (wipeG ρ' junk), bk := E.nx } (setsG ρ js it)
def wFor (js junk : List Nat) (wi : WI) (body : WS) : WS := fun E ρ => wi ρ fun its => wForGo js junk body E its (wipeG ρ junk)
theorem rs_for {ti : TI} {gt : TG} {wi : WI} {js junk : List Nat} (hi : RI K ti gt js wi) (h1 : RS K m ts ws) : RS K m (tFor ti gt ts) (wFor js junk wi ws) := by
  intro pa H0 F0 F H ρ σ E D b0 g S w e
  refine hi S w fun its F1 H1 J Gp Y g1 S1 wk hG hy w1 => ?_
  have g01 := Gw.trans S.bs S1.bs.np b0 g g1
  refine for_it (n := its.length) wk (fun i σ' H' => ∃ F2 ρ', Gw pa F0 H0 F2 H' ∧ Ex F1 F2 ∧ StO K pa H0 F2 ρ' σ' H' ∧ wForGo js junk ws D (its.drop i) ρ') ?_ ?_ ?_ ?_
  · exact ⟨F1, _, g01, Ex.refl _, S1.forgets junk, by rw [List.drop_zero]; exact w1⟩
  · rintro i σ' H' _ ⟨F2, ρ', g2, ex, S2, _⟩
    exact hG F2 H' ex S2.bs
  · rintro i x σ' H' H3 hi' ⟨F2, ρ', g2, ex, S2, w2⟩ y
    have hit : its[i]? = some its[i] := List.getElem?_eq_getElem hi'
    obtain ⟨lit, yi⟩ := hy i its[i] hit
    rw [List.drop_eq_getElem_cons hi'] at w2
    unfold wForGo at w2
    refine yi F2 H' x H3 σ' _ S2.bs ex y fun us H4 g4 b4 ru => ?_
    have S4 := (S2.grow g4 b4).sets (js := js) ru
    have g24 := Gw.trans S2.bs b4.np b0 g2 g4
    have g14 : Gw pa F1 H0 F2 H4 := by
      refine ⟨ex, g24.kp, fun p z z' => ?_⟩
      cases c : F0 p with
      | none => exact g24.nw p c z'
      | some o => have := g01.ex p o c; rw [z] at this; cases this
    have up : ∀ {F H}, Gw pa F1 H0 F H → Gw pa F0 H0 F H := fun {F H} g => ⟨g01.ex.trans g.ex, g.kp, fun p z z' => by
      cases c : F1 p with
      | none => exact g.nw p c z'
      | some o => exact g01.nw p z (by rw [c]; exact fun z => nomatch z)⟩
    exact h1 b0 g14 S4 w2 ⟨fun F ρ σ H g S q => ⟨F, _, up g, g.ex, S.forgets junk, q⟩, fun d v F H g b r q => e.rt d v F H (up g) b r q, fun F ρ σ H g S q => e.nx F ρ σ H (up g) S q, fun F ρ σ H g S q => ⟨F, _, up g, g.ex, S.forgets junk, q⟩⟩
  · rintro σ' H' ⟨F2, ρ', g2, ex, S2, w2⟩
    rw [List.drop_eq_nil_of_le (Nat.le_refl _)] at w2
    exact e.nx _ _ _ _ g2 S2 w2
/-! ### a def -/
def startG (n : Nat) (ds : List TP.D) : GE := ds.map .fz ++ List.replicate (n - ds.length) .any
/-- what a def does: n parameters, N slots -/
def cD (n N : Nat) (ws : WS) : WC := fun ds Q => ds.length = n ∧ ws { nx := fun _ => Q .non, rt := Q } (startG N ds)
theorem startG_get {N : Nat} {ds : List TP.D} {i : Nat} {g : G} (h : (startG N ds)[i]? = some g) : (∃ d, ds[i]? = some d ∧ g = .fz d) ∨ g = .any := by
  unfold startG at h
  by_cases c : i < ds.length
  · rw [List.getElem?_append_left (by rw [List.length_map]; exact c), List.getElem?_map, List.getElem?_eq_getElem c] at h
    cases h
    exact .inl ⟨_, List.getElem?_eq_getElem c, rfl⟩
  · rw [List.getElem?_append_right (by rw [List.length_map]; omega), List.getElem?_replicate] at h
    split at h
    · cases h; exact .inr rfl
    · cases h
theorem start_ok {N : List Str} {ds : List TP.D} {vs : List V} (b : Bs pa F H) (r : RepL K pa F ds vs) : StO K pa H F (startG N.length ds) (L2.start N vs) H := by
  refine ⟨b, ?_, fun i g e => ?_, fun i j xs es a h1 h2 h3 h4 => ?_⟩
  · unfold startG L2.start
    rw [List.length_append, List.length_append, List.length_map, List.length_map, List.length_replicate, List.length_replicate, r.len]
  · rcases startG_get e with ⟨d, h, rfl⟩ | rfl
    · obtain ⟨v, hv, rv⟩ := r.get i d h
      refine ⟨v, ?_, rv⟩
      unfold L2.start
      have hi : i < vs.length := (List.getElem?_eq_some_iff.mp hv).1
      rw [List.getElem?_append_left (by rw [List.length_map]; exact hi), List.getElem?_map, hv]; rfl
    · trivial
  · rcases startG_get h1 with ⟨d, h, z⟩ | z <;> cases z
theorem spD_pure {n : Nat} {N : List Str} {ts : TS} {ws : WS} (h : RS K .fz ts ws) {vs : List V} {H : Hp} {Q : VK} {E : XK} (hs : spD K .fz (cD n N.length ws) vs H Q E) : ts { nx := fun _ H' => Q .non H', rt := Q } (L2.start N vs) H := by
  obtain ⟨pa, F, ds, Qd, b, r, ⟨hl, w⟩, k⟩ := hs
  refine h b.po (Gw.refl _ _ _) (start_ok b r) w ⟨fun F' ρ σ H' g S q => k .non .non F' H' g S.bs RepM.n q, fun d v F' H' g b' r q => k d v F' H' g b' r q, fun _ _ _ _ _ _ q => q.elim, fun _ _ _ _ _ _ q => q.elim⟩
/-- what comes back is a new list -/
def cN (n N : Nat) (ws : WS) : WC := fun ds Q => ds.length = n ∧ ws { nx := fun _ => False, rt := Q } (startG N ds)
theorem spN_pure {n : Nat} {N : List Str} {ts : TS} {ws : WS} (h : RS K .nw ts ws) {vs : List V} {H : Hp} {Q : VK} {E : XK} (hs : spD K .nw (cN n N.length ws) vs H Q E) : ts { nx := fun _ H' => Q .non H', rt := Q } (L2.start N vs) H := by
  obtain ⟨pa, F, ds, Qd, b, r, ⟨hl, w⟩, k⟩ := hs
  refine h b.po (Gw.refl _ _ _) (start_ok b r) w ⟨fun F' ρ σ H' g S q => q.elim, fun d v F' H' g b' r q => k d v F' H' g b' r q, fun _ _ _ _ _ _ q => q.elim, fun _ _ _ _ _ _ q => q.elim⟩
theorem spD_len {n N : Nat} {m : Md} {ws : WS} {vs : List V} {H : Hp} {Q : VK} {E : XK} (hs : spD K m (cD n N ws) vs H Q E) : vs.length = n := by
  obtain ⟨pa, F, ds, Qd, b, r, ⟨hl, w⟩, k⟩ := hs
  rw [r.len, hl]
theorem spN_len {n N : Nat} {m : Md} {ws : WS} {vs : List V} {H : Hp} {Q : VK} {E : XK} (hs : spD K m (cN n N ws) vs H Q E) : vs.length = n := by
  obtain ⟨pa, F, ds, Qd, b, r, ⟨hl, w⟩, k⟩ := hs
  rw [r.len, hl]
end
end TP
/-! PL -/
set_option maxHeartbeats 4000000
namespace TP
open PySem PySem.Spec PyProof.Rows L2
local macro_rules | `(tactic| walk_at "s1") => `(tactic| first | refine ⟨_, rfl, ?_⟩ | refine ⟨_, _, rfl, rfl, ?_⟩ | refine ⟨rfl, ?_⟩ | refine iteT ?_ | refine iteF ?_)
local macro_rules | `(tactic| walk_at "st") => `(tactic| (repeat (walk_at "s1")))
local macro_rules | `(tactic| walk_at "sq") => `(tactic| first | assumption | exact sqL (by assumption) | exact sqT (by assumption) | (refine Ex.seq (by assumption) ?_; walk_at "sq") | (refine Ex.tup (by assumption) ?_; walk_at "sq"))
local macro_rules | `(tactic| walk_at "at") => `(tactic| first | assumption | (refine (show Ex _ _ by assumption) _ _ ?_; walk_at "at"))
local macro_rules | `(tactic| walk_at "sl") => `(tactic| ((try dsimp only); refine tSeqI ?_; (try dsimp only)))

variable {K : Fr}
theorem cut_ints (ns : List Int) (lo hi : Option Int) : ∃ ms : List Int, cutV (ns.map V.int) lo hi = ms.map V.int := by
  unfold cutV
  rw [← List.map_drop, ← List.map_take]
  exact ⟨_, rfl⟩
theorem ltd {j : Int} (h : decide (0 < j) = true) : 0 < j := of_decide_eq_true h
/-! ### the pot -/
def sp_law_pot (K : Fr) : Sp := fun vs H Q _ => ∃ (a : Addr) (ns : List Int) (k : Nat), vs = [.ref a, .int k] ∧ SqL K H a (ns.map V.int) ∧ ∀ p H', H p = none → Ex H H' → Po p H' → Q (.ref p) H'
theorem len_law_pot (vs : List V) (H : Hp) (Q : VK) (E : XK) (h : sp_law_pot K vs H Q E) : vs.length = 2 := by obtain ⟨_, _, _, rfl, _⟩ := h; rfl
def t_law_pot (K : Fr) : TS := (tSeq (tAsg (tIf (tTest (tOp rLtI (tVar 1) (tCB (rLenA K) (tCons (tVar 0) tNil)))) (tCB (rAbs) (tCons (tOp (rIxL K) (tVar 0) (tVar 1)) tNil)) (tOp rAddI (tOp rAddI (tOp rMulI (tC (.int 107)) (tVar 1)) (tC (.int 53))) (tOp rModI (tCB (rAbs) (tCons (tCB (rSum K) (tCons (tSl (rSlL K) (tVar 0) tNoPart (tPart (tC (.int 1)))) tNil)) tNil)) (tC (.int 1000003))))) (gName 2)) (tRet (tLst (tCons (tCB (rMax2) (tCons (tC (.int 0)) (tCons (tOp rSubI (tVar 2) (tOp rPowI (tC (.int 10)) (tC (.int 18)))) tNil))) (tCons (tOp rAddI (tOp rModI (tCB (rIntOf) (tCons (tOp rAddI (tOp rAddI (tOp rMulI (tOp rModI (tCB (rIntOf) (tCons (tVar 2) tNil)) (tC (.int 2147483549))) (tC (.int 40471))) (tOp rMulI (tC (.int 7127)) (tVar 1))) (tC (.int 89))) tNil)) (tC (.int 2147483563))) (tC (.int 1))) tNil)))))
theorem pure_law_pot (vs : List V) (H : Hp) (Q : VK) (E : XK) (h : sp_law_pot K vs H Q E) : t_law_pot K { nx := fun _ H' => Q .non H', rt := Q } (start ["_law_script", "_law_k", "_law_cell"] vs) H := by
  obtain ⟨a, ns, k, rfl, hs, q⟩ := h
  refine tSeqI ?_
  dsimp only
  have fin : ∀ (cell : Int) (H1 : Hp), Ex H H1 → (tRet (tLst (tCons (tCB (rMax2) (tCons (tC (.int 0)) (tCons (tOp rSubI (tVar 2) (tOp rPowI (tC (.int 10)) (tC (.int 18)))) tNil))) (tCons (tOp rAddI (tOp rModI (tCB (rIntOf) (tCons (tOp rAddI (tOp rAddI (tOp rMulI (tOp rModI (tCB (rIntOf) (tCons (tVar 2) tNil)) (tC (.int 2147483549))) (tC (.int 40471))) (tOp rMulI (tC (.int 7127)) (tVar 1))) (tC (.int 89))) tNil)) (tC (.int 2147483563))) (tC (.int 1))) tNil)))) { nx := fun _ H' => Q .non H', rt := Q } [some (.ref a), some (.int (k : Nat)), some (.int cell)] H1 := fun cell H1 e1 => by
    refine ⟨_, rfl, _, _, rfl, rfl, ⟨by decide, by decide, by decide⟩, _, _, rfl, rfl, _, _, rfl, _, rfl, .inl ⟨_, rfl, _, _, rfl, rfl, ltd rfl, _, _, rfl, rfl, .inr ⟨by decide, by decide⟩, _, rfl, _, _, rfl, rfl, .inl ⟨by decide, by decide⟩, _, _, rfl, rfl, _, _, rfl, rfl, .inl ⟨_, rfl, _, _, rfl, rfl, ltd rfl, _, _, rfl, rfl, two_ok, ?_⟩⟩⟩
    intro p n2; generalize E_ : upd _ p _ = H2; have e2 := genE E_ n2; have h2 := genS E_; clear E_
    refine q p H2 (Ex.back e1 n2) (Ex.trans e1 e2) ⟨_, _, h2, ?_, ?_, ?_⟩
    · split <;> omega
    · omega
    · omega
  refine tAsgI ?_
  refine ⟨_, rfl, _, rfl, a, _, rfl, .inl hs, _, _, rfl, rfl, _, rfl, ?_⟩
  rw [List.length_map]
  by_cases c : (k : Int) < (ns.length : Int)
  · rw [decide_eq_true c]
    refine iteT ⟨_, rfl, _, rfl, a, _, _, _, rfl, rfl, hs, at_ints (by omega), _, rfl, fin _ H (Ex.refl H)⟩
  · rw [decide_eq_false c]
    refine iteF ⟨_, rfl, _, _, rfl, rfl, .inl ⟨by decide, by decide⟩, _, _, rfl, rfl, _, rfl, _, rfl, a, _, rfl, hs, ?_⟩
    intro l n1; generalize E_ : upd _ l _ = H1; have e1 := genE E_ n1; have h1 := genS E_; clear E_
    obtain ⟨ms, em⟩ := cut_ints ns none (some 1)
    rw [em] at h1
    exact ⟨l, ms, rfl, sqL h1, _, rfl, _, _, rfl, rfl, ltd rfl, _, _, rfl, rfl, fin _ H1 e1⟩
/-! ### a draw: any digit -/
def sp_law_draw (K : Fr) : Sp := fun vs H Q _ => ∃ p, ∃ n : Int, vs = [.ref p, .int n] ∧ 1 ≤ n ∧ n < 1073741824 ∧ Po p H ∧ ∀ (d : Int) H', 0 ≤ d → d < n → ExP p H H' → Po p H' → Q (.int d) H'
theorem len_law_draw (vs : List V) (H : Hp) (Q : VK) (E : XK) (h : sp_law_draw K vs H Q E) : vs.length = 2 := by obtain ⟨_, _, rfl, _⟩ := h; rfl
def t_law_draw (K : Fr) : TS := (tSeq (tIfS (tTest (tOp rGtI (tOp (rIxL K) (tVar 0) (tC (.int 0))) (tC (.int 0)))) (tSeq (tAsg (tCB (rDivmod) (tCons (tOp (rIxL K) (tVar 0) (tC (.int 0))) (tCons (tVar 1) tNil))) (gTup K 2 (gCons (gSub (tVar 0) (tC (.int 0)) rSetL) (gCons (gName 2) gNil)))) (tRet (tVar 2))) tNext) (tSeq (tAsg (tOp rModI (tCB (rIntOf) (tCons (tOp rAddI (tOp rMulI (tOp (rIxL K) (tVar 0) (tC (.int 1))) (tC (.int 40692))) (tC (.int 7151))) tNil)) (tC (.int 2147483587))) (gSub (tVar 0) (tC (.int 1)) rSetL)) (tRet (tOp rModI (tCB (rIntOf) (tCons (tOp rFdivI (tOp rModI (tCB (rIntOf) (tCons (tOp rMulI (tOp (rIxL K) (tVar 0) (tC (.int 1))) (tOp (rIxL K) (tVar 0) (tC (.int 1)))) tNil)) (tC (.int 2147483629))) (tC (.int 19))) tNil)) (tVar 1)))))
theorem pure_law_draw (vs : List V) (H : Hp) (Q : VK) (E : XK) (h : sp_law_draw K vs H Q E) : t_law_draw K { nx := fun _ H' => Q .non H', rt := Q } (start ["_law_pot_here", "_law_sides", "_law_digit"] vs) H := by
  obtain ⟨p, n, rfl, n1, n2, ⟨m, s, hp, hm, hs, hs2⟩, q⟩ := h
  refine tSeqI ?_
  dsimp only
  refine ⟨_, rfl, p, _, 0, .int m, rfl, rfl, sqL hp, rfl, _, _, rfl, rfl, _, rfl, ?_⟩
  by_cases c : 0 < m
  · rw [decide_eq_true c]
    refine iteT ⟨_, rfl, p, _, 0, .int m, rfl, rfl, sqL hp, rfl, _, rfl, _, _, rfl, ⟨by omega, n2⟩, ?_⟩
    intro T nT; generalize E_ : upd _ T _ = H1; have e1 := genE E_ nT; have h1 := genS E_; clear E_
    refine ⟨T, _, rfl, sqT h1, rfl, _, _, rfl, _, rfl, p, _, 0, 0, rfl, rfl, e1 _ _ hp, rfl, _, _, rfl, rfl, ?_⟩
    refine ⟨_, rfl, q (m % n) _ (Int.emod_nonneg _ (by omega)) (Int.emod_lt_of_pos _ (by omega)) ((e1.p (p := p)).trans fun y u ny hy => by rw [upd_ne ny]; exact hy) ⟨m / n, s, upd_same, Int.ediv_nonneg hm (by omega), hs, hs2⟩⟩
  · rw [decide_eq_false c]
    refine iteF ?_
    refine ⟨_, rfl, p, _, 1, .int s, rfl, rfl, sqL hp, rfl, _, _, rfl, rfl, .inl ⟨by omega, by omega⟩, _, _, rfl, rfl, .inl ⟨_, rfl, _, _, rfl, rfl, ltd rfl, _, rfl, p, _, 1, 1, rfl, rfl, hp, rfl, ?_⟩⟩
    have b1 := Int.emod_nonneg (s * 40692 + 7151) (show (2147483587 : Int) ≠ 0 by decide)
    have b2 := Int.emod_lt_of_pos (s * 40692 + 7151) (show (0 : Int) < 2147483587 by decide)
    generalize hv : (s * 40692 + 7151) % 2147483587 = v at b1 b2
    have h2 : (upd H p (.lst ([V.int m, V.int s].set 1 (V.int ((s * 40692 + 7151) % 2147483587))))) p = some (.lst [V.int m, V.int v]) := by rw [upd_same, hv]; rfl
    have e2 : ExP p H (upd H p (.lst ([V.int m, V.int s].set 1 (V.int ((s * 40692 + 7151) % 2147483587))))) := fun y u ny hy => by rw [upd_ne ny]; exact hy
    generalize (upd H p (.lst ([V.int m, V.int s].set 1 (V.int ((s * 40692 + 7151) % 2147483587))))) = H2 at h2 e2
    refine ⟨_, rfl, p, _, 1, .int v, rfl, rfl, sqL h2, rfl, _, rfl, p, _, 1, .int v, rfl, rfl, sqL h2, rfl, _, _, rfl, rfl, .inl ⟨by omega, by omega⟩, .inl ⟨_, rfl, _, _, rfl, rfl, ltd rfl, _, _, rfl, rfl, ⟨by decide, by decide⟩, .inl ⟨_, rfl, _, rfl, _, _, rfl, rfl, (show 0 < n by omega), ?_⟩⟩⟩
    exact q _ H2 (Int.emod_nonneg _ (by omega)) (Int.emod_lt_of_pos _ (by omega)) e2 ⟨m, v, h2, hm, b1, by omega⟩
def sp_law_pick (K : Fr) : Sp := fun vs H Q _ => ∃ p l xs, vs = [.ref p, .ref l] ∧ H l = some (.lst xs) ∧ l ≠ p ∧ xs ≠ [] ∧ xs.length ≤ 1000 ∧ Po p H ∧ ∀ v H', v ∈ xs → ExP p H H' → Po p H' → Q v H'
theorem len_law_pick (vs : List V) (H : Hp) (Q : VK) (E : XK) (h : sp_law_pick K vs H Q E) : vs.length = 2 := by obtain ⟨_, _, _, rfl, _⟩ := h; rfl
def t_law_pick (K : Fr) : TS := (tRet (tOp (rIxL K) (tVar 1) (tCall (sp_law_draw K) [] E0 (tCons (tVar 0) (tCons (tCB (rLenA K) (tCons (tVar 1) tNil)) tNil)))))
theorem pure_law_pick (vs : List V) (H : Hp) (Q : VK) (E : XK) (h : sp_law_pick K vs H Q E) : t_law_pick K { nx := fun _ H' => Q .non H', rt := Q } (start ["_law_pot_here", "_law_some"] vs) H := by
  obtain ⟨p, l, xs, rfl, hl, nl, hn, hz, hP, q⟩ := h
  have h0 : xs.length ≠ 0 := fun e => hn (List.length_eq_zero_iff.mp e)
  refine ⟨_, rfl, _, rfl, _, rfl, l, _, rfl, .inl (sqL hl), p, _, rfl, by omega, by omega, hP, fun d H1 d0 d1 e1 P1 => ?_⟩
  have hd : d.toNat < xs.length := by omega
  refine ⟨l, xs, d, xs[d.toNat], rfl, rfl, sqL (e1 _ _ nl hl), ?_, q _ H1 (List.getElem_mem hd) e1 P1⟩
  have ed : ((d.toNat : Nat) : Int) = d := by omega
  have z : atI xs ((d.toNat : Nat) : Int) = some xs[d.toNat] := atI_nat (List.getElem?_eq_getElem hd)
  rw [ed] at z
  exact z
/-! ### the fields that are drawn -/
def cTA : List Int → TA
  | [] => tNil
  | i :: r => tCons (tC (.int i)) (cTA r)
def pTA : List (Int × List Int) → TA
  | [] => tNil
  | z :: r => tCons (tTup (tCons (tC (.int z.1)) (tCons (tLst (cTA z.2)) tNil))) (pTA r)
theorem cTA_eq {σ : L2.St} {H : Hp} : ∀ (l : List Int) (Q : List V → Hp → Prop), Q (l.map V.int) H → cTA l σ H Q
  | [], Q, h => h
  | i :: r, Q, h => cTA_eq r (fun xs H2 => Q (.int i :: xs) H2) h
/-- a pair as it was laid behind N -/
def PairAt (N H : Hp) (v : V) (z : Int × List Int) : Prop := ∃ t m, v = .ref t ∧ H t = some (.tup [.int z.1, .ref m]) ∧ H m = some (.lst (z.2.map V.int)) ∧ N t = none ∧ N m = none
theorem PairAt.ex {N H H' : Hp} {v : V} {z : Int × List Int} (h : PairAt N H v z) (e : Ex H H') : PairAt N H' v z := by
  obtain ⟨t, m, h1, h2, h3, h4⟩ := h
  exact ⟨t, m, h1, e _ _ h2, e _ _ h3, h4⟩
theorem pairedM {α β : Type} {F G : α → β → Prop} (f : ∀ a b, F a b → G a b) : ∀ {l : List α} {m : List β}, Paired F l m → Paired G l m
  | _, _, .nil => .nil
  | _, _, .cons r t => .cons (f _ _ r) (pairedM f t)
theorem pTA_ok {N : Hp} {σ : L2.St} : ∀ (l : List (Int × List Int)) (H : Hp) (Q : List V → Hp → Prop), Ex N H → (∀ z ∈ l, z.2.length ≤ 1000) → (∀ vs H', Ex H H' → Paired (PairAt N H') vs l → Q vs H') → pTA l σ H Q
  | [], H, Q, _, _, h => h [] H (Ex.refl H) .nil
  | z :: r, H, Q, eN, hz, h => by
    refine cTA_eq z.2 _ ⟨?_, ?_⟩
    · rw [List.length_map]
      exact small_sz (by have := hz z List.mem_cons_self; omega)
    intro m n1; generalize E_ : upd _ m _ = H1; have e1 := genE E_ n1; have h1 := genS E_; clear E_
    refine ⟨by show 2 ≤ sizeLine; decide, ?_⟩
    intro t n2; generalize E_ : upd _ t _ = H2; have e2 := genE E_ n2; have h2 := genS E_; clear E_
    refine pTA_ok (N := N) r H2 _ (Ex.trans eN (Ex.trans e1 e2)) (fun y hy => hz y (List.mem_cons_of_mem _ hy)) fun vs H3 e3 hp => h _ H3 (Ex.trans e1 (Ex.trans e2 e3)) (.cons ⟨t, m, rfl, e3 _ _ h2, e3 _ _ (e2 _ _ h1), Ex.back eN (Ex.back e1 n2), Ex.back eN n1⟩ hp)
def fldsA : List (Int × List Int) := [(2, [1, 1, 1]), (2, [1, 1, 0, 1]), (2, [1, 0, 1, 1]), (2, [1, 1, 0, 0, 1])] ++ [(3, [1, 0, 1]), (3, [2, 1, 1]), (5, [2, 0, 1])]
def fldsB : List (Int × List Int) := [(2, [1, 0, 1, 0, 0, 1]), (2, [1, 1, 0, 0, 0, 0, 1]), (3, [1, 2, 0, 1]), (7, [1, 0, 1])] ++ [(5, [1, 1, 0, 1]), (2, [1, 1, 0, 0, 0, 0, 0, 1]), (3, [2, 1, 0, 0, 1])]
def flds : List (Int × List Int) := fldsA ++ fldsB
def sp_law_field (K : Fr) : Sp := fun vs H Q _ => ∃ p, vs = [.ref p] ∧ Po p H ∧ ∀ z ∈ flds, ∀ t m H', H' t = some (.tup [.int z.1, .ref m]) → H' m = some (.lst (z.2.map V.int)) → m ≠ p → ExP p H H' → Po p H' → Q (.ref t) H'
theorem len_law_field (vs : List V) (H : Hp) (Q : VK) (E : XK) (h : sp_law_field K vs H Q E) : vs.length = 1 := by obtain ⟨_, rfl, _⟩ := h; rfl
def t_law_field (K : Fr) : TS := (tSeq (tAsg (tLst (pTA [(2, [1, 1, 1]), (2, [1, 1, 0, 1]), (2, [1, 0, 1, 1]), (2, [1, 1, 0, 0, 1])])) (gName 1)) (tSeq (tAsg (tOp rCat (tVar 1) (tLst (pTA [(3, [1, 0, 1]), (3, [2, 1, 1]), (5, [2, 0, 1])]))) (gName 1)) (tSeq (tIfS (tTest (tOp rEq (tCall (sp_law_draw K) [] E0 (tCons (tVar 0) (tCons (tC (.int 5)) tNil))) (tC (.int 0)))) (tSeq (tAsg (tLst (pTA [(2, [1, 0, 1, 0, 0, 1]), (2, [1, 1, 0, 0, 0, 0, 1]), (3, [1, 2, 0, 1]), (7, [1, 0, 1])])) (gName 1)) (tAsg (tOp rCat (tVar 1) (tLst (pTA [(5, [1, 1, 0, 1]), (2, [1, 1, 0, 0, 0, 0, 0, 1]), (3, [2, 1, 0, 0, 1])]))) (gName 1))) tNext) (tRet (tCall (sp_law_pick K) [] E0 (tCons (tVar 0) (tCons (tVar 1) tNil)))))))
theorem pairs_app {N H : Hp} : ∀ {vs ws : List V} {l r : List (Int × List Int)}, Paired (PairAt N H) vs l → Paired (PairAt N H) ws r → Paired (PairAt N H) (vs ++ ws) (l ++ r)
  | _, _, _, _, .nil, h => h
  | _, _, _, _, .cons a t, h => .cons a (pairs_app t h)
/-- two lists of pairs, the second one put to the first one -/
theorem twoPairs2 {D : Ends} {σ : L2.St} {N H : Hp} {s0 : Option V} {l r : List (Int × List Int)} (x : V) (eN : Ex N H) (hl : ∀ z ∈ l, z.2.length ≤ 1000) (hr : ∀ z ∈ r, z.2.length ≤ 1000) (nl : l.length ≤ 100) (nr : r.length ≤ 100)
    (h : ∀ a vs H', N a = none → Ex H H' → H' a = some (.lst vs) → Paired (PairAt N H') vs (l ++ r) → D.nx [some x, some (.ref a)] H') :
    tSeq (tAsg (tLst (pTA l)) (gName 1)) (tAsg (tOp rCat (tVar 1) (tLst (pTA r))) (gName 1)) D [some x, s0] H := by
  refine pTA_ok (N := N) l H _ eN hl fun vs H1 e1 hp1 => ?_
  have l1 : vs.length = l.length := Paired.length hp1
  refine ⟨small_sz (by omega), ?_⟩
  intro a n2; generalize E_ : upd _ a _ = H2; have e2 := genE E_ n2; have h2 := genS E_; clear E_
  refine ⟨_, rfl, pTA_ok (N := N) r H2 _ (Ex.trans eN (Ex.trans e1 e2)) hr fun ws H3 e3 hp3 => ?_⟩
  have l3 : ws.length = r.length := Paired.length hp3
  refine ⟨small_sz (by omega), ?_⟩
  intro b n4; generalize E_ : upd _ b _ = H4; have e4 := genE E_ n4; have h4 := genS E_; clear E_
  refine ⟨a, b, vs, ws, rfl, rfl, e4 _ _ (e3 _ _ h2), h4, small_sz (by omega), ?_⟩
  intro c n5; generalize E_ : upd _ c _ = H5; have e5 := genE E_ n5; have h5 := genS E_; clear E_
  have E5 : Ex H H5 := Ex.trans e1 (Ex.trans e2 (Ex.trans e3 (Ex.trans e4 e5)))
  exact h c _ H5 (Ex.back (Ex.trans eN (Ex.trans e1 (Ex.trans e2 (Ex.trans e3 e4)))) n5) E5 h5 (pairs_app (pairedM (fun v z k => k.ex (Ex.trans e2 (Ex.trans e3 (Ex.trans e4 e5)))) hp1) (pairedM (fun v z k => k.ex (Ex.trans e4 e5)) hp3))
theorem twoPairs {D : Ends} {N H : Hp} {s0 : Option V} {l r : List (Int × List Int)} {u : TS} (x : V) (eN : Ex N H) (hl : ∀ z ∈ l, z.2.length ≤ 1000) (hr : ∀ z ∈ r, z.2.length ≤ 1000) (nl : l.length ≤ 100) (nr : r.length ≤ 100)
    (h : ∀ a vs H', N a = none → Ex H H' → H' a = some (.lst vs) → Paired (PairAt N H') vs (l ++ r) → u D [some x, some (.ref a)] H') :
    tSeq (tAsg (tLst (pTA l)) (gName 1)) (tSeq (tAsg (tOp rCat (tVar 1) (tLst (pTA r))) (gName 1)) u) D [some x, s0] H :=
  twoPairs2 (D := { D with nx := u D }) (σ := []) x eN hl hr nl nr h
theorem paired_mem {α β : Type} {F : α → β → Prop} : ∀ {l : List α} {m : List β}, Paired F l m → ∀ {x : α}, x ∈ l → ∃ y ∈ m, F x y
  | _, _, .nil, _, h => by cases h
  | _, _, .cons r t, x, h => by
    rcases List.mem_cons.mp h with rfl | h
    · exact ⟨_, List.mem_cons_self, r⟩
    · obtain ⟨y, h1, h2⟩ := paired_mem t h
      exact ⟨y, List.mem_cons_of_mem _ h1, h2⟩
theorem pure_law_field (vs : List V) (H : Hp) (Q : VK) (E : XK) (h : sp_law_field K vs H Q E) : t_law_field K { nx := fun _ H' => Q .non H', rt := Q } (start ["_law_pot_here", "_law_kept"] vs) H := by
  obtain ⟨p, rfl, hP, q⟩ := h
  have fin : ∀ (N : Hp) (l : List (Int × List Int)) (a : Addr) (ws : List V) (H1 H2 : Hp), Po p N → ExP p H N → (∀ z ∈ l, z ∈ flds) → l ≠ [] → l.length ≤ 1000 → N a = none → Ex N H1 → ExP p H1 H2 → Po p H2 → H1 a = some (.lst ws) → Paired (PairAt N H1) ws l →
      (tRet (tCall (sp_law_pick K) [] E0 (tCons (tVar 0) (tCons (tVar 1) tNil)))) { nx := fun _ H' => Q .non H', rt := Q } [some (.ref p), some (.ref a)] H2 := fun N l a ws H1 H2 PN eN hl hn hz na e1 e2 P2 ha hp => by
    have lw : ws.length = l.length := Paired.length hp
    refine ⟨_, rfl, _, rfl, p, a, ws, rfl, e2 _ _ (PN.ne na) ha, PN.ne na, fun e => hn (List.length_eq_zero_iff.mp (by rw [← lw, e]; rfl)), by omega, P2, fun v H3 hv e3 P3 => ?_⟩
    obtain ⟨z, hz, t, m, rfl, h1, h2, h3, h4⟩ := paired_mem hp hv
    exact q z (hl z hz) t m H3 (e3 _ _ (PN.ne h3) (e2 _ _ (PN.ne h3) h1)) (e3 _ _ (PN.ne h4) (e2 _ _ (PN.ne h4) h2)) (PN.ne h4) (((eN.trans (Ex.p (p := p) e1)).trans e2).trans e3) P3
  refine twoPairs (N := H) (V.ref p) (Ex.refl H) (by decide) (by decide) (by decide) (by decide) fun a ws H1 na e1 ha hp => ?_
  refine tSeqI ⟨_, rfl, p, 5, rfl, by decide, by decide, hP.ex e1, fun d H2 d0 d1 e2 P2 => ?_⟩
  refine ⟨rfl, _, rfl, ?_⟩
  rw [dec_int0]
  by_cases c : d = 0
  · rw [decide_eq_true c]
    refine iteT ?_
    have eN : ExP p H H2 := (Ex.p (p := p) e1).trans e2
    refine twoPairs2 (N := H2) (σ := []) (V.ref p) (Ex.refl H2) (by decide) (by decide) (by decide) (by decide) fun b us H3 nb e3 hb hq => ?_
    exact fin H2 fldsB b us H3 H3 P2 eN (fun z hz => List.mem_append_right _ hz) (by decide) (by decide) nb e3 (ExP.refl p H3) (P2.ex e3) hb hq
  · rw [decide_eq_false c]
    exact iteF (fin H fldsA a ws H1 H2 hP (ExP.refl p H) (fun z hz => List.mem_append_left _ hz) (by decide) (by decide) na e1 e2 P2 ha hp)
/-! ### this law's own figures -/
def sp_law_figures (K : Fr) : Sp := fun vs H Q _ => ∃ (p : Int) (m : Addr) (md : List Int) (x : Int), vs = [.int p, .ref m, .int x] ∧ (2 ≤ p ∧ p ≤ 7) ∧ SqL K H m (md.map V.int) ∧ 1 ≤ md.length ∧ md.length ≤ 100 ∧ Evl.RetL ((figs p (md.length - 1) x).map V.int) H Q
def t_law_figures (K : Fr) : TS := (tSeq (tPar 3 4 (tCons (tLst tNil) (tCons (tVar 2) tNil))) (tSeq (tFor (iRng1 (tCons (tOp rSubI (tCB (rLenA K) (tCons (tVar 1) tNil)) (tC (.int 1))) tNil)) (gName 5) (tSeq (tDrop (tBM K "list" rAppend (tVar 3) (tCons (tOp rSubI (tVar 4) (tOp rMulI (tOp rFdivI (tVar 4) (tVar 0)) (tVar 0))) tNil))) (tAsg (tOp rFdivI (tVar 4) (tVar 0)) (gName 4)))) (tRet (tVar 3))))
theorem emod_as {x p : Int} : x - x / p * p = x % p := by
  have := Int.mul_ediv_add_emod x p
  rw [Int.mul_comm] at this
  omega
def hornP (p : Int) : List Int → Int
  | [] => 0
  | f :: r => hornP p r * p + f
def sp_law_told (K : Fr) : Sp := fun vs H Q _ => ∃ (p : Int) (l : Addr) (fs : List Int), vs = [.int p, .ref l] ∧ (2 ≤ p ∧ p ≤ 7) ∧ SqL K H l (fs.map V.int) ∧ Evl.RetV (.int (hornP p fs)) H Q
def t_law_told (K : Fr) : TS := (tSeq (tAsg (tC (.int 0)) (gName 2)) (tSeq (tFor (iList K (tRevL K (tVar 1))) (gName 3) (tAsg (tOp rAddI (tOp rMulI (tVar 2) (tVar 0)) (tVar 3)) (gName 2))) (tRet (tVar 2))))
end TP
/-! PT -/
set_option maxHeartbeats 4000000
namespace TP
open PySem PySem.Spec PyProof.Rows L2
local macro_rules | `(tactic| walk_at "s1") => `(tactic| first | refine ⟨_, rfl, ?_⟩ | refine ⟨_, _, rfl, rfl, ?_⟩ | refine ⟨rfl, ?_⟩ | refine iteT ?_ | refine iteF ?_)
local macro_rules | `(tactic| walk_at "st") => `(tactic| (repeat (walk_at "s1")))
local macro_rules | `(tactic| walk_at "sq") => `(tactic| first | assumption | exact sqL (by assumption) | exact sqT (by assumption) | (refine Ex.seq (by assumption) ?_; walk_at "sq") | (refine Ex.tup (by assumption) ?_; walk_at "sq"))
local macro_rules | `(tactic| walk_at "at") => `(tactic| first | assumption | (refine (show Ex _ _ by assumption) _ _ ?_; walk_at "at"))
local macro_rules | `(tactic| walk_at "sl") => `(tactic| ((try dsimp only); refine tSeqI ?_; (try dsimp only)))

variable {K : Fr}
/-! ### this law's own products -/
def tRow (x : Int) (i : Nat) : List Int → Nat → List Int → List Int
  | [], _, l => l
  | y :: ys, j, l => tRow x i ys (j + 1) (l.set (i + j) (l.getD (i + j) 0 + x * y))
def tAll (ys : List Int) : List Int → Nat → List Int → List Int
  | [], _, l => l
  | x :: xs, i, l => tAll ys xs (i + 1) (tRow x i ys 0 l)
def rRow (pl n : Nat) : List Int → Nat → List Int → List Int
  | [], _, l => l
  | m :: ms, j, l => rRow pl n ms (j + 1) (l.set (pl - n + j) (l.getD (pl - n + j) 0 - l.getD pl 0 * m))
def rAll (n : Nat) (md : List Int) : Nat → List Int → List Int
  | 0, l => l
  | k + 1, l => rAll n md k ((rRow (n + k) n (md.take n) 0 l).set (n + k) 0)
def ltimes (p : Int) (md : List Int) (x y : Int) : Int :=
  hornP p (((rAll (md.length - 1) md (md.length - 1 - 1) (tAll (figs p (md.length - 1) y) (figs p (md.length - 1) x) 0 (List.replicate (2 * (md.length - 1) - 1) 0))).take (md.length - 1)).map (· % p))
theorem tRow_nil {x : Int} {i j : Nat} {l : List Int} : tRow x i [] j l = l := rfl
theorem tRow_cons {x y : Int} {i j : Nat} {ys l : List Int} : tRow x i (y :: ys) j l = tRow x i ys (j + 1) (l.set (i + j) (l.getD (i + j) 0 + x * y)) := rfl
theorem tAll_nil {ys : List Int} {i : Nat} {l : List Int} : tAll ys [] i l = l := rfl
theorem tAll_cons {x : Int} {xs ys : List Int} {i : Nat} {l : List Int} : tAll ys (x :: xs) i l = tAll ys xs (i + 1) (tRow x i ys 0 l) := rfl
theorem rRow_nil {pl n j : Nat} {l : List Int} : rRow pl n [] j l = l := rfl
theorem rRow_cons {pl n j : Nat} {m : Int} {ms l : List Int} : rRow pl n (m :: ms) j l = rRow pl n ms (j + 1) (l.set (pl - n + j) (l.getD (pl - n + j) 0 - l.getD pl 0 * m)) := rfl
theorem rAll_zero {n : Nat} {md l : List Int} : rAll n md 0 l = l := rfl
theorem rAll_succ {n k : Nat} {md l : List Int} : rAll n md (k + 1) l = rAll n md k ((rRow (n + k) n (md.take n) 0 l).set (n + k) 0) := rfl
theorem getD_take {md : List Int} {n j : Nat} (h : j < n) : (md.take n).getD j 0 = md.getD j 0 := by
  rw [List.getD_eq_getElem?_getD, List.getD_eq_getElem?_getD, List.getElem?_take_of_lt h]
def sp_law_times (K : Fr) : Sp := fun vs H Q _ => ∃ (p : Int) (m : Addr) (md : List Int) (x y : Int), vs = [.int p, .ref m, .int x, .int y] ∧ (2 ≤ p ∧ p ≤ 7) ∧ SqL K H m (md.map V.int) ∧ 2 ≤ md.length ∧ md.length ≤ 100 ∧ Cf p md ∧ Evl.RetV (.int (ltimes p md x y)) H Q
theorem len_law_times (vs : List V) (H : Hp) (Q : VK) (E : XK) (h : sp_law_times K vs H Q E) : vs.length = 4 := by obtain ⟨_, _, _, _, _, rfl, _⟩ := h; rfl
def t_law_times (K : Fr) : TS := (tSeq (tPar 4 5 (tCons (tCall (sp_law_figures K) [] E0 (tCons (tVar 0) (tCons (tVar 1) (tCons (tVar 2) tNil)))) (tCons (tCall (sp_law_figures K) [] E0 (tCons (tVar 0) (tCons (tVar 1) (tCons (tVar 3) tNil)))) tNil))) (tSeq (tPar 6 7 (tCons (tOp rRep (tLst (tCons (tC (.int 0)) tNil)) (tOp rSubI (tOp rMulI (tC (.int 2)) (tCB (rLenA K) (tCons (tVar 4) tNil))) (tC (.int 1)))) (tCons (tCB (rLenA K) (tCons (tVar 4) tNil)) tNil))) (tSeq (tFor (iEnum K (tCons (tVar 4) tNil)) (gTup K 2 (gCons (gName 8) (gCons (gName 9) gNil))) (tFor (iEnum K (tCons (tVar 5) tNil)) (gTup K 2 (gCons (gName 10) (gCons (gName 11) gNil))) (tAsg (tOp rAddI (tOp (rIxL K) (tVar 6) (tOp rAddI (tVar 8) (tVar 10))) (tOp rMulI (tVar 9) (tVar 11))) (gSub (tVar 6) (tOp rAddI (tVar 8) (tVar 10)) rSetL)))) (tSeq (tFor (iRng3 (tCons (tOp rSubI (tCB (rLenA K) (tCons (tVar 6) tNil)) (tC (.int 1))) (tCons (tOp rSubI (tVar 7) (tC (.int 1))) (tCons (tUn rNeg (tC (.int 1))) tNil)))) (gName 12) (tSeq (tFor (iRng1 (tCons (tVar 7) tNil)) (gName 8) (tAsg (tOp rSubI (tOp (rIxL K) (tVar 6) (tOp rAddI (tOp rSubI (tVar 12) (tVar 7)) (tVar 8))) (tOp rMulI (tOp (rIxL K) (tVar 6) (tVar 12)) (tOp (rIxL K) (tVar 1) (tVar 8)))) (gSub (tVar 6) (tOp rAddI (tOp rSubI (tVar 12) (tVar 7)) (tVar 8)) rSetL))) (tAsg (tC (.int 0)) (gSub (tVar 6) (tVar 12) rSetL)))) (tRet (tCall (sp_law_told K) [] E0 (tCons (tVar 0) (tCons (tLc (iList K (tSl (rSlL K) (tVar 6) tNoPart (tPart (tVar 7)))) (gName 9) tYes (tOp rSubI (tVar 9) (tOp rMulI (tOp rFdivI (tVar 9) (tVar 0)) (tVar 0))) [9]) tNil))))))))
theorem pure_law_times (vs : List V) (H : Hp) (Q : VK) (E : XK) (h : sp_law_times K vs H Q E) : t_law_times K { nx := fun _ H' => Q .non H', rt := Q } (start ["_law_prime", "_law_modulus", "_law_one", "_law_other", "_law_near", "_law_far", "_law_found", "_law_many", "_law_at", "_law_here", "_law_to", "_law_there", "_law_place"] vs) H := by
  obtain ⟨p, m, md, x, y, rfl, hp, hm, hm1, hm2, cm, q⟩ := h
  refine ⟨_, rfl, _, rfl, _, rfl, p, m, md, x, rfl, hp, hm, by omega, hm2, fun l1 H1 n1 e1 h1 => ?_⟩
  refine ⟨_, rfl, _, rfl, _, rfl, p, m, md, y, rfl, hp, Ex.seq e1 hm, by omega, hm2, fun l2 H2 n2 e2 h2 => ?_⟩
  refine ⟨_, _, rfl, ?_⟩
  unfold ltimes at q
  generalize hn : md.length - 1 = n at q h1 h2
  have hml : md.length = n + 1 := by omega
  have h1' := e2 _ _ h1
  have hxs := figs_len p n x
  have hys := figs_len p n y
  have cx := figs_cf (p := p) (by omega) n x
  generalize figs p n x = xs at q h1 h1' hxs cx
  generalize figs p n y = ys at q h2 hys
  refine ⟨by decide, ?_⟩
  intro z n3; generalize E_ : upd _ z _ = H3; have e3 := genE E_ n3; have h3 := genS E_; clear E_
  refine ⟨_, rfl, l1, _, rfl, .inl (sqL (e3 _ _ h1')), ?_⟩
  rw [List.length_map, hxs]
  refine ⟨_, _, rfl, rfl, .inl ⟨by decide, by decide⟩, _, _, rfl, rfl, z, _, _, rfl, rfl, h3, by omega, by omega, small_sz (by simp; omega), ?_⟩
  have eK : ((2 : Int) * (n : Int) - 1).toNat = 2 * n - 1 := by omega
  rw [eK, rep_ints]
  intro lf n4; generalize E_ : upd _ lf _ = H4; have e4 := genE E_ n4; have h4 := genS E_; clear E_
  refine ⟨_, rfl, l1, _, rfl, .inl (sqL (e4 _ _ (e3 _ _ h1'))), ?_⟩
  rw [List.length_map, hxs]
  refine ⟨_, _, rfl, ?_⟩
  have E3 : Ex H H3 := Ex.trans e1 (Ex.trans e2 e3)
  have hm3 := Ex.seq E3 hm
  have h13 := e3 _ _ h1'
  have h23 := e3 _ _ h2
  walk_at "sl"
  refine forEnum (a := l1) (xs := xs.map V.int) (fun i σ H' => ∃ z8 z9 z10 z11 s, σ = [some (.int p), some (.ref m), some (.int x), some (.int y), some (.ref l1), some (.ref l2), some (.ref lf), some (.int (n : Nat)), z8, z9, z10, z11, none] ∧ Ex H3 H' ∧ H' lf = some (.lst (s.map V.int)) ∧ s.length = 2 * n - 1 ∧ tAll ys (xs.drop i) i s = tAll ys xs 0 (List.replicate (2 * n - 1) 0))
    (fun Q q => ⟨_, rfl, q⟩) ⟨none, none, none, none, _, rfl, e4, h4, by simp, rfl⟩ (fun i σ H' _ ⟨_, _, _, _, _, _, e, _⟩ => sqL (e _ _ h13)) (fun i v σ H' H5 hi gx hP e5 _ => ?_) (fun σ H' hP => ?_)
  · obtain ⟨z8, z9, z10, z11, s, rfl, eH, hl, hs, hF⟩ := hP
    obtain ⟨rfl, hi⟩ := getD_of gx
    rw [drop_get hi, tAll_cons] at hF
    dsimp only
    refine forEnum (a := l2) (xs := ys.map V.int) (fun j σ H' => ∃ y6 y7 s2, σ = [some (.int p), some (.ref m), some (.int x), some (.int y), some (.ref l1), some (.ref l2), some (.ref lf), some (.int (n : Nat)), some (.int (i : Nat)), some (.int (xs.getD i 0)), y6, y7, none] ∧ Ex H3 H' ∧ H' lf = some (.lst (s2.map V.int)) ∧ s2.length = 2 * n - 1 ∧ tRow (xs.getD i 0) i (ys.drop j) j s2 = tRow (xs.getD i 0) i ys 0 s)
      (fun Q q => ⟨_, rfl, q⟩) ⟨z10, z11, s, rfl, Ex.trans eH e5, e5 _ _ hl, hs, rfl⟩ (fun j σ H' _ ⟨_, _, _, _, e, _⟩ => sqL (e _ _ h23)) (fun j v σ H' H6 hj gy hP e6 _ => ?_) (fun σ H' hP => ?_)
    · obtain ⟨z6, z7, s2, rfl, eH2, hl2, hs2, hF2⟩ := hP
      obtain ⟨rfl, hj⟩ := getD_of gy
      rw [drop_get hj, tRow_cons] at hF2
      have hij : i + j < s2.length := by omega
      have eij : (i : Int) + (j : Int) = ((i + j : Nat) : Int) := by omega
      have h6 := e6 _ _ hl2
      refine ⟨_, rfl, _, rfl, _, rfl, _, _, rfl, rfl, lf, _, _, _, rfl, rfl, sqL h6, by rw [eij]; exact at_ints hij, ?_⟩
      refine ⟨_, rfl, _, rfl, _, _, rfl, rfl, .inl (cf_mul hp.2 cx (getD_mem hi)), _, _, rfl, rfl, ?_⟩
      refine ⟨_, rfl, _, rfl, _, rfl, _, _, rfl, rfl, lf, _, _, i + j, rfl, rfl, h6, ixN_of eij (by simpa using hij), ?_⟩
      exact ⟨_, _, _, rfl, Ex.mut (Ex.trans eH2 e6) n4, by rw [upd_same, set_ints], by rw [List.length_set]; exact hs2, hF2⟩
    · obtain ⟨z6, z7, s2, rfl, eH2, hl2, hs2, hF2⟩ := hP
      rw [List.length_map, List.drop_length, tRow_nil] at hF2
      exact ⟨_, _, z6, z7, s2, rfl, eH2, hl2, hs2, by rw [hF2]; exact hF⟩
  · obtain ⟨z8, z9, z10, z11, s, rfl, eH, hl, hs, hF⟩ := hP
    rw [List.length_map, List.drop_length, tAll_nil] at hF
    rw [← hF] at q
    have hn1 : 1 ≤ n := by omega
    walk_at "sl"
    have eN : ((2 * n - 1 : Nat) : Int) - 1 - ((n : Int) - 1) = ((n - 1 : Nat) : Int) := by omega
    refine forDown (lo := ((2 * n - 1 : Nat) : Int) - 1) (hi := (n : Int) - 1) (fun i σ H' => ∃ z8 z9 z10 z11 z12 s2, σ = [some (.int p), some (.ref m), some (.int x), some (.int y), some (.ref l1), some (.ref l2), some (.ref lf), some (.int (n : Nat)), z8, z9, z10, z11, z12] ∧ Ex H3 H' ∧ H' lf = some (.lst (s2.map V.int)) ∧ s2.length = 2 * n - 1 ∧ rAll n md (n - 1 - i) s2 = rAll n md (n - 1) s)
      (fun Q q => ⟨_, rfl, lf, _, rfl, .inl (sqL hl), _, _, rfl, rfl, _, rfl, _, _, rfl, rfl, _, rfl, by rw [List.length_map, hs]; exact q⟩) (by omega) ⟨z8, z9, z10, z11, none, s, rfl, eH, hl, hs, rfl⟩ (fun i σ H' hi hP => ?_) (fun σ H' hP => ?_)
    · obtain ⟨y8, y9, y10, y11, y12, s2, rfl, eH2, hl2, hs2, hF2⟩ := hP
      rw [eN] at hi
      have hi' : i < n - 1 := by omega
      have ek : n - 1 - i = (n - 1 - (i + 1)) + 1 := by omega
      rw [ek, rAll_succ] at hF2
      generalize hk : n - 1 - (i + 1) = k at hF2
      have hk2 : n + k < 2 * n - 1 := by omega
      have ep : ((2 * n - 1 : Nat) : Int) - 1 - (i : Int) = ((n + k : Nat) : Int) := by omega
      rw [ep]
      dsimp only
      refine tSeqI ?_
      refine forR1 (n := (n : Int)) (fun j σ H' => ∃ y8 s3, σ = [some (.int p), some (.ref m), some (.int x), some (.int y), some (.ref l1), some (.ref l2), some (.ref lf), some (.int (n : Nat)), y8, y9, y10, y11, some (.int ((n + k : Nat) : Int))] ∧ Ex H3 H' ∧ H' lf = some (.lst (s3.map V.int)) ∧ s3.length = 2 * n - 1 ∧ rRow (n + k) n ((md.take n).drop j) j s3 = rRow (n + k) n (md.take n) 0 s2)
        (fun Q q => ⟨_, rfl, q⟩) (by omega) ⟨y8, s2, rfl, eH2, hl2, hs2, rfl⟩ (fun j σ H' hj hP => ?_) (fun σ H' hP => ?_)
      · obtain ⟨w8, s3, rfl, eH3, hl3, hs3, hF3⟩ := hP
        have hj' : j < n := by omega
        have hjt : j < (md.take n).length := by rw [List.length_take]; omega
        rw [drop_get hjt, rRow_cons, getD_take hj'] at hF3
        have ejk : ((n + k : Nat) : Int) - (n : Int) + (j : Int) = ((n + k - n + j : Nat) : Int) := by omega
        have hjk : n + k - n + j < s3.length := by omega
        have hmj : j < md.length := by omega
        refine ⟨_, rfl, _, rfl, _, rfl, _, _, rfl, rfl, _, rfl, _, _, rfl, rfl, lf, _, _, _, rfl, rfl, sqL hl3, by rw [ejk]; exact at_ints hjk, ?_⟩
        refine ⟨_, rfl, _, rfl, lf, _, _, _, rfl, rfl, sqL hl3, at_ints (by omega), _, rfl, _, rfl, m, _, _, _, rfl, rfl, Ex.seq eH3 hm3, at_ints hmj, _, _, rfl, rfl, .inr (cf_mul hp.2 cm (getD_mem hmj)), _, _, rfl, rfl, ?_⟩
        refine ⟨_, rfl, _, rfl, _, rfl, _, _, rfl, rfl, _, rfl, _, _, rfl, rfl, lf, _, _, n + k - n + j, rfl, rfl, hl3, ixN_of ejk (by simpa using hjk), ?_⟩
        exact ⟨_, _, rfl, Ex.mut eH3 n4, by rw [upd_same, set_ints], by rw [List.length_set]; exact hs3, hF3⟩
      · obtain ⟨w8, s3, rfl, eH3, hl3, hs3, hF3⟩ := hP
        have ed : ((n : Int).toNat) = n := by omega
        have hdr : (md.take n).drop n = [] := by rw [List.drop_eq_nil_iff, List.length_take]; omega
        rw [ed, hdr, rRow_nil] at hF3
        rw [← hF3] at hF2
        have hnk : n + k < s3.length := by omega
        refine ⟨_, rfl, _, rfl, lf, _, _, n + k, rfl, rfl, hl3, ixN_of rfl (by simpa using hnk), ?_⟩
        exact ⟨w8, y9, y10, y11, _, _, rfl, Ex.mut eH3 n4, by rw [upd_same, set_ints], by rw [List.length_set]; exact hs3, hF2⟩
    · obtain ⟨y8, y9, y10, y11, y12, s2, rfl, eH2, hl2, hs2, hF2⟩ := hP
      have e0 : n - 1 - (((2 * n - 1 : Nat) : Int) - 1 - ((n : Int) - 1)).toNat = 0 := by omega
      rw [e0, rAll_zero] at hF2
      rw [← hF2] at q
      refine ⟨_, rfl, _, rfl, _, rfl, _, rfl, lf, _, rfl, sqL hl2, ?_⟩
      rw [cut_to _ _ (by rw [List.length_map]; omega), ← List.map_take]
      intro ls n7; generalize E_ : upd _ ls _ = H7; have e7 := genE E_ n7; have h7 := genS E_; clear E_
      refine ⟨ls, rfl, ⟨_, sqL h7⟩, fun D nD => lc_list (xs := (s2.take n).map V.int) (fun i H' => Ex H7 H' ∧ H' D = some (.lst (((s2.take n).take i).map fun v => V.int (v % p)))) ⟨Ex.new nD, upd_same⟩ (fun i H' _ p => p.1.seq (sqL h7)) (fun i v H' gi hP => ⟨rfl, ?_⟩) (fun H' hP => ?_)⟩
      · obtain ⟨rfl, hi⟩ := getD_of gi
        refine lcTurn (v := .int ((s2.take n).getD i 0 % p)) (b := true) nD hP.1 hP.2 ?_ wvYes (fun _ => ?_) (fun H' => Ex H7 H' ∧ H' D = some (.lst (((s2.take n).take (i + 1)).map fun v => V.int (v % p)))) (fun H2 e2' h2' => ⟨e2', ?_⟩)
        · rw [List.length_map, List.length_take, List.length_take]
          have : 100000 < sizeLine := by decide
          omega
        · intro H8 e8 Q8 q8
          refine ⟨_, rfl, _, rfl, _, rfl, _, _, rfl, rfl, ⟨by omega, by omega⟩, _, rfl, _, _, rfl, rfl, .inr (by omega), _, _, rfl, rfl, ?_⟩
          show Q8 (V.int ((s2.take n).getD i 0 - (s2.take n).getD i 0 / p * p)) H8
          rw [emod_as]
          exact q8 H8 (Ex.refl _)
        · rw [h2', List.take_add_one, List.getElem?_eq_getElem hi, List.getD_eq_getElem?_getD, List.getElem?_eq_getElem hi, List.map_append]
          rfl
      · have h9 := hP.2
        rw [List.length_map, List.take_length] at h9
        refine ⟨p, D, (s2.take n).map (· % p), rfl, hp, sqL ?_, fun H9 e9 => q H9 (Ex.trans E3 (Ex.trans eH2 (Ex.trans e7 (Ex.trans hP.1 e9))))⟩
        rw [h9, List.map_map]
        rfl
def lpowGo (p : Int) (md : List Int) (x : Int) : Nat → Int → Int
  | 0, f => f
  | n + 1, f => lpowGo p md x n (ltimes p md f x)
def lpow (p : Int) (md : List Int) (x : Int) (n : Nat) : Int := lpowGo p md x n 1
def sp_law_power (K : Fr) : Sp := fun vs H Q _ => ∃ (p : Int) (m : Addr) (md : List Int) (x : Int) (n : Nat), vs = [.int p, .ref m, .int x, .int n] ∧ (2 ≤ p ∧ p ≤ 7) ∧ SqL K H m (md.map V.int) ∧ 2 ≤ md.length ∧ md.length ≤ 100 ∧ Cf p md ∧ n ≤ 100000 ∧ Evl.RetV (.int (lpow p md x n)) H Q
def t_law_power (K : Fr) : TS := (tSeq (tAsg (tC (.int 1)) (gName 4)) (tSeq (tFor (iRng1 (tCons (tVar 3) tNil)) (gName 5) (tAsg (tCall (sp_law_times K) [] E0 (tCons (tVar 0) (tCons (tVar 1) (tCons (tVar 4) (tCons (tVar 2) tNil))))) (gName 4))) (tRet (tVar 4))))
end TP
/-! PK -/
set_option maxHeartbeats 4000000
namespace TP
open PySem PySem.Spec PyProof.Rows L2
local macro_rules | `(tactic| walk_at "s1") => `(tactic| first | refine ⟨_, rfl, ?_⟩ | refine ⟨_, _, rfl, rfl, ?_⟩ | refine ⟨rfl, ?_⟩ | refine iteT ?_ | refine iteF ?_)
local macro_rules | `(tactic| walk_at "st") => `(tactic| (repeat (walk_at "s1")))
local macro_rules | `(tactic| walk_at "sq") => `(tactic| first | assumption | exact sqL (by assumption) | exact sqT (by assumption) | (refine Ex.seq (by assumption) ?_; walk_at "sq") | (refine Ex.tup (by assumption) ?_; walk_at "sq"))
local macro_rules | `(tactic| walk_at "at") => `(tactic| first | assumption | (refine (show Ex _ _ by assumption) _ _ ?_; walk_at "at"))
local macro_rules | `(tactic| walk_at "sl") => `(tactic| ((try dsimp only); refine tSeqI ?_; (try dsimp only)))

/-! # Powers and turns by places in the row of powers -/
variable {F : FD}
theorem powF_cong (F : FD) {m n : Nat} (h : m % F.pows.length = n % F.pows.length) : powF F m = powF F n := by unfold powF; rw [h]
theorem lg_powF (o : F.Ok) (n : Nat) : lgF F (powF F n) = n % F.pows.length := by
  have h := Nat.mod_lt n o.pos
  have hm := powF_in o n
  have h1 := o.ix hm
  have h2 : F.pows[n % F.pows.length]? = some (powF F n) := by
    unfold powF
    rw [List.getD_eq_getElem?_getD, List.getElem?_eq_getElem h]; rfl
  exact (List.getElem?_inj (List.idxOf_lt_length_of_mem hm) o.nd).mp (h1.trans h2.symm)
theorem powF_lg (o : F.Ok) {x : Int} (hx : InF F x) (n : x ≠ 0) : powF F (lgF F x) = x := by
  have h1 := o.ix (hx.mem o n)
  unfold powF
  rw [Nat.mod_eq_of_lt (lgF_lt o hx n), List.getD_eq_getElem?_getD]
  unfold lgF
  rw [h1]; rfl
theorem powF_ne (o : F.Ok) (n : Nat) : powF F n ≠ 0 := by
  have := o.low _ (powF_in o n)
  omega
theorem powF_zero (o : F.Ok) : powF F 0 = 1 := by
  unfold powF
  rw [Nat.zero_mod, List.getD_eq_getElem?_getD, o.fst]; rfl
theorem raisF_ne (o : F.Ok) {x : Int} (n : x ≠ 0) (m : Nat) : raisF F x m = powF F (lgF F x * m) := by
  unfold raisF
  by_cases c : m = 0
  · rw [if_pos c, c, Nat.mul_zero, powF_zero o]
  · rw [if_neg c, if_neg n]
theorem raisF_0 (F : FD) (m : Nat) : raisF F 0 m = if m = 0 then 1 else 0 := by
  unfold raisF
  rw [if_pos (rfl : (0 : Int) = 0)]
theorem raisF_1x (o : F.Ok) {x : Int} (hx : InF F x) : raisF F x 1 = x := by
  by_cases n : x = 0
  · rw [n, raisF_0]; rfl
  · rw [raisF_ne o n, Nat.mul_one, powF_lg o hx n]
theorem raisF_one (o : F.Ok) (m : Nat) : raisF F 1 m = 1 := by
  have h : lgF F 1 = 0 := by
    have := lg_powF o 0
    rw [powF_zero o, Nat.zero_mod] at this
    exact this
  rw [raisF_ne o (by decide), h, Nat.zero_mul, powF_zero o]
theorem modmul (a b n : Nat) : (a % n * b) % n = a * b % n := by rw [Nat.mod_mul_mod]
theorem raisF_raisF (o : F.Ok) {x : Int} (a b : Nat) : raisF F (raisF F x a) b = raisF F x (a * b) := by
  by_cases n : x = 0
  · subst n
    rw [raisF_0, raisF_0]
    by_cases ca : a = 0
    · rw [if_pos ca, if_pos (by rw [ca, Nat.zero_mul])]; exact raisF_one o b
    · rw [if_neg ca, raisF_0]
      by_cases cb : b = 0
      · rw [if_pos cb, if_pos (by rw [cb, Nat.mul_zero])]
      · rw [if_neg cb, if_neg (Nat.mul_ne_zero ca cb)]
  · rw [raisF_ne o n, raisF_ne o (powF_ne o _), lg_powF o, raisF_ne o n]
    refine powF_cong F ?_
    rw [modmul, Nat.mul_assoc]
theorem mulF_ne (F : FD) {x y : Int} (hx : x ≠ 0) (hy : y ≠ 0) : mulF F x y = powF F (lgF F x + lgF F y) := by
  unfold mulF
  rw [if_neg hx, if_neg hy]
theorem mulF_0x (F : FD) (y : Int) : mulF F 0 y = 0 := by unfold mulF; rw [if_pos rfl]
theorem mulF_x0 (F : FD) (x : Int) : mulF F x 0 = 0 := by
  unfold mulF
  split
  · rfl
  · rw [if_pos rfl]
theorem raisF_mulF (o : F.Ok) (x y : Int) {m : Nat} (hm : m ≠ 0) : raisF F (mulF F x y) m = mulF F (raisF F x m) (raisF F y m) := by
  by_cases n : x = 0
  · rw [n, mulF_0x, raisF_0, if_neg hm, mulF_0x]
  · by_cases k : y = 0
    · rw [k, mulF_x0, raisF_0, if_neg hm, mulF_x0]
    · rw [mulF_ne F n k, raisF_ne o (powF_ne o _), raisF_ne o n, raisF_ne o k, mulF_ne F (powF_ne o _) (powF_ne o _), lg_powF o, lg_powF o, lg_powF o]
      refine powF_cong F ?_
      rw [modmul, Nat.add_mul, ← Nat.add_mod]
theorem mul_step (o : F.Ok) {x : Int} (hx : InF F x) (h : Nat) : mulF F (raisF F x h) x = raisF F x (h + 1) := by
  by_cases n : x = 0
  · rw [n, mulF_x0, raisF_0]; rfl
  · rw [raisF_ne o n, raisF_ne o n, mulF_ne F (powF_ne o _) n, lg_powF o]
    refine powF_cong F ?_
    rw [Nat.mod_add_mod, Nat.mul_add, Nat.mul_one]
/-! ### turns -/
def tx (F : FD) (k : Int) : Nat := (F.p ^ (k % F.t).toNat).toNat
theorem turnF_eq (F : FD) (x k : Int) : turnF F x k = raisF F x (tx F k) := rfl
theorem p_nat (o : F.Ok) : F.p = ((F.p.toNat : Nat) : Int) := by have := o.two; omega
theorem tx_eq (o : F.Ok) (k : Int) : tx F k = F.p.toNat ^ (k % F.t).toNat := by
  unfold tx
  have h : F.p ^ (k % F.t).toNat = ((F.p.toNat ^ (k % F.t).toNat : Nat) : Int) := by
    rw [Int.natCast_pow, ← p_nat o]
  rw [h]
  rfl
theorem size_nat (o : F.Ok) : F.p.toNat ^ F.t = F.pows.length + 1 := by
  have h1 := o.cnt
  have h2 : F.size = ((F.p.toNat ^ F.t : Nat) : Int) := by
    unfold FD.size
    rw [Int.natCast_pow, ← p_nat o]
  rw [h2] at h1
  omega
theorem tx_ne (o : F.Ok) (k : Int) : tx F k ≠ 0 := by
  rw [tx_eq o]
  have := o.two
  exact Nat.ne_of_gt (Nat.pow_pos (by omega))
theorem pow_t (o : F.Ok) (q r : Nat) : F.p.toNat ^ (F.t * q + r) % F.pows.length = F.p.toNat ^ r % F.pows.length := by
  rw [Nat.pow_add, Nat.pow_mul, size_nat o]
  have h : ∀ q : Nat, (F.pows.length + 1) ^ q % F.pows.length = 1 % F.pows.length := by
    intro q
    rw [Nat.pow_mod, Nat.add_mod_left, ← Nat.pow_mod, Nat.one_pow]
  rw [Nat.mul_mod, h, ← Nat.mul_mod, Nat.one_mul]
theorem tx_add (o : F.Ok) (a b : Int) : (tx F a * tx F b) % F.pows.length = tx F (a + b) % F.pows.length := by
  have ht := o.tb
  have t0 : (F.t : Int) ≠ 0 := by omega
  rw [tx_eq o, tx_eq o, tx_eq o, ← Nat.pow_add]
  have h1 := Int.emod_nonneg a t0
  have h2 := Int.emod_nonneg b t0
  have h3 : (((a + b) % F.t).toNat) = ((a % F.t).toNat + (b % F.t).toNat) % F.t := by
    have h4 := Int.emod_nonneg (a + b) t0
    have e : (a + b) % (F.t : Int) = (((a % F.t).toNat + (b % F.t).toNat : Nat) : Int) % (F.t : Int) := by
      have e1 : (((a % (F.t : Int)).toNat + (b % (F.t : Int)).toNat : Nat) : Int) = a % F.t + b % F.t := by omega
      rw [e1, ← Int.add_emod]
    rw [e]
    omega
  rw [h3]
  have e := Nat.div_add_mod ((a % (F.t : Int)).toNat + (b % (F.t : Int)).toNat) F.t
  rw [← e, pow_t o, e]
theorem turn_turn (o : F.Ok) (x a b : Int) : turnF F (turnF F x a) b = turnF F x (a + b) := by
  rw [turnF_eq, turnF_eq, turnF_eq, raisF_raisF o]
  by_cases n : x = 0
  · rw [n, raisF_0, raisF_0, if_neg (Nat.mul_ne_zero (tx_ne o a) (tx_ne o b)), if_neg (tx_ne o _)]
  · rw [raisF_ne o n, raisF_ne o n]
    refine powF_cong F ?_
    rw [Nat.mul_mod, tx_add o, ← Nat.mul_mod]
theorem turn_mod (F : FD) (x : Int) {a b : Int} (h : a % F.t = b % F.t) : turnF F x a = turnF F x b := by
  unfold turnF
  rw [h]
theorem turn_0 (o : F.Ok) {x : Int} (hx : InF F x) : turnF F x 0 = x := by
  have ht := o.tb
  rw [turnF_eq, tx_eq o]
  have e : ((0 : Int) % F.t).toNat = 0 := by simp
  rw [e, Nat.pow_zero, raisF_1x o hx]
theorem turn_1 (o : F.Ok) (x : Int) : turnF F x 1 = raisF F x F.p.toNat := by
  have ht := o.tb
  rw [turnF_eq, tx_eq o]
  have e : ((1 : Int) % F.t).toNat = 1 := by
    have : (1 : Int) % F.t = 1 := Int.emod_eq_of_lt (by omega) (by omega)
    rw [this]; rfl
  rw [e, Nat.pow_one]
theorem turn_InF (o : F.Ok) (x k : Int) : InF F (turnF F x k) := raisF_InF o _ _
theorem turn_mul (o : F.Ok) (x y k : Int) : turnF F (mulF F x y) k = mulF F (turnF F x k) (turnF F y k) := by
  rw [turnF_eq, turnF_eq, turnF_eq]
  exact raisF_mulF o x y (tx_ne o k)
/-! ### what is asked of a field by numbers alone -/
structure Good (F : FD) : Prop where
  ok : F.Ok
  pw : ∀ x, InF F x → ∀ n : Nat, n ≤ 12 → lpow F.p F.md x n = raisF F x n
  ai : ∀ x y, InF F (addF F x y)
  tn : ∀ x y, InF F x → InF F y → turnF F (addF F x y) 1 = addF F (turnF F x 1) (turnF F y 1)
  fx : ∀ x : Int, 0 ≤ x → x < F.p → turnF F x 1 = x
end TP
/-! PM -/
set_option maxHeartbeats 4000000
namespace TP
open PySem PySem.Spec PyProof.Rows L2
local macro_rules | `(tactic| walk_at "s1") => `(tactic| first | refine ⟨_, rfl, ?_⟩ | refine ⟨_, _, rfl, rfl, ?_⟩ | refine ⟨rfl, ?_⟩ | refine iteT ?_ | refine iteF ?_)
local macro_rules | `(tactic| walk_at "st") => `(tactic| (repeat (walk_at "s1")))
local macro_rules | `(tactic| walk_at "sq") => `(tactic| first | assumption | exact sqL (by assumption) | exact sqT (by assumption) | (refine Ex.seq (by assumption) ?_; walk_at "sq") | (refine Ex.tup (by assumption) ?_; walk_at "sq"))
local macro_rules | `(tactic| walk_at "at") => `(tactic| first | assumption | (refine (show Ex _ _ by assumption) _ _ ?_; walk_at "at"))
local macro_rules | `(tactic| walk_at "sl") => `(tactic| ((try dsimp only); refine tSeqI ?_; (try dsimp only)))

/-! # Numbers by their figures: what is linear in them -/
theorem getD_set (l : List Int) (i j : Nat) (v : Int) : (l.set i v).getD j 0 = if i = j ∧ j < l.length then v else l.getD j 0 := by
  rw [List.getD_eq_getElem?_getD, List.getD_eq_getElem?_getD, List.getElem?_set]
  by_cases h : i = j
  · subst h
    by_cases k : i < l.length
    · simp [k]
    · rw [if_pos rfl, if_neg k, if_neg (fun z => k z.2), List.getElem?_eq_none (by omega)]
  · rw [if_neg h, if_neg (fun z => h z.1)]
theorem figs_horn {p : Int} (hp : 0 < p) : ∀ ds : List Int, Cf p ds → figs p ds.length (hornP p ds) = ds
  | [], _ => rfl
  | d :: r, h => by
    have hd := h d List.mem_cons_self
    have ih := figs_horn hp r fun x hx => h x (List.mem_cons_of_mem _ hx)
    show (hornP p r * p + d) % p :: figs p r.length ((hornP p r * p + d) / p) = d :: r
    have e1 : (hornP p r * p + d) % p = d := by
      rw [Int.mul_comm, Int.mul_add_emod_self_left, Int.emod_eq_of_lt hd.1 hd.2]
    have e2 : (hornP p r * p + d) / p = hornP p r := by
      rw [Int.mul_comm, Int.mul_add_ediv_left _ _ (by omega), Int.ediv_eq_zero_of_lt hd.1 hd.2, Int.add_zero]
    rw [e1, e2, ih]
theorem horn_range {p : Int} (hp : 0 < p) : ∀ ds : List Int, Cf p ds → 0 ≤ hornP p ds ∧ hornP p ds < p ^ ds.length
  | [], _ => ⟨by show (0 : Int) ≤ 0; omega, by show (0 : Int) < p ^ 0; rw [Int.pow_zero]; omega⟩
  | d :: r, h => by
    have hd := h d List.mem_cons_self
    have ih := horn_range hp r fun x hx => h x (List.mem_cons_of_mem _ hx)
    show 0 ≤ hornP p r * p + d ∧ hornP p r * p + d < p ^ (r.length + 1)
    rw [Int.pow_succ]
    have h1 : 0 ≤ hornP p r * p := Int.mul_nonneg ih.1 (by omega)
    have h2 : (hornP p r + 1) * p ≤ p ^ r.length * p := Int.mul_le_mul_of_nonneg_right (by omega) (by omega)
    rw [Int.add_mul, Int.one_mul] at h2
    omega
theorem horn_figs {p : Int} (hp : 0 < p) : ∀ (n : Nat) (x : Int), 0 ≤ x → x < p ^ n → hornP p (figs p n x) = x
  | 0, x, h0, h1 => by
    rw [Int.pow_zero] at h1
    show (0 : Int) = x
    omega
  | n + 1, x, h0, h1 => by
    rw [Int.pow_succ] at h1
    show hornP p (figs p n (x / p)) * p + x % p = x
    rw [horn_figs hp n (x / p) (Int.ediv_nonneg h0 (by omega)) (Int.ediv_lt_of_lt_mul hp h1)]
    have := Int.mul_ediv_add_emod x p
    rw [Int.mul_comm] at this
    exact this
structure Lin (p c1 c2 : Int) (l l1 l2 : List Int) : Prop where
  e1 : l.length = l1.length
  e2 : l.length = l2.length
  ev : ∀ i, p ∣ l.getD i 0 - (c1 * l1.getD i 0 + c2 * l2.getD i 0)
section
variable {p c1 c2 : Int}
theorem Lin.set {l l1 l2 : List Int} (h : Lin p c1 c2 l l1 l2) (i : Nat) {v v1 v2 : Int} (hv : p ∣ v - (c1 * v1 + c2 * v2)) : Lin p c1 c2 (l.set i v) (l1.set i v1) (l2.set i v2) := by
  refine ⟨by rw [List.length_set, List.length_set, h.e1], by rw [List.length_set, List.length_set, h.e2], fun j => ?_⟩
  rw [getD_set, getD_set, getD_set, ← h.e1, ← h.e2]
  by_cases c : i = j ∧ j < l.length
  · rw [if_pos c, if_pos c, if_pos c]; exact hv
  · rw [if_neg c, if_neg c, if_neg c]; exact h.ev j
theorem rRow_lin (pl n : Nat) : ∀ (ms : List Int) (j : Nat) {l l1 l2 : List Int}, Lin p c1 c2 l l1 l2 → Lin p c1 c2 (rRow pl n ms j l) (rRow pl n ms j l1) (rRow pl n ms j l2)
  | [], _, _, _, _, h => h
  | m :: ms, j, l, l1, l2, h => by
    rw [rRow_cons, rRow_cons, rRow_cons]
    refine rRow_lin pl n ms (j + 1) (h.set _ ?_)
    have e : l.getD (pl - n + j) 0 - l.getD pl 0 * m - (c1 * (l1.getD (pl - n + j) 0 - l1.getD pl 0 * m) + c2 * (l2.getD (pl - n + j) 0 - l2.getD pl 0 * m)) =
        (l.getD (pl - n + j) 0 - (c1 * l1.getD (pl - n + j) 0 + c2 * l2.getD (pl - n + j) 0)) - (l.getD pl 0 - (c1 * l1.getD pl 0 + c2 * l2.getD pl 0)) * m := by
      generalize l.getD (pl - n + j) 0 = a
      generalize l1.getD (pl - n + j) 0 = b
      generalize l2.getD (pl - n + j) 0 = d
      generalize l.getD pl 0 = x
      generalize l1.getD pl 0 = y
      generalize l2.getD pl 0 = z
      grind
    rw [e]
    exact Int.dvd_sub (h.ev _) (Int.dvd_mul_of_dvd_left (h.ev _))
theorem rAll_lin (n : Nat) (md : List Int) : ∀ (k : Nat) {l l1 l2 : List Int}, Lin p c1 c2 l l1 l2 → Lin p c1 c2 (rAll n md k l) (rAll n md k l1) (rAll n md k l2)
  | 0, _, _, _, h => h
  | k + 1, l, l1, l2, h => by
    rw [rAll_succ, rAll_succ, rAll_succ]
    exact rAll_lin n md k ((rRow_lin (n + k) n (md.take n) 0 h).set _ (by simp))
theorem tRow_linL (i : Nat) {x x1 x2 : Int} (hx : p ∣ x - (c1 * x1 + c2 * x2)) : ∀ (ys : List Int) (j : Nat) {l l1 l2 : List Int}, Lin p c1 c2 l l1 l2 → Lin p c1 c2 (tRow x i ys j l) (tRow x1 i ys j l1) (tRow x2 i ys j l2)
  | [], _, _, _, _, h => h
  | y :: ys, j, l, l1, l2, h => by
    rw [tRow_cons, tRow_cons, tRow_cons]
    refine tRow_linL i hx ys (j + 1) (h.set _ ?_)
    have e : l.getD (i + j) 0 + x * y - (c1 * (l1.getD (i + j) 0 + x1 * y) + c2 * (l2.getD (i + j) 0 + x2 * y)) =
        (l.getD (i + j) 0 - (c1 * l1.getD (i + j) 0 + c2 * l2.getD (i + j) 0)) + (x - (c1 * x1 + c2 * x2)) * y := by
      generalize l.getD (i + j) 0 = a
      generalize l1.getD (i + j) 0 = b
      generalize l2.getD (i + j) 0 = d
      grind
    rw [e]
    exact Int.dvd_add (h.ev _) (Int.dvd_mul_of_dvd_left hx)
theorem Lin.head {x x1 x2 : Int} {l l1 l2 : List Int} (h : Lin p c1 c2 (x :: l) (x1 :: l1) (x2 :: l2)) : p ∣ x - (c1 * x1 + c2 * x2) := by
  have := h.ev 0
  simpa using this
theorem Lin.tail {x x1 x2 : Int} {l l1 l2 : List Int} (h : Lin p c1 c2 (x :: l) (x1 :: l1) (x2 :: l2)) : Lin p c1 c2 l l1 l2 := by
  refine ⟨by simpa using h.e1, by simpa using h.e2, fun i => ?_⟩
  have := h.ev (i + 1)
  simpa using this
theorem tAll_linL (ys : List Int) : ∀ (xs xs1 xs2 : List Int) (i : Nat) {l l1 l2 : List Int}, Lin p c1 c2 xs xs1 xs2 → Lin p c1 c2 l l1 l2 → Lin p c1 c2 (tAll ys xs i l) (tAll ys xs1 i l1) (tAll ys xs2 i l2)
  | [], [], [], _, _, _, _, _, h => h
  | [], _ :: _, _, _, _, _, _, k, _ => by have := k.e1; simp at this
  | [], _, _ :: _, _, _, _, _, k, _ => by have := k.e2; simp at this
  | _ :: _, [], _, _, _, _, _, k, _ => by have := k.e1; simp at this
  | _ :: _, _, [], _, _, _, _, k, _ => by have := k.e2; simp at this
  | x :: xs, x1 :: xs1, x2 :: xs2, i, l, l1, l2, k, h => by
    rw [tAll_cons, tAll_cons, tAll_cons]
    exact tAll_linL ys xs xs1 xs2 (i + 1) k.tail (tRow_linL i k.head ys 0 h)
theorem tRow_linR (i : Nat) (x : Int) : ∀ (ys ys1 ys2 : List Int) (j : Nat) {l l1 l2 : List Int}, Lin p c1 c2 ys ys1 ys2 → Lin p c1 c2 l l1 l2 → Lin p c1 c2 (tRow x i ys j l) (tRow x i ys1 j l1) (tRow x i ys2 j l2)
  | [], [], [], _, _, _, _, _, h => h
  | [], _ :: _, _, _, _, _, _, k, _ => by have := k.e1; simp at this
  | [], _, _ :: _, _, _, _, _, k, _ => by have := k.e2; simp at this
  | _ :: _, [], _, _, _, _, _, k, _ => by have := k.e1; simp at this
  | _ :: _, _, [], _, _, _, _, k, _ => by have := k.e2; simp at this
  | y :: ys, y1 :: ys1, y2 :: ys2, j, l, l1, l2, k, h => by
    rw [tRow_cons, tRow_cons, tRow_cons]
    refine tRow_linR i x ys ys1 ys2 (j + 1) k.tail (h.set _ ?_)
    have hy := k.head
    have e : l.getD (i + j) 0 + x * y - (c1 * (l1.getD (i + j) 0 + x * y1) + c2 * (l2.getD (i + j) 0 + x * y2)) =
        (l.getD (i + j) 0 - (c1 * l1.getD (i + j) 0 + c2 * l2.getD (i + j) 0)) + (y - (c1 * y1 + c2 * y2)) * x := by
      generalize l.getD (i + j) 0 = a
      generalize l1.getD (i + j) 0 = b
      generalize l2.getD (i + j) 0 = d
      grind
    rw [e]
    exact Int.dvd_add (h.ev _) (Int.dvd_mul_of_dvd_left hy)
theorem tAll_linR (ys ys1 ys2 : List Int) (k : Lin p c1 c2 ys ys1 ys2) : ∀ (xs : List Int) (i : Nat) {l l1 l2 : List Int}, Lin p c1 c2 l l1 l2 → Lin p c1 c2 (tAll ys xs i l) (tAll ys1 xs i l1) (tAll ys2 xs i l2)
  | [], _, _, _, _, h => h
  | x :: xs, i, l, l1, l2, h => by
    rw [tAll_cons, tAll_cons, tAll_cons]
    exact tAll_linR ys ys1 ys2 k xs (i + 1) (tRow_linR i x ys ys1 ys2 0 k h)
theorem Lin.zero (n : Nat) : Lin p c1 c2 (List.replicate n 0) (List.replicate n 0) (List.replicate n 0) := by
  refine ⟨rfl, rfl, fun i => ?_⟩
  have e : (List.replicate n (0 : Int)).getD i 0 = 0 := by
    rw [List.getD_eq_getElem?_getD, List.getElem?_replicate]
    split <;> rfl
  rw [e]
  simp
theorem getD_map0 (f : Int → Int) (h0 : f 0 = 0) (l : List Int) (i : Nat) : (l.map f).getD i 0 = f (l.getD i 0) := by
  rw [List.getD_eq_getElem?_getD, List.getD_eq_getElem?_getD, List.getElem?_map]
  cases l[i]? with
  | none => exact h0.symm
  | some x => rfl
theorem getD_take0 (l : List Int) (n i : Nat) : (l.take n).getD i 0 = if i < n then l.getD i 0 else 0 := by
  rw [List.getD_eq_getElem?_getD, List.getD_eq_getElem?_getD, List.getElem?_take]
  split <;> rfl
theorem Lin.mod {l l1 l2 : List Int} (h : Lin p c1 c2 l l1 l2) : Lin p c1 c2 (l.map (· % p)) (l1.map (· % p)) (l2.map (· % p)) := by
  refine ⟨by rw [List.length_map, List.length_map, h.e1], by rw [List.length_map, List.length_map, h.e2], fun i => ?_⟩
  rw [getD_map0 _ (Int.zero_emod p), getD_map0 _ (Int.zero_emod p), getD_map0 _ (Int.zero_emod p)]
  have hv := h.ev i
  generalize l.getD i 0 = a at hv
  generalize l1.getD i 0 = b at hv
  generalize l2.getD i 0 = d at hv
  have ha : p ∣ a - a % p := ⟨a / p, by have := Int.mul_ediv_add_emod a p; omega⟩
  have hb : p ∣ b - b % p := ⟨b / p, by have := Int.mul_ediv_add_emod b p; omega⟩
  have hd : p ∣ d - d % p := ⟨d / p, by have := Int.mul_ediv_add_emod d p; omega⟩
  have e : a % p - (c1 * (b % p) + c2 * (d % p)) = (a - (c1 * b + c2 * d)) - (a - a % p) + ((b - b % p) * c1 + (d - d % p) * c2) := by
    generalize a % p = a'
    generalize b % p = b'
    generalize d % p = d'
    grind
  rw [e]
  exact Int.dvd_add (Int.dvd_sub hv ha) (Int.dvd_add (Int.dvd_mul_of_dvd_left hb) (Int.dvd_mul_of_dvd_left hd))
theorem Lin.take {l l1 l2 : List Int} (h : Lin p c1 c2 l l1 l2) (n : Nat) : Lin p c1 c2 (l.take n) (l1.take n) (l2.take n) := by
  refine ⟨by rw [List.length_take, List.length_take, h.e1], by rw [List.length_take, List.length_take, h.e2], fun i => ?_⟩
  rw [getD_take0, getD_take0, getD_take0]
  split
  · exact h.ev i
  · simp
end
/-! ### products -/
theorem rRow_len (pl n : Nat) : ∀ (ms : List Int) (j : Nat) (l : List Int), (rRow pl n ms j l).length = l.length
  | [], _, _ => rfl
  | m :: ms, j, l => by rw [rRow_cons, rRow_len pl n ms, List.length_set]
theorem rAll_len (n : Nat) (md : List Int) : ∀ (k : Nat) (l : List Int), (rAll n md k l).length = l.length
  | 0, _ => rfl
  | k + 1, l => by rw [rAll_succ, rAll_len n md k, List.length_set, rRow_len]
theorem tRow_len (x : Int) (i : Nat) : ∀ (ys : List Int) (j : Nat) (l : List Int), (tRow x i ys j l).length = l.length
  | [], _, _ => rfl
  | y :: ys, j, l => by rw [tRow_cons, tRow_len x i ys, List.length_set]
theorem tAll_len (ys : List Int) : ∀ (xs : List Int) (i : Nat) (l : List Int), (tAll ys xs i l).length = l.length
  | [], _, _ => rfl
  | x :: xs, i, l => by rw [tAll_cons, tAll_len ys xs, tRow_len]
def dl (p : Int) (md : List Int) (n : Nat) (x y : Int) : List Int := ((rAll n md (n - 1) (tAll (figs p n y) (figs p n x) 0 (List.replicate (2 * n - 1) 0))).take n).map (· % p)
theorem cf_mod {p : Int} (hp : 0 < p) (l : List Int) : Cf p (l.map (· % p)) := fun x hx => by
  obtain ⟨y, _, rfl⟩ := List.mem_map.mp hx
  exact ⟨Int.emod_nonneg _ (by omega), Int.emod_lt_of_pos _ hp⟩
theorem dl_len (p : Int) (md : List Int) {n : Nat} (hn : 1 ≤ n) (x y : Int) : (dl p md n x y).length = n := by
  unfold dl
  rw [List.length_map, List.length_take, rAll_len, tAll_len, List.length_replicate]
  omega
section
variable {F : FD}
abbrev M (F : FD) (x y : Int) : Int := ltimes F.p F.md x y
theorem pp (o : F.Ok) : 0 < F.p := by have := o.two; omega
theorem figs_M (o : F.Ok) (x y : Int) : figs F.p F.t (M F x y) = dl F.p F.md F.t x y := by
  have hl := dl_len F.p F.md (n := F.t) (by have := o.tb; omega) x y
  have h := figs_horn (pp o) (dl F.p F.md F.t x y) (cf_mod (pp o) _)
  rw [hl] at h
  exact h
theorem M_in (o : F.Ok) (x y : Int) : InF F (M F x y) := by
  have hl := dl_len F.p F.md (n := F.t) (by have := o.tb; omega) x y
  have h := horn_range (pp o) (dl F.p F.md F.t x y) (cf_mod (pp o) _)
  rw [hl] at h
  exact h
/-- x's figures are c1 times x1's and c2 times x2's -/
def LinF (F : FD) (c1 c2 x x1 x2 : Int) : Prop := Lin F.p c1 c2 (figs F.p F.t x) (figs F.p F.t x1) (figs F.p F.t x2)
def LinMap (F : FD) (f : Int → Int) : Prop := ∀ c1 c2 x x1 x2, LinF F c1 c2 x x1 x2 → LinF F c1 c2 (f x) (f x1) (f x2)
theorem M_left (o : F.Ok) (y : Int) : LinMap F fun x => M F x y := fun c1 c2 x x1 x2 h => by
  unfold LinF
  rw [figs_M o, figs_M o, figs_M o]
  exact ((rAll_lin _ _ _ (tAll_linL _ _ _ _ 0 h (Lin.zero _))).take _).mod
theorem M_right (o : F.Ok) (x : Int) : LinMap F fun y => M F x y := fun c1 c2 y y1 y2 h => by
  unfold LinF
  rw [figs_M o, figs_M o, figs_M o]
  exact ((rAll_lin _ _ _ (tAll_linR _ _ _ h _ 0 (Lin.zero _))).take _).mod
theorem LinMap.comp {f g : Int → Int} (hf : LinMap F f) (hg : LinMap F g) : LinMap F fun x => f (g x) := fun c1 c2 x x1 x2 h => hf _ _ _ _ _ (hg _ _ _ _ _ h)
/-- figures that are congruent are the same -/
theorem Lin.uniq (o : F.Ok) {c1 c2 x y x1 x2 : Int} (hx : InF F x) (hy : InF F y) (h : LinF F c1 c2 x x1 x2) (k : LinF F c1 c2 y x1 x2) : x = y := by
  have e : figs F.p F.t x = figs F.p F.t y := by
    refine List.ext_getElem (by rw [figs_len, figs_len]) fun i h1 h2 => ?_
    have cx := figs_cf (pp o) F.t x _ (List.getElem_mem h1)
    have cy := figs_cf (pp o) F.t y _ (List.getElem_mem h2)
    have d := Int.dvd_sub (h.ev i) (k.ev i)
    rw [List.getD_eq_getElem?_getD, List.getElem?_eq_getElem h1, List.getD_eq_getElem?_getD (l := figs F.p F.t y), List.getElem?_eq_getElem h2] at d
    have e2 : ∀ a b s : Int, (a - s) - (b - s) = a - b := fun a b s => by omega
    rw [e2] at d
    have d : F.p ∣ (figs F.p F.t x)[i] - (figs F.p F.t y)[i] := d
    generalize (figs F.p F.t x)[i] = a at cx d
    generalize (figs F.p F.t y)[i] = b at cy d
    obtain ⟨q, hq⟩ := d
    have h0 := pp o
    have : q = 0 := by
      rcases Int.lt_trichotomy q 0 with z | z | z
      · have := Int.mul_le_mul_of_nonneg_left (show q ≤ -1 by omega) (show 0 ≤ F.p by omega)
        omega
      · exact z
      · have := Int.mul_le_mul_of_nonneg_left (show 1 ≤ q by omega) (show 0 ≤ F.p by omega)
        omega
    subst this
    omega
  rw [← horn_figs (pp o) F.t x hx.1 hx.2, ← horn_figs (pp o) F.t y hy.1 hy.2, e]
/-! ### from the units to all -/
def mapR (n : Nat) (f : Nat → Int) : List Int := (List.range n).map f
theorem mapR_len (n : Nat) (f : Nat → Int) : (mapR n f).length = n := by unfold mapR; rw [List.length_map, List.length_range]
theorem mapR_get (n : Nat) (f : Nat → Int) (i : Nat) : (mapR n f).getD i 0 = if i < n then f i else 0 := by
  unfold mapR
  rw [List.getD_eq_getElem?_getD, List.getElem?_map]
  by_cases h : i < n
  · rw [List.getElem?_range h, if_pos h]; rfl
  · rw [List.getElem?_eq_none (by rw [List.length_range]; omega), if_neg h]; rfl
theorem ext_getD {l m : List Int} (e : l.length = m.length) (h : ∀ i, i < l.length → l.getD i 0 = m.getD i 0) : l = m := by
  refine List.ext_getElem e fun i h1 h2 => ?_
  have := h i h1
  rw [List.getD_eq_getElem?_getD, List.getElem?_eq_getElem h1, List.getD_eq_getElem?_getD, List.getElem?_eq_getElem h2] at this
  exact this
theorem horn_zero (p : Int) : ∀ n : Nat, hornP p (List.replicate n 0) = 0
  | 0 => rfl
  | n + 1 => by
    rw [List.replicate_succ]
    show hornP p (List.replicate n 0) * p + 0 = 0
    rw [horn_zero p n]
    simp
def unitE (n k : Nat) : List Int := mapR n fun i => if i = k then 1 else 0
def preE (n : Nat) (ds : List Int) (k : Nat) : List Int := mapR n fun i => if i < k then ds.getD i 0 else 0
/-- the number whose k-th figure is 1 -/
def bas (F : FD) (k : Nat) : Int := hornP F.p (unitE F.t k)
theorem cf_unit (o : F.Ok) (k : Nat) : Cf F.p (unitE F.t k) := fun x hx => by
  obtain ⟨i, _, rfl⟩ := List.mem_map.mp hx
  have := o.two
  (try dsimp only)
  split <;> omega
theorem figs_bas (o : F.Ok) (k : Nat) : figs F.p F.t (bas F k) = unitE F.t k := by
  have h := figs_horn (pp o) (unitE F.t k) (cf_unit o k)
  rw [show (unitE F.t k).length = F.t from mapR_len _ _] at h
  exact h
theorem cf_pre (o : F.Ok) {ds : List Int} (hd : Cf F.p ds) (k : Nat) : Cf F.p (preE F.t ds k) := fun x hx => by
  obtain ⟨i, _, rfl⟩ := List.mem_map.mp hx
  have := o.two
  (try dsimp only)
  split
  · by_cases h : i < ds.length
    · exact hd _ (getD_mem h)
    · rw [List.getD_eq_getElem?_getD, List.getElem?_eq_none (by omega)]
      show 0 ≤ (0 : Int) ∧ (0 : Int) < F.p
      omega
  · omega
theorem figs_pre (o : F.Ok) {ds : List Int} (hd : Cf F.p ds) (k : Nat) : figs F.p F.t (hornP F.p (preE F.t ds k)) = preE F.t ds k := by
  have h := figs_horn (pp o) (preE F.t ds k) (cf_pre o hd k)
  rw [show (preE F.t ds k).length = F.t from mapR_len _ _] at h
  exact h
theorem pre_step (o : F.Ok) {ds : List Int} (hd : Cf F.p ds) (k : Nat) : LinF F 1 (ds.getD k 0) (hornP F.p (preE F.t ds (k + 1))) (hornP F.p (preE F.t ds k)) (bas F k) := by
  unfold LinF
  rw [figs_pre o hd, figs_pre o hd, figs_bas o]
  refine ⟨by unfold preE; rw [mapR_len, mapR_len], by unfold preE unitE; rw [mapR_len, mapR_len], fun i => ?_⟩
  unfold preE unitE
  rw [mapR_get, mapR_get, mapR_get]
  by_cases h : i < F.t
  · rw [if_pos h, if_pos h, if_pos h]
    by_cases h1 : i < k
    · rw [if_pos (by omega), if_pos h1, if_neg (by omega)]
      simp
    · by_cases h2 : i = k
      · rw [if_pos (by omega), if_neg h1, if_pos h2, h2]
        simp
      · rw [if_neg (by omega), if_neg h1, if_neg h2]
        simp
  · rw [if_neg h, if_neg h, if_neg h]
    simp
theorem pre_all (o : F.Ok) (x : Int) (hx : InF F x) : hornP F.p (preE F.t (figs F.p F.t x) F.t) = x := by
  have e : preE F.t (figs F.p F.t x) F.t = figs F.p F.t x := by
    refine ext_getD (by unfold preE; rw [mapR_len, figs_len]) fun i h1 => ?_
    unfold preE at h1 ⊢
    rw [mapR_len] at h1
    rw [mapR_get, if_pos h1, if_pos h1]
  rw [e, horn_figs (pp o) F.t x hx.1 hx.2]
/-- two linear ones that agree at the units agree -/
theorem lin_ext (o : F.Ok) {f g : Int → Int} (hf : LinMap F f) (hg : LinMap F g) (rf : ∀ x, InF F x → InF F (f x)) (rg : ∀ x, InF F x → InF F (g x)) (h0 : f 0 = g 0) (hb : ∀ k, k < F.t → f (bas F k) = g (bas F k)) (x : Int) (hx : InF F x) : f x = g x := by
  have cf := figs_cf (pp o) F.t x
  have inp : ∀ k, InF F (hornP F.p (preE F.t (figs F.p F.t x) k)) := fun k => by
    have h := horn_range (pp o) (preE F.t (figs F.p F.t x) k) (cf_pre o cf k)
    rw [show (preE F.t (figs F.p F.t x) k).length = F.t from mapR_len _ _] at h
    exact h
  have go : ∀ k, k ≤ F.t → f (hornP F.p (preE F.t (figs F.p F.t x) k)) = g (hornP F.p (preE F.t (figs F.p F.t x) k)) := by
    intro k
    induction k with
    | zero =>
      intro _
      have e : hornP F.p (preE F.t (figs F.p F.t x) 0) = 0 := by
        have e2 : preE F.t (figs F.p F.t x) 0 = List.replicate F.t 0 := by
          refine ext_getD (by unfold preE; rw [mapR_len, List.length_replicate]) fun i h1 => ?_
          unfold preE at h1 ⊢
          rw [mapR_len] at h1
          rw [mapR_get, if_pos h1, if_neg (Nat.not_lt_zero _), List.getD_eq_getElem?_getD, List.getElem?_replicate, if_pos h1]
          rfl
        rw [e2, horn_zero]
      rw [e]
      exact h0
    | succ k ih =>
      intro hk
      have s := pre_step o cf k
      have s1 := hf _ _ _ _ _ s
      have s2 := hg _ _ _ _ _ s
      rw [ih (by omega), hb k (by omega)] at s1
      exact Lin.uniq o (rf _ (inp _)) (rg _ (inp _)) s1 s2
  have := go F.t (Nat.le_refl _)
  rwa [pre_all o x hx] at this
/-! ### the products are those of the row of powers -/
def gen (F : FD) : Int := F.pows.getD 1 0
structure Tab (F : FD) : Prop where
  ok : F.Ok
  step : ∀ k, k < F.pows.length → M F (F.pows.getD k 0) (gen F) = F.pows.getD ((k + 1) % F.pows.length) 0
  asc : ∀ i j, i < F.t → j < F.t → M F (M F (bas F i) (bas F j)) (gen F) = M F (bas F i) (M F (bas F j) (gen F))
  one : ∀ i, i < F.t → M F (bas F i) 1 = bas F i
theorem lin00 (x x1 x2 : Int) (h : figs F.p F.t x = List.replicate F.t 0) : LinF F 0 0 x x1 x2 := by
  unfold LinF
  rw [h]
  refine ⟨by rw [List.length_replicate, figs_len], by rw [List.length_replicate, figs_len], fun i => ?_⟩
  have e : (List.replicate F.t (0 : Int)).getD i 0 = 0 := by
    rw [List.getD_eq_getElem?_getD, List.getElem?_replicate]
    split <;> rfl
  rw [e]
  simp
theorem figs_0 (p : Int) : ∀ n : Nat, figs p n 0 = List.replicate n 0
  | 0 => rfl
  | n + 1 => by
    rw [figs_succ, List.replicate_succ]
    rw [Int.zero_emod, Int.zero_ediv, figs_0 p n]
theorem map_0 (o : F.Ok) {f : Int → Int} (hf : LinMap F f) (r : InF F (f 0)) : f 0 = 0 :=
  Lin.uniq o (x1 := f 0) (x2 := f 0) r (InF_zero o) (hf 0 0 0 0 0 (lin00 0 0 0 (figs_0 _ _))) (lin00 0 _ _ (figs_0 _ _))
theorem M_0y (o : F.Ok) (y : Int) : M F 0 y = 0 := map_0 o (M_left o y) (M_in o _ _)
theorem M_x0 (o : F.Ok) (x : Int) : M F x 0 = 0 := map_0 o (M_right o x) (M_in o _ _)
theorem M_asc (T : Tab F) {x y : Int} (hx : InF F x) (hy : InF F y) : M F (M F x y) (gen F) = M F x (M F y (gen F)) := by
  have o := T.ok
  refine lin_ext o (f := fun x => M F (M F x y) (gen F)) (g := fun x => M F x (M F y (gen F))) ((M_left o (gen F)).comp (M_left o y)) (M_left o _) (fun _ _ => M_in o _ _) (fun _ _ => M_in o _ _) ?_ (fun i hi => ?_) x hx
  · show M F (M F 0 y) (gen F) = M F 0 _
    rw [M_0y o, M_0y o, M_0y o]
  · refine lin_ext o (f := fun y => M F (M F (bas F i) y) (gen F)) (g := fun y => M F (bas F i) (M F y (gen F))) ((M_left o (gen F)).comp (M_right o _)) ((M_right o _).comp (M_left o _)) (fun _ _ => M_in o _ _) (fun _ _ => M_in o _ _) ?_ (fun j hj => T.asc i j hi hj) y hy
    show M F (M F (bas F i) 0) (gen F) = M F (bas F i) (M F 0 (gen F))
    rw [M_x0 o, M_0y o, M_x0 o]
theorem LinMap.id : LinMap F fun x => x := fun _ _ _ _ _ h => h
theorem M_one (T : Tab F) {x : Int} (hx : InF F x) : M F x 1 = x := by
  have o := T.ok
  exact lin_ext o (f := fun x => M F x 1) (g := fun x => x) (M_left o 1) LinMap.id (fun _ _ => M_in o _ _) (fun _ h => h) (M_0y o 1) (fun i hi => T.one i hi) x hx
theorem pow_step (T : Tab F) (k : Nat) : M F (powF F k) (gen F) = powF F (k + 1) := by
  unfold powF
  rw [T.step _ (Nat.mod_lt k T.ok.pos), Nat.mod_add_mod]
theorem M_pow (T : Tab F) (k : Nat) : ∀ j : Nat, M F (powF F k) (powF F j) = powF F (k + j)
  | 0 => by rw [powF_zero T.ok, M_one T (powF_InF T.ok k)]; rfl
  | j + 1 => by
    rw [← pow_step T j, ← M_asc T (powF_InF T.ok k) (powF_InF T.ok j), M_pow T k j, pow_step T]
    rfl
/-- this law's own products are the program's -/
theorem M_mul (T : Tab F) {x y : Int} (hx : InF F x) (hy : InF F y) : M F x y = mulF F x y := by
  have o := T.ok
  by_cases n : x = 0
  · rw [n, M_0y o, mulF_0x]
  · by_cases k : y = 0
    · rw [k, M_x0 o, mulF_x0]
    · rw [mulF_ne F n k, ← M_pow T, powF_lg o hx n, powF_lg o hy k]
/-! ### sums -/
theorem told_horn (p : Int) : ∀ (ds : List Int) (c : Int), (List.zipWith (· * ·) ds ((List.range ds.length).map fun i => c * p ^ i)).sum = c * hornP p ds
  | [], c => by show (0 : Int) = c * 0; rw [Int.mul_zero]
  | d :: r, c => by
    rw [List.length_cons, List.range_succ_eq_map, List.map_cons, List.zipWith_cons_cons, List.sum_cons, List.map_map]
    have ih := told_horn p r (c * p)
    have e : (List.map ((fun i => c * p ^ i) ∘ Nat.succ) (List.range r.length)) = (List.range r.length).map fun i => c * p * p ^ i := by
      refine List.map_congr_left fun i _ => ?_
      show c * p ^ (i + 1) = c * p * p ^ i
      rw [Int.pow_succ]
      generalize p ^ i = z
      grind
    rw [e, ih]
    show d * (c * p ^ 0) + c * p * hornP p r = c * (hornP p r * p + d)
    rw [Int.pow_zero]
    generalize hornP p r = z
    grind
theorem toldP_horn (p : Int) (ds : List Int) (n : Nat) (h : ds.length = n + 1) : toldP ds (unitsP p n) = hornP p ds := by
  have z := told_horn p ds 1
  rw [h, Int.one_mul] at z
  unfold toldP unitsP
  rw [← z]
  congr 2
  refine List.map_congr_left fun i _ => ?_
  rw [Int.one_mul]
def sumD (F : FD) (x y : Int) : List Int := (List.zip (figs F.p F.t x) (figs F.p F.t y)).map fun z => (z.1 + z.2) % F.p
theorem sumD_len (F : FD) (x y : Int) : (sumD F x y).length = F.t := by
  unfold sumD
  rw [List.length_map, List.length_zip, figs_len, figs_len, Nat.min_self]
theorem cf_sum (o : F.Ok) (x y : Int) : Cf F.p (sumD F x y) := fun v hv => by
  obtain ⟨z, _, rfl⟩ := List.mem_map.mp hv
  exact ⟨Int.emod_nonneg _ (by have := pp o; omega), Int.emod_lt_of_pos _ (pp o)⟩
theorem addF_horn (o : F.Ok) (x y : Int) : addF F x y = hornP F.p (sumD F x y) := by
  have ht := o.tb
  exact toldP_horn F.p (sumD F x y) (F.t - 1) (by rw [sumD_len]; omega)
theorem addF_in (o : F.Ok) (x y : Int) : InF F (addF F x y) := by
  rw [addF_horn o]
  have h := horn_range (pp o) _ (cf_sum o x y)
  rw [sumD_len] at h
  exact h
theorem addF_lin (o : F.Ok) (x y : Int) : LinF F 1 1 (addF F x y) x y := by
  unfold LinF
  have h := figs_horn (pp o) _ (cf_sum o x y)
  rw [sumD_len] at h
  rw [addF_horn o, h]
  refine ⟨by rw [sumD_len, figs_len], by rw [sumD_len, figs_len], fun i => ?_⟩
  have e : (sumD F x y).getD i 0 = ((figs F.p F.t x).getD i 0 + (figs F.p F.t y).getD i 0) % F.p := by
    unfold sumD
    by_cases c : i < F.t
    · rw [List.getD_eq_getElem?_getD, List.getD_eq_getElem?_getD, List.getD_eq_getElem?_getD, List.getElem?_map, List.getElem?_eq_getElem (l := List.zip _ _) (by rw [List.length_zip, figs_len, figs_len]; omega), List.getElem_zip, List.getElem?_eq_getElem (by rw [figs_len]; exact c), List.getElem?_eq_getElem (by rw [figs_len]; exact c)]
      rfl
    · rw [List.getD_eq_getElem?_getD, List.getD_eq_getElem?_getD, List.getD_eq_getElem?_getD, List.getElem?_eq_none (by rw [List.length_map, List.length_zip, figs_len, figs_len]; omega), List.getElem?_eq_none (l := figs F.p F.t x) (by rw [figs_len]; omega), List.getElem?_eq_none (l := figs F.p F.t y) (by rw [figs_len]; omega)]
      show (0 : Int) = (0 + 0) % F.p
      simp
  rw [e]
  generalize (figs F.p F.t x).getD i 0 = a
  generalize (figs F.p F.t y).getD i 0 = b
  exact ⟨-((a + b) / F.p), by have := Int.mul_ediv_add_emod (a + b) F.p; rw [Int.mul_neg]; omega⟩
/-- a linear one by its figures at the units -/
def matF (F : FD) (f : Int → Int) (x : Int) : Int := hornP F.p (mapR F.t fun j => (((List.range F.t).map fun i => (figs F.p F.t x).getD i 0 * (figs F.p F.t (f (bas F i))).getD j 0).sum) % F.p)
end
/-! ### a field's numbers, looked at -/
def okB (F : FD) (size : Nat) : Bool :=
  decide (F.p = 2 ∨ F.p = 3 ∨ F.p = 5 ∨ F.p = 7) && (decide (3 ≤ F.md.length ∧ F.md.length ≤ 8) && (decide (Cf F.p F.md) && (decide (F.md.getLastD 0 = 1) && (decide (F.size = (size : Int)) && (decide (size ≤ 128) &&
  (decide (allP F.p F.md F.size = some F.pows) && (isModV F.p (some (F.md.map V.int)) && (decide F.pows.Nodup && (decide (F.pows.length + 1 = size) && (((List.range size).all fun i => i == 0 || F.pows.contains (i : Int)) && ((F.pows.all fun x => decide (0 < x) && decide (x < (size : Int))) && decide (F.pows[0]? = some 1))))))))))))
def stepB (F : FD) : Bool := (List.range F.pows.length).all fun k => decide (M F (F.pows.getD k 0) (gen F) = F.pows.getD ((k + 1) % F.pows.length) 0)
def ascB (F : FD) : Bool := (List.range F.t).all fun i => (List.range F.t).all fun j => decide (M F (M F (bas F i) (bas F j)) (gen F) = M F (bas F i) (M F (bas F j) (gen F)))
def oneB (F : FD) : Bool := (List.range F.t).all fun i => decide (M F (bas F i) 1 = bas F i)
def turnB (F : FD) (size : Nat) : Bool := (List.range size).all fun x => decide (turnF F (x : Int) 1 = matF F (fun z => turnF F z 1) x)
def fixB (F : FD) : Bool := (List.range F.p.toNat).all fun x => decide (turnF F (x : Int) 1 = (x : Int))
end TP
/-! PN -/
set_option maxHeartbeats 4000000
namespace TP
open PySem PySem.Spec PyProof.Rows L2
local macro_rules | `(tactic| walk_at "s1") => `(tactic| first | refine ⟨_, rfl, ?_⟩ | refine ⟨_, _, rfl, rfl, ?_⟩ | refine ⟨rfl, ?_⟩ | refine iteT ?_ | refine iteF ?_)
local macro_rules | `(tactic| walk_at "st") => `(tactic| (repeat (walk_at "s1")))
local macro_rules | `(tactic| walk_at "sq") => `(tactic| first | assumption | exact sqL (by assumption) | exact sqT (by assumption) | (refine Ex.seq (by assumption) ?_; walk_at "sq") | (refine Ex.tup (by assumption) ?_; walk_at "sq"))
local macro_rules | `(tactic| walk_at "at") => `(tactic| first | assumption | (refine (show Ex _ _ by assumption) _ _ ?_; walk_at "at"))
local macro_rules | `(tactic| walk_at "sl") => `(tactic| ((try dsimp only); refine tSeqI ?_; (try dsimp only)))

variable {K : Fr}
/-! ### differences, all turns, norms, traces -/
def subF (F : FD) (x y : Int) : Int := toldP ((List.zip (figs F.p F.t x) (figs F.p F.t y)).map fun z => (z.1 - z.2) % F.p) F.units
def allT (F : FD) (x : Int) : List Int := (List.range F.t).map fun i => turnF F x (i : Nat)
def normF (F : FD) (x : Int) : Int := (allT F x).foldl (mulF F) 1
def traceF (F : FD) (x : Int) : Int := (allT F x).foldl (addF F) 0
def sp_Field_dot_taken (K : Fr) : Sp := fun vs H Q _ => ∃ a F ok x y, vs = [.ref a, .int x, .int y] ∧ FA K H a F ok ∧ Evl.RetV (.int (subF F x y)) H Q
def t_Field_dot_taken (K : Fr) : TS := (tSeq (tAsg (tListZip K (tCons (tMeth (He.ga K "Field") "figures_of" (sp_Field_dot_figures_of K) [] E0 (tVar 0) (tCons (tVar 1) tNil)) (tCons (tMeth (He.ga K "Field") "figures_of" (sp_Field_dot_figures_of K) [] E0 (tVar 0) (tCons (tVar 2) tNil)) tNil))) (gName 3)) (tRet (tMeth (He.ga K "Field") "with_figures" (sp_Field_dot_with_figures K) [] E0 (tVar 0) (tCons (tLc (iList K (tVar 3)) (gTup K 2 (gCons (gName 4) (gCons (gName 5) gNil))) tYes (tOp rModI (tOp rSubI (tVar 4) (tVar 5)) (tFld K (tVar 0) "_prime")) [4, 5]) tNil))))
def difD (F : FD) (x y : Int) : List Int := (List.zip (figs F.p F.t x) (figs F.p F.t y)).map fun z => (z.1 - z.2) % F.p
theorem subF_in {F : FD} (o : F.Ok) (x y : Int) : InF F (subF F x y) := by
  have ht := o.tb
  have hl : (difD F x y).length = F.t := by unfold difD; rw [List.length_map, List.length_zip, figs_len, figs_len, Nat.min_self]
  have hc : Cf F.p (difD F x y) := fun v hv => by
    obtain ⟨z, _, rfl⟩ := List.mem_map.mp hv
    exact ⟨Int.emod_nonneg _ (by have := pp o; omega), Int.emod_lt_of_pos _ (pp o)⟩
  have e : subF F x y = hornP F.p (difD F x y) := toldP_horn F.p (difD F x y) (F.t - 1) (by rw [hl]; omega)
  rw [e]
  have h := horn_range (pp o) _ hc
  rw [hl] at h
  exact h
def sp_minus (K : Fr) : Sp := fun vs H Q _ => ∃ a F ok x y, vs = [.ref a, .int x, .int y] ∧ FA K H a F ok ∧ InF F x ∧ InF F y ∧ Evl.RetV (.int (subF F x y)) H Q
def t_minus (K : Fr) : TS := (tSeq (tDrop (tCall (sp_check_two K) [] E0 (tCons (tVar 0) (tCons (tVar 1) (tCons (tVar 2) tNil))))) (tRet (tMeth (He.ga K "Field") "taken" (sp_Field_dot_taken K) [] E0 (tVar 0) (tCons (tVar 1) (tCons (tVar 2) tNil)))))
def sp_all_turned (K : Fr) : Sp := fun vs H Q _ => ∃ a F ok x, vs = [.ref a, .int x] ∧ FA K H a F ok ∧ InF F x ∧ Evl.RetL ((allT F x).map V.int) H Q
def t_all_turned (K : Fr) : TS := (tSeq (tDrop (tCall (sp_check_field K) [] E0 (tCons (tVar 0) tNil))) (tSeq (tDrop (tCall (sp_check_one K) [] E0 (tCons (tVar 0) (tCons (tVar 1) tNil)))) (tRet (tLc (iRng1 (tCons (tProp (He.ga K "Field") (sp_Field_dot_turns K) [] E0 (tVar 0)) tNil)) (gName 2) tYes (tMeth (He.ga K "Field") "turned" (sp_Field_dot_turned K) [] E0 (tVar 0) (tCons (tVar 1) (tCons (tVar 2) tNil))) [2]))))
def sp_norm (K : Fr) : Sp := fun vs H Q _ => ∃ a F ok x, vs = [.ref a, .int x] ∧ FA K H a F ok ∧ InF F x ∧ Evl.RetV (.int (normF F x)) H Q
def t_norm (K : Fr) : TS := (tSeq (tAsg (tC (.int 1)) (gName 2)) (tSeq (tFor (iList K (tCall (sp_all_turned K) [] E0 (tCons (tVar 0) (tCons (tVar 1) tNil)))) (gName 3) (tAsg (tMeth (He.ga K "Field") "multiplied" (sp_Field_dot_multiplied K) [] E0 (tVar 0) (tCons (tVar 2) (tCons (tVar 3) tNil))) (gName 2))) (tRet (tVar 2))))
def sp_trace (K : Fr) : Sp := fun vs H Q _ => ∃ a F ok x, vs = [.ref a, .int x] ∧ FA K H a F ok ∧ InF F x ∧ Evl.RetV (.int (traceF F x)) H Q
def t_trace (K : Fr) : TS := (tSeq (tAsg (tC (.int 0)) (gName 2)) (tSeq (tFor (iList K (tCall (sp_all_turned K) [] E0 (tCons (tVar 0) (tCons (tVar 1) tNil)))) (gName 3) (tAsg (tMeth (He.ga K "Field") "added" (sp_Field_dot_added K) [] E0 (tVar 0) (tCons (tVar 2) (tCons (tVar 3) tNil))) (gName 2))) (tRet (tVar 2))))
end TP
/-! DL6 -/
set_option maxHeartbeats 4000000
namespace TP
open PySem PySem.Spec PyProof.Rows L2
/-! ### the text of data -/
def rReprD (K : Fr) : List V → Hp → VK → Prop := fun xs Z Q => ∃ (x : V) (d : PyData), xs = [x] ∧ Dp K Z x d ∧ d.showable = true ∧ d.hasDict = false ∧ d.depth ≤ 20 ∧ d.shown.length ≤ sizeLine ∧ Q (.str d.shown) Z
mutual
/-- how long its text may be -/
def D.cost : D → Nat
  | .non | .bl _ => 5
  | .int _ => 13
  | .str s => (reprText s).length
  | .lst ds | .tup ds => D.costs ds + 4
  | .fld _ | .obj _ _ _ | .fn _ | .dct _ _ | .dci _ _ | .pot => 0
def D.costs : List D → Nat
  | [] => 0
  | d :: ds => d.cost + 2 + D.costs ds
end
mutual
/-- ints below 10 ^ 12 -/
def D.tame : D → Bool
  | .non | .bl _ | .str _ => true
  | .int i => decide (i.natAbs < 10 ^ 12)
  | .lst ds | .tup ds => D.tames ds
  | .fld _ | .obj _ _ _ | .fn _ | .dct _ _ | .dci _ _ | .pot => false
def D.tames : List D → Bool
  | [] => true
  | d :: ds => d.tame && D.tames ds
end
theorem log_small {n : Nat} (h : n < 10 ^ 12) : n.log2 < 1920 := by
  by_cases z : n = 0
  · rw [z]; decide
  · exact Nat.lt_of_lt_of_le ((Nat.log2_lt z).mpr (show n < 2 ^ 40 by omega)) (by decide)
mutual
theorem D.showOk : ∀ d : D, d.tame = true → d.py.showable = true
  | .non, _ | .bl _, _ | .str _, _ => by unfold D.py PyData.showable; rfl
  | .int i, h => by
    unfold D.tame at h
    unfold D.py PyData.showable
    exact decide_eq_true (log_small (of_decide_eq_true h))
  | .lst ds, h => by unfold D.tame at h; unfold D.py PyData.showable; exact D.showOks ds h
  | .tup ds, h => by unfold D.tame at h; unfold D.py PyData.showable; exact D.showOks ds h
  | .fld _, h => by unfold D.tame at h; cases h
  | .obj _ _ _, h => by unfold D.tame at h; cases h
  | .fn _, h => by unfold D.tame at h; cases h
  | .pot, h => by unfold D.tame at h; cases h
theorem D.showOks : ∀ ds : List D, D.tames ds = true → PyData.showableAll (D.pys ds) = true
  | [], _ => by unfold D.pys PyData.showableAll; rfl
  | d :: ds, h => by
    unfold D.tames at h
    rw [Bool.and_eq_true] at h
    unfold D.pys PyData.showableAll
    rw [D.showOk d h.1, D.showOks ds h.2]; rfl
end
mutual
theorem D.noDict : ∀ d : D, d.py.hasDict = false
  | .non | .bl _ | .str _ | .int _ | .fld _ | .obj _ _ _ | .fn _ | .dct _ _ | .dci _ _ | .pot => by unfold D.py PyData.hasDict; rfl
  | .lst ds => by unfold D.py PyData.hasDict; exact D.noDicts ds
  | .tup ds => by unfold D.py PyData.hasDict; exact D.noDicts ds
theorem D.noDicts : ∀ ds : List D, PyData.hasDictAll (D.pys ds) = false
  | [] => by unfold D.pys PyData.hasDictAll; rfl
  | d :: ds => by unfold D.pys PyData.hasDictAll; rw [D.noDict d, D.noDicts ds]; rfl
end
mutual
theorem D.fits : ∀ d : D, d.tame = true → d.py.shown.length ≤ d.cost
  | .non, _ => by unfold D.py PyData.shown D.cost; decide
  | .bl b, _ => by unfold D.py PyData.shown D.cost; cases b <;> decide
  | .str _, _ => by unfold D.py PyData.shown D.cost; exact Nat.le_refl _
  | .int i, h => by
    unfold D.tame at h
    have := PyData.shown_int_le (of_decide_eq_true h)
    unfold D.py D.cost
    omega
  | .lst ds, h => by
    unfold D.tame at h
    have h1 := D.fitsA ds h
    have h2 := listText_len_le (PyData.shownAll (D.pys ds))
    unfold D.py PyData.shown D.cost
    omega
  | .tup ds, h => by
    unfold D.tame at h
    have h1 := D.fitsA ds h
    have h2 := tupleText_len_le (PyData.shownAll (D.pys ds))
    unfold D.py PyData.shown D.cost
    omega
  | .fld _, h => by unfold D.tame at h; cases h
  | .obj _ _ _, h => by unfold D.tame at h; cases h
  | .fn _, h => by unfold D.tame at h; cases h
  | .pot, h => by unfold D.tame at h; cases h
theorem D.fitsA : ∀ ds : List D, D.tames ds = true → ((PyData.shownAll (D.pys ds)).map (·.length)).sum + 2 * (PyData.shownAll (D.pys ds)).length ≤ D.costs ds
  | [], _ => by unfold D.pys PyData.shownAll D.costs; simp
  | d :: ds, h => by
    unfold D.tames at h
    rw [Bool.and_eq_true] at h
    have h1 := D.fits d h.1
    have h2 := D.fitsA ds h.2
    unfold D.pys PyData.shownAll D.costs
    simp only [List.map_cons, List.sum_cons, List.length_cons]
    omega
end
section
variable {K : Fr} {pa : Addr} {H0 F F' F'' H H' H'' : Hp} {ρ : GE} {σ : L2.St} {ta tb tc te : TE} {wa wb wc we : WE} {m : Md} {tA tB : TA} {wA wB : WA} {n k : Nat} {b : Bool}
def D.shw (d : D) : Prop := d.dat ∧ d.tame = true ∧ d.cost ≤ many
def fRepr : WC := fun ds Q => match ds with | [d] => d.shw ∧ Q (.str d.py.shown) | _ => False
/-! ### equality, of texts too -/
def rEqA (K : Fr) : R2 := fun x y H Q => rEq x y H Q ∨ rEqD K x y H Q
def rNeA (K : Fr) : R2 := fun x y H Q => rNe x y H Q ∨ rNeD K x y H Q
theorem op_eqA {X : Cx} (hu : X.A.units + 64 < cLine) : OpR X (compareOp .Eq) (rEqA X.K) := by
  intro pins s σ H x y v u Q I rx ry h
  rcases h with h | h
  · exact op_eq pins s σ H x y v u Q I rx ry h
  · exact op_eqD hu pins s σ H x y v u Q I rx ry h
theorem op_neA {X : Cx} (hu : X.A.units + 64 < cLine) : OpR X (compareOp .NotEq) (rNeA X.K) := by
  intro pins s σ H x y v u Q I rx ry h
  rcases h with h | h
  · exact op_ne pins s σ H x y v u Q I rx ry h
  · exact op_neD hu pins s σ H x y v u Q I rx ry h
def fEqA : D → D → (D → Prop) → Prop := fun d e Q => match d, e with | .str a, .str b => Q (.bl (decide (a = b))) | d, e => fEq d e Q
def fNeA : D → D → (D → Prop) → Prop := fun d e Q => match d, e with | .str a, .str b => Q (.bl (!decide (a = b))) | d, e => fNe d e Q
theorem v2_eqA : V2 K .fz (rEqA K) fEqA := by
  intro pa F H x y d e Q Qd b hx hy w k
  unfold fEqA at w
  split at w
  · rename_i a c
    refine .inl ?_
    rw [hx.str_inv, hy.str_inv]
    refine ⟨rfl, k _ _ _ _ (Gw.refl _ _ _) b RepM.b ?_⟩
    have : decide (V.str a = V.str c) = decide (a = c) := by
      by_cases z : a = c
      · rw [z]; simp
      · rw [decide_eq_false z, decide_eq_false fun q => z (V.str.inj q)]
    rw [this]; exact w
  · exact .inr (v2_eq b hx hy w k)
theorem v2_neA : V2 K .fz (rNeA K) fNeA := by
  intro pa F H x y d e Q Qd b hx hy w k
  unfold fNeA at w
  split at w
  · rename_i a c
    refine .inl ?_
    rw [hx.str_inv, hy.str_inv]
    refine ⟨rfl, k _ _ _ _ (Gw.refl _ _ _) b RepM.b ?_⟩
    have : decide (V.str a = V.str c) = decide (a = c) := by
      by_cases z : a = c
      · rw [z]; simp
      · rw [decide_eq_false z, decide_eq_false fun q => z (V.str.inj q)]
    rw [this]; exact w
  · exact .inr (v2_ne b hx hy w k)
/-! is None -/
def D.isN : D → Bool
  | .non => true
  | _ => false
def rIsN : V → Hp → VK → Prop := fun x H Q => Q (.bl (decide (x = .non))) H
def fIsN (neg : Bool) : D → (D → Prop) → Prop := fun d Q => Q (.bl (d.isN != neg))
/-! ### list(zip(a, b)) -/
def wListZip (wa : WA) : WE := fun ρ Q => wa ρ fun ds => match ds with | [.lst xs, .lst ys] => Q (.lst ((xs.zip ys).map fun p => .tup [p.1, p.2])) | _ => False
/-! ### fields -/
theorem r1 {d : D} {vs : List V} (h : RepL K pa F [d] vs) : ∃ v, vs = [v] ∧ Rep K pa F d v := by
  obtain ⟨v, t, rfl, h1, h2⟩ := h.cons_inv
  rw [h2.nil_inv]
  exact ⟨v, rfl, h1⟩
theorem r2 {d e : D} {vs : List V} (h : RepL K pa F [d, e] vs) : ∃ v u, vs = [v, u] ∧ Rep K pa F d v ∧ Rep K pa F e u := by
  obtain ⟨v, t, rfl, h1, h2⟩ := h.cons_inv
  obtain ⟨u, rfl, h3⟩ := r1 h2
  exact ⟨v, u, rfl, h1, h3⟩
theorem r3 {d e f : D} {vs : List V} (h : RepL K pa F [d, e, f] vs) : ∃ v u z, vs = [v, u, z] ∧ Rep K pa F d v ∧ Rep K pa F e u ∧ Rep K pa F f z := by
  obtain ⟨v, t, rfl, h1, h2⟩ := h.cons_inv
  obtain ⟨u, z, rfl, h3, h4⟩ := r2 h2
  exact ⟨v, u, z, rfl, h1, h3, h4⟩
/-- what follows, of a flat value, of a new list of ints -/
theorem kV {d : D} {v : V} {Q : VK} {Qd : D → Prop} (b : Bs pa F H) (r : ∀ F, Rep K pa F d v) (k : ∀ d v F' H', Gw pa F H F' H' → Bs pa F' H' → RepM K pa H F' H' .fz d v → Qd d → Q v H') (q : Qd d) : Evl.RetV v H Q := fun H2 e =>
  k _ _ F H2 ⟨Ex.refl _, Ex.p e, fun p h h' => absurd h h'⟩ ⟨Ex.trans b.ex e, b.po.ex e, b.np⟩ (RepM.f (r F)) q
theorem Rep.ints_inv {ns : List Int} {v : V} (b : Bs pa F H) (h : Rep K pa F (Li ns) v) : ∃ a, v = .ref a ∧ H a = some (.lst (ns.map V.int)) := by
  obtain ⟨a, vs, rfl, h1, h2⟩ := h.lst_inv
  rw [h2.ints] at h1
  exact ⟨a, rfl, b.ex _ _ h1⟩
def c_Field_dot_size : WC := fun ds Q => match ds with | [.fld F] => Q (.int F.size) | _ => False
def c_Field_dot_turns : WC := fun ds Q => match ds with | [.fld F] => Q (.int F.t) | _ => False
def c_Field_dot_figures_of : WC := fun ds Q => match ds with | [.fld F, .int x] => Q (Li (figs F.p F.t x)) | _ => False
def c_Field_dot_with_figures : WC := fun ds Q => match ds with | [.fld F, .lst l] => (match D.ints l with | some xs => (xs.length ≤ 1000 ∧ ∀ x ∈ xs, -(2 ^ 64) < x ∧ x < 2 ^ 64) ∧ Q (.int (toldP xs F.units)) | none => False) | [.fld F, .tup l] => (match D.ints l with | some xs => (xs.length ≤ 1000 ∧ ∀ x ∈ xs, -(2 ^ 64) < x ∧ x < 2 ^ 64) ∧ Q (.int (toldP xs F.units)) | none => False) | _ => False
/-- two elements -/
def cII (f : FD → Int → Int → Int) : WC := fun ds Q => match ds with | [.fld F, .int x, .int y] => (InF F x ∧ InF F y) ∧ Q (.int (f F x y)) | _ => False
abbrev c_plus := cII addF
abbrev c_minus := cII subF
abbrev c_times := cII mulF
abbrev c_Field_dot_multiplied := cII mulF
/-- sums of anything -/
def cAny (f : FD → Int → Int → Int) : WC := fun ds Q => match ds with | [.fld F, .int x, .int y] => Q (.int (f F x y)) | _ => False
abbrev c_Field_dot_added := cAny addF
abbrev c_Field_dot_taken := cAny subF
/-- an element, a count -/
def cIN (lo hi : Int) (f : FD → Int → Int → Int) : WC := fun ds Q => match ds with | [.fld F, .int x, .int k] => (InF F x ∧ lo ≤ k ∧ k ≤ hi) ∧ Q (.int (f F x k)) | _ => False
abbrev c_Field_dot_turned := cIN (-(2 ^ 60)) (2 ^ 60) turnF
abbrev c_turned := cIN 0 24 turnF
abbrev c_turned_back := cIN 0 24 fun F x k => turnF F x (-k)
abbrev c_power := cIN 0 1000 fun F x k => raisF F x k.toNat
abbrev c_Field_dot_raised := cIN 0 (2 ^ 60) fun F x k => raisF F x k.toNat
/-- one element -/
def cI (f : FD → Int → Int) : WC := fun ds Q => match ds with | [.fld F, .int x] => InF F x ∧ Q (.int (f F x)) | _ => False
abbrev c_norm := cI normF
abbrev c_trace := cI traceF
def c_check_field : WC := fun ds Q => match ds with | [.fld F] => Q .non | _ => False
def c_check_one : WC := fun ds Q => match ds with | [.fld F, .int x] => InF F x ∧ Q .non | _ => False
def c_check_many : WC := fun ds Q => match ds with | [.int n, .int m] => (0 ≤ n ∧ n ≤ m) ∧ Q .non | _ => False
def c_without_noughts : WC := fun ds Q => match ds with
  | [.lst l] => (match D.ints l with | some xs => xs.length ≤ 100000 ∧ Q (Li (wn xs)) | none => False)
  | [.tup l] => (match D.ints l with | some xs => xs.length ≤ 100000 ∧ Q (Li (wn xs)) | none => False)
  | _ => False
end
end TP
/-! DL7 -/
set_option maxHeartbeats 4000000
namespace TP
open PySem PySem.Spec PyProof.Rows L2
section
variable {K : Fr} {pa : Addr} {H0 F F' F'' H H' H'' : Hp} {ρ : GE} {σ : L2.St} {ta tb tc te : TE} {wa wb wc we : WE} {m : Md} {tA tB : TA} {wA wB : WA} {n k : Nat} {b : Bool}
/-! ### a field made -/
def fMake : WC := fun ds Q => match ds with
  | [.int p, .lst l] => ∃ F : FD, F.Ok ∧ p = F.p ∧ l = F.md.map .int ∧ Q (.fld F)
  | [.int p, .tup l] => ∃ F : FD, F.Ok ∧ p = F.p ∧ l = F.md.map .int ∧ Q (.fld F)
  | _ => False
/-! ### the pot -/
def c_law_draw : WC := fun ds Q => match ds with | [.pot, .int n] => (1 ≤ n ∧ n < 1073741824) ∧ ∀ d : Int, 0 ≤ d → d < n → Q (.int d) | _ => False
theorem ad_draw {sp : Sp} (h : ∀ {vs H Q E p n}, vs = [.ref p, .int n] → 1 ≤ n → n < 1073741824 → Po p H → (∀ (d : Int) H', 0 ≤ d → d < n → ExP p H H' → Po p H' → Q (.int d) H') → sp vs H Q E) : Ad K sp .fz c_law_draw := by
  rintro vs H Q E ⟨pa, F, ds, Qd, b, r, w, k⟩
  unfold c_law_draw at w
  split at w
  · obtain ⟨v, u, rfl, h1, h2⟩ := r2 r
    refine h (by rw [h1.pot_inv, h2.int_inv]) w.1.1 w.1.2 b.po fun d H' d0 d1 e P => ?_
    refine k (.int d) _ F H' ⟨Ex.refl _, e, fun p h h' => absurd h h'⟩ ⟨fun a o ha => ?_, P, b.np⟩ RepM.i (w.2 d d0 d1)
    exact e a o (fun z => by rw [z, b.np] at ha; cases ha) (b.ex a o ha)
  · exact w.elim
end
end TP
/-! PQ -/
set_option maxHeartbeats 4000000
namespace TP
open PySem PySem.Spec PyProof.Rows L2
local macro_rules | `(tactic| walk_at "s1") => `(tactic| first | refine ⟨_, rfl, ?_⟩ | refine ⟨_, _, rfl, rfl, ?_⟩ | refine ⟨rfl, ?_⟩ | refine iteT ?_ | refine iteF ?_)
local macro_rules | `(tactic| walk_at "st") => `(tactic| (repeat (walk_at "s1")))
local macro_rules | `(tactic| walk_at "sq") => `(tactic| first | assumption | exact sqL (by assumption) | exact sqT (by assumption) | (refine Ex.seq (by assumption) ?_; walk_at "sq") | (refine Ex.tup (by assumption) ?_; walk_at "sq"))
local macro_rules | `(tactic| walk_at "at") => `(tactic| first | assumption | (refine (show Ex _ _ by assumption) _ _ ?_; walk_at "at"))
local macro_rules | `(tactic| walk_at "sl") => `(tactic| ((try dsimp only); refine tSeqI ?_; (try dsimp only)))
variable {K : Fr}
theorem FA.ins {H : Hp} {a : Addr} {F : FD} {ok : Addr → Prop} (h : FA K H a F ok) : ∃ dx fs, H a = some (.ins (He.ga K "Field") dx fs) := by
  obtain ⟨c, o, dx, m, u, w, x, kvs, h1, _⟩ := h
  exact ⟨dx, _, h1⟩
section
variable {σ : L2.St} {H : Hp} {D : Ends} {c a b : TT} {t u : TS} {te : TE} {Q : Bool → Hp → Prop}
end
/-! ### quotients -/
def divF (F : FD) (x y : Int) : Int := if x = 0 then 0 else F.pows.getD (((lgF F x : Int) - (lgF F y : Int)) % (F.pows.length : Int)).toNat 0
theorem div_mul {F : FD} (o : F.Ok) {x y : Int} (hx : InF F x) (hy : InF F y) (n : y ≠ 0) : mulF F (divF F x y) y = x := by
  by_cases c : x = 0
  · unfold divF
    rw [if_pos c, mulF_0x, c]
  · unfold divF
    rw [if_neg c]
    have hp := o.pos
    have h0 := Int.emod_nonneg ((lgF F x : Int) - (lgF F y : Int)) (show (F.pows.length : Int) ≠ 0 by omega)
    have h1 := Int.emod_lt_of_pos ((lgF F x : Int) - (lgF F y : Int)) (show (0 : Int) < F.pows.length by omega)
    generalize hk : (((lgF F x : Int) - (lgF F y : Int)) % (F.pows.length : Int)) = k at h0 h1
    have e : F.pows.getD k.toNat 0 = powF F k.toNat := by unfold powF; rw [Nat.mod_eq_of_lt (by omega)]
    rw [e, mulF_ne F (powF_ne o _) n, lg_powF o]
    refine Eq.trans (powF_cong F ?_) (powF_lg o hx c)
    rw [Nat.mod_add_mod]
    have h2 : ((k.toNat + lgF F y : Nat) : Int) % (F.pows.length : Int) = (lgF F x : Int) % (F.pows.length : Int) := by
      rw [Int.natCast_add, show ((k.toNat : Nat) : Int) = k by omega, ← hk, Int.emod_add_emod, Int.sub_add_cancel]
    have h3 := h2
    rw [← Int.natCast_emod, ← Int.natCast_emod] at h3
    exact Int.ofNat.inj h3
theorem divF_in {F : FD} (o : F.Ok) (x y : Int) : InF F (divF F x y) := by
  unfold divF
  split
  · exact InF_zero o
  · have hp := o.pos
    have h0 := Int.emod_nonneg ((lgF F x : Int) - (lgF F y : Int)) (show (F.pows.length : Int) ≠ 0 by omega)
    have h1 := Int.emod_lt_of_pos ((lgF F x : Int) - (lgF F y : Int)) (show (0 : Int) < F.pows.length by omega)
    generalize (((lgF F x : Int) - (lgF F y : Int)) % (F.pows.length : Int)) = k at h0 h1
    have e : F.pows.getD k.toNat 0 = powF F k.toNat := by unfold powF; rw [Nat.mod_eq_of_lt (by omega)]
    rw [e]
    exact powF_InF o _
theorem mul_comm' (F : FD) (x y : Int) : mulF F x y = mulF F y x := by
  by_cases n : x = 0
  · rw [n, mulF_0x, mulF_x0]
  · by_cases k : y = 0
    · rw [k, mulF_0x, mulF_x0]
    · rw [mulF_ne F n k, mulF_ne F k n, Nat.add_comm]
theorem zip_self (f : Int → Int → Int) (h : ∀ a, f a a = 0) (p : Int) : ∀ l : List Int, hornP p ((List.zip l l).map fun z => f z.1 z.2) = 0
  | [] => rfl
  | x :: l => by
    rw [List.zip_cons_cons, List.map_cons]
    show hornP p _ * p + f x x = 0
    rw [zip_self f h p l, h x]
    simp
theorem sub_self {F : FD} (o : F.Ok) (x : Int) : subF F x x = 0 := by
  have ht := o.tb
  have hl : (difD F x x).length = F.t := by unfold difD; rw [List.length_map, List.length_zip, figs_len, Nat.min_self]
  have e : subF F x x = hornP F.p (difD F x x) := toldP_horn F.p (difD F x x) (F.t - 1) (by rw [hl]; omega)
  rw [e]
  exact zip_self (fun a b => (a - b) % F.p) (fun a => by rw [Int.sub_self, Int.zero_emod]) F.p _
def sp_Field_dot_divided (K : Fr) : Sp := fun vs H Q _ => ∃ a F ok x y, vs = [.ref a, .int x, .int y] ∧ FA K H a F ok ∧ InF F x ∧ InF F y ∧ y ≠ 0 ∧ Q (.int (divF F x y)) H
def t_Field_dot_divided (K : Fr) : TS := (tSeq (tIfS (tTest (tOp rEq (tVar 1) (tC (.int 0)))) (tRet (tC (.int 0))) tNext) (tRet (tOp (rIxL K) (tFld K (tVar 0) "_powers") (tOp rModI (tOp rSubI (tDGet (tFld K (tVar 0) "_exponents") (tVar 1)) (tDGet (tFld K (tVar 0) "_exponents") (tVar 2))) (tCB (rLenA K) (tCons (tFld K (tVar 0) "_powers") tNil))))))
def sp_Field_dot_prime (K : Fr) : Sp := fun vs H Q _ => ∃ a F ok, vs = [.ref a] ∧ FA K H a F ok ∧ Q (.int F.p) H
def t_Field_dot_prime (K : Fr) : TS := (tRet (tFld K (tVar 0) "_prime"))
/-! ### sums and products in any sequence and bracket -/
section
variable {F : FD}
theorem figs_add (o : F.Ok) (x y : Int) (i : Nat) : (figs F.p F.t (addF F x y)).getD i 0 = ((figs F.p F.t x).getD i 0 + (figs F.p F.t y).getD i 0) % F.p := by
  have h := figs_horn (pp o) _ (cf_sum o x y)
  rw [sumD_len] at h
  rw [addF_horn o, h]
  unfold sumD
  by_cases c : i < F.t
  · rw [List.getD_eq_getElem?_getD, List.getD_eq_getElem?_getD, List.getD_eq_getElem?_getD, List.getElem?_map, List.getElem?_eq_getElem (l := List.zip _ _) (by rw [List.length_zip, figs_len, figs_len]; omega), List.getElem_zip, List.getElem?_eq_getElem (by rw [figs_len]; exact c), List.getElem?_eq_getElem (by rw [figs_len]; exact c)]
    rfl
  · rw [List.getD_eq_getElem?_getD, List.getD_eq_getElem?_getD, List.getD_eq_getElem?_getD, List.getElem?_eq_none (by rw [List.length_map, List.length_zip, figs_len, figs_len]; omega), List.getElem?_eq_none (l := figs F.p F.t x) (by rw [figs_len]; omega), List.getElem?_eq_none (l := figs F.p F.t y) (by rw [figs_len]; omega)]
    show (0 : Int) = (0 + 0) % F.p
    simp
theorem figs_eq (o : F.Ok) {x y : Int} (hx : InF F x) (hy : InF F y) (h : ∀ i, (figs F.p F.t x).getD i 0 = (figs F.p F.t y).getD i 0) : x = y := by
  have e : figs F.p F.t x = figs F.p F.t y := ext_getD (by rw [figs_len, figs_len]) fun i _ => h i
  rw [← horn_figs (pp o) F.t x hx.1 hx.2, ← horn_figs (pp o) F.t y hy.1 hy.2, e]

theorem figs_in (o : F.Ok) (x : Int) (i : Nat) : 0 ≤ (figs F.p F.t x).getD i 0 ∧ (figs F.p F.t x).getD i 0 < F.p := by
  have hp := pp o
  by_cases c : i < F.t
  · exact figs_cf hp F.t x _ (getD_mem (by rw [figs_len]; exact c))
  · rw [List.getD_eq_getElem?_getD, List.getElem?_eq_none (by rw [figs_len]; omega)]
    show 0 ≤ (0 : Int) ∧ (0 : Int) < F.p
    omega
theorem figs_sub (o : F.Ok) (x y : Int) (i : Nat) : (figs F.p F.t (subF F x y)).getD i 0 = ((figs F.p F.t x).getD i 0 - (figs F.p F.t y).getD i 0) % F.p := by
  have ht := o.tb
  have hl : (difD F x y).length = F.t := by unfold difD; rw [List.length_map, List.length_zip, figs_len, figs_len, Nat.min_self]
  have hc : Cf F.p (difD F x y) := fun v hv => by
    obtain ⟨z, _, rfl⟩ := List.mem_map.mp hv
    exact ⟨Int.emod_nonneg _ (by have := pp o; omega), Int.emod_lt_of_pos _ (pp o)⟩
  have e : subF F x y = hornP F.p (difD F x y) := toldP_horn F.p (difD F x y) (F.t - 1) (by rw [hl]; omega)
  have h := figs_horn (pp o) _ hc
  rw [hl] at h
  rw [e, h]
  unfold difD
  by_cases c : i < F.t
  · rw [List.getD_eq_getElem?_getD, List.getD_eq_getElem?_getD, List.getD_eq_getElem?_getD, List.getElem?_map, List.getElem?_eq_getElem (l := List.zip _ _) (by rw [List.length_zip, figs_len, figs_len]; omega), List.getElem_zip, List.getElem?_eq_getElem (by rw [figs_len]; exact c), List.getElem?_eq_getElem (by rw [figs_len]; exact c)]
    rfl
  · rw [List.getD_eq_getElem?_getD, List.getD_eq_getElem?_getD, List.getD_eq_getElem?_getD, List.getElem?_eq_none (by rw [List.length_map, List.length_zip, figs_len, figs_len]; omega), List.getElem?_eq_none (l := figs F.p F.t x) (by rw [figs_len]; omega), List.getElem?_eq_none (l := figs F.p F.t y) (by rw [figs_len]; omega)]
    show (0 : Int) = (0 - 0) % F.p
    simp
theorem add_assoc' (o : F.Ok) (a b c : Int) : addF F (addF F a b) c = addF F a (addF F b c) := by
  refine figs_eq o (addF_in o _ _) (addF_in o _ _) fun i => ?_
  rw [figs_add o, figs_add o, figs_add o, figs_add o, Int.emod_add_emod, Int.add_comm ((figs F.p F.t a).getD i 0) (_ % F.p), Int.emod_add_emod]
  congr 1
  omega
theorem sub_add' (o : F.Ok) {a : Int} (b : Int) (ha : InF F a) : addF F (subF F a b) b = a := by
  refine figs_eq o (addF_in o _ _) ha fun i => ?_
  rw [figs_add o, figs_sub o, Int.emod_add_emod, Int.sub_add_cancel]
  have := figs_in o a i
  exact Int.emod_eq_of_lt this.1 this.2
theorem mul_assoc' (o : F.Ok) (a b c : Int) : mulF F (mulF F a b) c = mulF F a (mulF F b c) := by
  by_cases ha : a = 0
  · subst ha; rw [mulF_0x, mulF_0x, mulF_0x]
  · by_cases hb : b = 0
    · subst hb; rw [mulF_x0, mulF_0x, mulF_x0]
    · by_cases hc : c = 0
      · subst hc; rw [mulF_x0, mulF_x0, mulF_x0]
      · rw [mulF_ne F ha hb, mulF_ne F hb hc, mulF_ne F (powF_ne o _) hc, mulF_ne F ha (powF_ne o _), lg_powF o, lg_powF o]
        refine powF_cong F ?_
        rw [Nat.mod_add_mod, Nat.add_mod_mod]
        congr 1
        omega
theorem distrib (T : Tab F) {a b c : Int} (ha : InF F a) (hb : InF F b) (hc : InF F c) : mulF F a (addF F b c) = addF F (mulF F a b) (mulF F a c) := by
  have o := T.ok
  have s := M_right o a _ _ _ _ _ (addF_lin o b c)
  have e1 : M F a (addF F b c) = mulF F a (addF F b c) := M_mul T ha (addF_in o b c)
  have e2 : M F a b = mulF F a b := M_mul T ha hb
  have e3 : M F a c = mulF F a c := M_mul T ha hc
  have s : LinF F 1 1 (M F a (addF F b c)) (M F a b) (M F a c) := s
  rw [e1, e2, e3] at s
  exact Lin.uniq o (mulF_InF o _ _) (addF_in o _ _) s (addF_lin o _ _)
def sumN (F : FD) (a : Int) : Nat → Int
  | 0 => 0
  | k + 1 => addF F (sumN F a k) a
theorem figs_sumN (o : F.Ok) (a : Int) (i : Nat) : ∀ k : Nat, (figs F.p F.t (sumN F a k)).getD i 0 = ((k : Int) * (figs F.p F.t a).getD i 0) % F.p
  | 0 => by
    show (figs F.p F.t 0).getD i 0 = _
    rw [figs_0]
    have e : (List.replicate F.t (0 : Int)).getD i 0 = 0 := by
      rw [List.getD_eq_getElem?_getD, List.getElem?_replicate]
      split <;> rfl
    rw [e]
    simp
  | k + 1 => by
    show (figs F.p F.t (addF F (sumN F a k) a)).getD i 0 = _
    rw [figs_add o, figs_sumN o a i k, Int.emod_add_emod]
    congr 1
    rw [Int.natCast_add, Int.add_mul]
    simp
end
end TP
/-! DL8 -/
set_option maxHeartbeats 4000000
namespace TP
open PySem PySem.Spec PyProof.Rows L2
section
variable {K : Fr} {pa : Addr} {H0 F F' F'' H H' H'' : Hp} {ρ : GE} {σ : L2.St}
def c_Field_dot_prime : WC := fun ds Q => match ds with | [.fld F] => Q (.int F.p) | _ => False
def c_Field_dot_divided : WC := fun ds Q => match ds with | [.fld F, .int x, .int y] => (InF F x ∧ InF F y ∧ y ≠ 0) ∧ Q (.int (divF F x y)) | _ => False
/-- a list of ints, or a tuple -/
def D.intsA : D → Option (List Int)
  | .lst l => D.ints l
  | .tup l => D.ints l
  | _ => none
def belowI (n : Int) (x : Int) : Bool := decide (0 ≤ x) && decide (x < n)
/-- of a list of ints alone -/
def c_are_below : WC := fun ds Q => match ds with | [d, .int n] => (match d.intsA with | some ns => ns.length ≤ 100000 ∧ Q (.bl (ns.all (belowI n))) | none => False) | _ => False
end
section
variable {K : Fr} {ta tb : TE} {wa wb : WE}
/-! list(range(n)) -/
def wListRg1 (wa : WE) : WE := fun ρ Q => wa ρ fun d => match d with | .int n => (0 ≤ n ∧ n ≤ 100000) ∧ Q (Li ((List.range n.toNat).map fun (i : Nat) => (i : Int))) | _ => False
end
/-! list(zip(a, b)) -/
section
variable {K : Fr} {pa : Addr} {F : Hp}
end
def wListZp (wa : WA) : WE := fun ρ Q => wa ρ fun ds => match ds with | [.lst xs, .lst ys] => Q (.lst ((xs.zip ys).map fun p => .tup [p.1, p.2])) | _ => False
end TP
/-! DL9 -/
set_option maxHeartbeats 4000000
/-! # Defs that are handed on; lists within a new value, written to -/
namespace TP
open PySem PySem.Spec PyProof.Rows L2
section
variable {K : Fr} {pa : Addr} {H0 F F' F'' H H' H'' : Hp} {ρ : GE} {σ : L2.St} {ta tb tc te : TE} {wa wb wc we : WE} {m : Md} {tA tB : TA} {wA wB : WA} {n k : Nat} {b : Bool} {ts tu : TS} {ws wu : WS} {tt : TT} {wt : WT}
/-! ## defs as values -/
def tCallR (i : Nat) (S : Addr → Sp → Prop) (t : TA) : TE := fun σ H Q => ∃ f sp, σ[i]? = some (some (.ref f)) ∧ S f sp ∧ t σ H fun vs H1 => sp vs H1 Q E0
def Sps (K : Fr) : List (Str × Sp) → Addr → Sp → Prop
  | [], _, _ => False
  | (s, sp) :: L, f, q => (f = He.ga K s ∧ q = sp) ∨ Sps K L f q
def wCallV (i : Nat) (T : List (Str × WC)) (wa : WA) : WE := fun ρ Q => match ρ[i]? with
  | some (.fz (.fn s)) => (match T.lookup s with | some c => wa ρ fun ds => c ds Q | none => False)
  | _ => False
inductive Tbl (K : Fr) (m : Md) : List (Str × WC) → List (Str × Sp) → Prop
  | nil : Tbl K m [] []
  | cons {s : Str} {c : WC} {sp : Sp} {T : List (Str × WC)} {L : List (Str × Sp)} : Ad K sp m c → Tbl K m T L → Tbl K m ((s, c) :: T) ((s, sp) :: L)
theorem Tbl.get {T : List (Str × WC)} {L : List (Str × Sp)} (h : Tbl K m T L) {s : Str} {c : WC} (e : T.lookup s = some c) : ∃ sp, Sps K L (He.ga K s) sp ∧ Ad K sp m c := by
  induction h with
  | nil => cases e
  | @cons s0 c0 sp T L a _ ih =>
    rw [List.lookup_cons] at e
    by_cases q : s = s0
    · subst q
      rw [beq_self_eq_true] at e
      cases e
      exact ⟨sp, .inl ⟨rfl, rfl⟩, a⟩
    · rw [beq_eq_false_iff_ne.mpr q] at e
      obtain ⟨sp', h1, h2⟩ := ih e
      exact ⟨sp', .inr h1, h2⟩
end
section
variable {X : Cx} {k i : Nat} {x : Str} {p pos : Pos} {e : Expr} {es : List Expr} {t : TA}
end
/-! ## new values with new lists within -/
section
variable {K : Fr} {pa : Addr} {H0 F F' F'' H H' H'' : Hp} {ρ : GE} {σ : L2.St} {ta tb tc te : TE} {wa wb wc we : WE} {m : Md} {tA tB : TA} {wA wB : WA} {n k : Nat} {b : Bool} {ts tu : TS} {ws wu : WS} {tt : TT} {wt : WT}
theorem Bs.nF {p : Addr} (b : Bs pa F H) (np : H p = none) : F p = none := by
  cases c : F p with
  | none => rfl
  | some x => have := b.ex p x c; rw [np] at this; cases this
def RAd (K : Fr) (n : Nat) (ta : TA) (wa : WA) : Prop := ∀ {pa : Addr} {H0 F H : Hp} {ρ : GE} {σ : L2.St} {Q : List V → Hp → Prop} {Qd : List D → Prop}, StO K pa H0 F ρ σ H → wa ρ Qd →
  (∀ ds vs F' H', Gw pa F H F' H' → StO K pa H0 F' ρ σ H' → RepL K pa F' ds vs → NewL H F' vs → ds.length = n → Qd ds → Q vs H') → ta σ H Q
theorem NewL.back {vs : List V} (P : Po pa H) (P' : Po pa H') (g : Gw pa F H F' H') {F2 : Hp} (h : NewL H' F2 vs) : NewL H F2 vs := fun a us m e => Po.back P g (h a us m e) P'
/-- two lists of the def's own go back, as a tuple -/
def wRetT (i j : Nat) : WS := fun D ρ => match ρ[i]?, ρ[j]? with | some (.ow ds), some (.ow es) => D.rt (.tup [.lst ds, .lst es]) | _, _ => False
end
end TP
/-! DL10 -/
set_option maxHeartbeats 4000000
/-! # Lists within a new value, written to: what was told since is forgotten -/
namespace TP
open PySem PySem.Spec PyProof.Rows L2
section
variable {K : Fr} {pa : Addr} {H0 F F' F'' H H' H'' : Hp} {ρ : GE} {σ σ0 : L2.St} {ta tb tc te : TE} {wa wb wc we : WE} {m : Md} {tA tB : TA} {wA wB : WA} {n k : Nat} {b : Bool} {ts tu : TS} {ws wu : WS} {tt : TT} {wt : WT} {js : List Nat}
/-! statements that leave the slots off js alone -/
def SmK (js : List Nat) (σ0 σ : L2.St) : Prop := σ.length = σ0.length ∧ ∀ j, j ∉ js → σ[j]? = σ0[j]?
structure EOkK (K : Fr) (pa : Addr) (H0 F0 : Hp) (m : Md) (js : List Nat) (σ0 : L2.St) (E : L2.Ends) (D : WEnds) : Prop where
  nx : ∀ F ρ σ H, Gw pa F0 H0 F H → StO K pa H0 F ρ σ H → SmK js σ0 σ → D.nx ρ → E.nx σ H
  rt : ∀ d v F H, Gw pa F0 H0 F H → Bs pa F H → RepM K pa H0 F H m d v → D.rt d → E.rt v H
def RSk (K : Fr) (m : Md) (js : List Nat) (ts : TS) (ws : WS) : Prop := ∀ {pa : Addr} {H0 F0 F H : Hp} {ρ : GE} {σ σ0 : L2.St} {E : L2.Ends} {D : WEnds}, Po pa H0 → Gw pa F0 H0 F H → StO K pa H0 F ρ σ H → SmK js σ0 σ → ws D ρ → EOkK K pa H0 F0 m js σ0 E D → ts E σ H
theorem SmK.set {i : Nat} {v : V} (h : SmK js σ0 σ) (hi : i ∈ js) : SmK js σ0 (σ.set i (some v)) := ⟨by rw [List.length_set]; exact h.1, fun j hj => by
  by_cases z : i = j
  · subst z; exact absurd hi hj
  · rw [List.getElem?_set_ne z]; exact h.2 j hj⟩
/-! the lists within what slot i holds are written to -/
def tMuts (K : Fr) (i : Nat) : List Int → TS → TS
  | [], tu => tu
  | z :: ks, tu => tSeq (tDrop (tBM K "list" rAppend (tOp (rIxA K) (tVar i) (tC (.int z))) (tCons (tC .non) tNil))) (tMuts K i ks tu)
/-- the places are lists' -/
def lisAt (ds : List D) : List Int → Prop
  | [] => True
  | z :: ks => (match atI ds z with | some (.lst xs) => xs.length < 100000 | _ => False) ∧ lisAt ds ks
def inL : D → List D
  | .lst ds => ds
  | .tup ds => ds
  | _ => []
/-- env, ahead of it: what is lent is forgotten -/
def noOw (ρ : GE) : GE := ρ.map fun g => match g with | .fz d => .fz d | _ => .any
abbrev WSN := GE → List D → WS
/-- where the lists stand: q holds vs, the lists among vs are new since H1 -/
structure Held1 (K : Fr) (pa : Addr) (H1 : Hp) (ds : List D) (q : Addr) (vs : List V) (H : Hp) (c : Nat) : Prop where
  sq : SqL K H q vs ∨ SqT K H q vs
  len : vs.length = ds.length
  it : ∀ (j : Nat) (xs : List D), ds[j]? = some (.lst xs) → xs.length < 100000 → ∃ a us, vs[j]? = some (.ref a) ∧ H a = some (.lst us) ∧ us.length < 100000 + c ∧ H1 a = none ∧ a ≠ q
  kp : ExP pa H1 H
  po : Po pa H
theorem noOw_get {ρ : GE} {j : Nat} {g : G} (h : (noOw ρ)[j]? = some g) : g = .any ∨ ∃ d, g = .fz d ∧ ρ[j]? = some (.fz d) := by
  unfold noOw at h
  rw [List.getElem?_map] at h
  cases e : ρ[j]? with
  | none => rw [e] at h; cases h
  | some x =>
    rw [e] at h
    cases x with
    | fz d => cases h; exact .inr ⟨d, rfl, rfl⟩
    | ow ds => cases h; exact .inl rfl
    | any => cases h; exact .inl rfl
theorem StO.noOw {Hx : Hp} (S : StO K pa H0 F ρ σ H) : StO K pa Hx F (noOw ρ) σ H := by
  refine ⟨S.bs, by unfold TP.noOw; rw [List.length_map]; exact S.len, fun j g h => ?_, fun i j ds es a h1 h2 _ _ => ?_⟩
  · rcases noOw_get h with rfl | ⟨d, rfl, h'⟩
    · trivial
    · exact S.sl j _ h'
  · rcases noOw_get h1 with h | ⟨d, h, _⟩ <;> cases h
/-- statements, then more -/
def tApp : List TS → TS → TS
  | [], u => u
  | t :: l, u => tSeq t (tApp l u)
def seqL : List TS → TS
  | [] => tNext
  | t :: l => tSeq t (seqL l)
def wNest (i : Nat) (js : List Nat) (ks : List Int) (we : WE) (wB wC : WS) : WS := fun D ρ => i < ρ.length ∧ we ρ fun d => wB { nx := fun _ => lisAt (inL d) ks ∧ wC D (wipeG (noOw ρ) (i :: js)), rt := D.rt } ((noOw ρ).set i (.fz d))
/-! isinstance -/
def D.ty : D → Option String
  | .non => some "NoneType" | .bl _ => some "bool" | .int _ => some "int" | .str _ => some "str" | .lst _ => some "list" | .tup _ => some "tuple" | .dct _ _ | .dci _ _ => some "dict" | _ => none
def fIsi (T : String) : D → (D → Prop) → Prop := fun d Q => match d.ty with | some t => (match kitB t T with | some b => Q (.bl b) | none => False) | none => False
theorem rep_ty {d : D} {v : V} {t : String} (b : Bs pa F H) (h : RepB K pa F H d v) (e : d.ty = some t) : TyX K H v (.type t) := by
  cases d <;> first | (cases e; done) | skip
  · cases e; rw [h.non_inv]; exact .base .non
  · cases e; rw [h.bl_inv]; exact .base (.bl _)
  · cases e; rw [h.int_inv]; exact .base (.int _)
  · cases e; rw [h.str_inv]; exact .base (.str _)
  · cases e
    obtain ⟨a, vs, rfl, h1, _⟩ := h.lst_inv b
    exact tyL (sqL h1)
  · cases e
    obtain ⟨a, vs, rfl, h1, _⟩ := h.tup_inv b
    exact tyT h1
  · cases e
    obtain ⟨a, vs, rfl, h1, _⟩ := (h.rep (fun _ z => nomatch z)).dct_inv
    exact .base (.dK (b.ex _ _ h1))
  · cases e
    obtain ⟨a, vs, rfl, h1, _⟩ := (h.rep (fun _ z => nomatch z)).dci_inv
    exact .base (.dK (b.ex _ _ h1))
/-! two lists of the def's own at once -/
def wParOO (i j : Nat) (wa wb : WE) : WS := fun D ρ => wa ρ fun d => wb ρ fun e => match d, e with | .lst ds, .lst es => D.nx ((ρ.set i (.ow ds)).set j (.ow es)) | _, _ => False
/-- a slot holds this def -/
def wCallF (i : Nat) (s : Str) (c : WC) (wa : WA) : WE := fun ρ Q => match ρ[i]? with
  | some (.fz (.fn t)) => t = s ∧ wa ρ fun ds => c ds Q
  | _ => False
end
end TP
/-! DL11 -/
set_option maxHeartbeats 4000000
/-! # Tests: while one is asked, the lists of one's own are told -/
namespace TP
open PySem PySem.Spec PyProof.Rows L2
section
variable {K : Fr} {pa : Addr} {H0 F F' F'' H H' H'' : Hp} {ρ : GE} {σ σ0 : L2.St} {te : TE} {we : WE} {tt : TT} {wt : WT}
def G.tell : G → G
  | .ow ds => .fz (.lst ds)
  | .fz d => .fz d
  | .any => .any
theorem tell_fz (d : D) : G.tell (.fz d) = .fz d := rfl
theorem tell_ow (ds : List D) : G.tell (.ow ds) = .fz (.lst ds) := rfl
theorem tell_any : G.tell .any = .any := rfl
theorem StO.tell (S : StO K pa H0 F ρ σ H) : StO K pa H0 (whole pa H) (ρ.map G.tell) σ H := by
  have key : ∀ i g, (ρ.map G.tell)[i]? = some g → ∃ g0 : G, ρ[i]? = some g0 ∧ g = G.tell g0 := fun i g e => by
    rw [List.getElem?_map] at e
    cases c : ρ[i]? with
    | none => rw [c] at e; cases e
    | some g0 => rw [c] at e; exact ⟨g0, c, (Option.some.inj e).symm⟩
  refine ⟨whole_bs S.bs.po, by rw [List.length_map, S.len], fun i g e => ?_, fun i j ds es a h1 _ _ _ => ?_⟩
  · obtain ⟨g0, c, rfl⟩ := key i g e
    have q := S.sl i g0 c
    cases g0 with
    | fz d =>
      obtain ⟨v, h1, h2⟩ := q
      exact ⟨v, h1, Rep.ex (whole_ex S.bs) _ _ h2⟩
    | ow ds =>
      obtain ⟨a, vs, h1, h2, h3, h4, h5, h6⟩ := q
      exact ⟨.ref a, h1, Rep.l (by unfold whole; rw [if_neg h5]; exact h2) (RepL.ex (whole_ex S.bs) _ _ h6)⟩
    | any => trivial
  · obtain ⟨g0, c, e⟩ := key i _ h1
    cases g0 <;> cases e
theorem tlc (a : G) (l : List G) : (a :: l).map G.tell = G.tell a :: l.map G.tell := rfl
theorem tln : ([] : List G).map G.tell = [] := rfl
theorem noc_fz (d : D) (l : List G) : noOw (G.fz d :: l) = .fz d :: noOw l := rfl
theorem noc_ow (d : List D) (l : List G) : noOw (G.ow d :: l) = .any :: noOw l := rfl
theorem noc_any (l : List G) : noOw (G.any :: l) = .any :: noOw l := rfl
theorem noc_nil : noOw [] = [] := rfl
theorem inL_lst (ds : List D) : inL (.lst ds) = ds := rfl
theorem inL_tup (ds : List D) : inL (.tup ds) = ds := rfl
theorem isi_tup (xs : List D) (Q : D → Prop) : fIsi "tuple" (.tup xs) Q = Q (.bl true) := rfl
theorem isi_lst (xs : List D) (Q : D → Prop) : fIsi "list" (.lst xs) Q = Q (.bl true) := rfl
theorem lis_nil (ds : List D) : lisAt ds [] = True := rfl
theorem lis_cons (ds : List D) (z : Int) (ks : List Int) : lisAt ds (z :: ks) = ((match atI ds z with | some (.lst xs) => xs.length < 100000 | _ => False) ∧ lisAt ds ks) := rfl
def wScT (wt : WT) : WT := fun ρ Q => wt (ρ.map G.tell) Q
def wSc (we : WE) : WE := fun ρ Q => we (ρ.map G.tell) fun d => d.flat = true ∧ Q d
end
end TP
/-! DL12 -/
set_option maxHeartbeats 4000000
/-! # More defs of the basics, over data -/
namespace TP
open PySem PySem.Spec PyProof.Rows L2
section
variable {K : Fr}
def c_units_of : WC := fun ds Q => match ds with | [.int p, .int n] => ((2 ≤ p ∧ p ≤ 128) ∧ 0 ≤ n ∧ n ≤ 20) ∧ Q (Li (unitsP p n.toNat)) | _ => False
def c_is_list : WC := fun ds Q => match ds with | [.lst _] => Q (.bl true) | [.tup _] => Q (.bl true) | _ => False
theorem cList_l (ds : List D) (Q : D → Prop) : c_is_list [.lst ds] Q = Q (.bl true) := rfl
theorem cList_t (ds : List D) (Q : D → Prop) : c_is_list [.tup ds] Q = Q (.bl true) := rfl
end
end TP
/-! DL13 -/
set_option maxHeartbeats 4000000
/-! # is_one_of of ints, over data -/
namespace TP
open PySem PySem.Spec PyProof.Rows L2
section
variable {K : Fr}
def c_is_one_of : WC := fun ds Q => match ds with | [.fld F, .int x] => Q (.bl (decide (0 ≤ x) && decide (x < F.size))) | _ => False
def c_check_two : WC := fun ds Q => match ds with | [.fld F, .int x, .int y] => (InF F x ∧ InF F y) ∧ Q .non | _ => False
end
end TP
/-! DL14 -/
set_option maxHeartbeats 4000000
/-! # a walk from the end, over data -/
namespace TP
open PySem PySem.Spec PyProof.Rows L2
section
variable {K : Fr} {n : Nat} {tA : TA} {wA : WA}
def wRevI (wa : WA) : WI := fun ρ Q => wa ρ fun ds => match ds with | [.lst xs] => Q (xs.reverse.map fun d => [d]) | _ => False
end
end TP
/-! DL15 -/
set_option maxHeartbeats 4000000
/-! # three names at once, two of them lists of the def's own -/
namespace TP
open PySem PySem.Spec PyProof.Rows L2
section
variable {K : Fr} {m : Md} {ta tb tc : TE} {wa wb wc : WE}
def wPar3OO (i j l : Nat) (wa wb wc : WE) : WS := fun D ρ => wa ρ fun d => wb ρ fun e => wc ρ fun f => match e, f with | .lst ds, .lst es => D.nx (((ρ.set i (.fz d)).set j (.ow ds)).set l (.ow es)) | _, _ => False
end
end TP
/-! DL16 -/
set_option maxHeartbeats 4000000
/-! # New lists of new lists, written to within and at their end -/
namespace TP
open PySem PySem.Spec PyProof.Rows L2
section
variable {K : Fr} {pa : Addr} {H0 F F' F'' H H' H'' : Hp} {ρ : GE} {σ σ0 : L2.St} {ta tb tc te : TE} {wa wb wc we : WE} {m : Md} {tA tB : TA} {wA wB : WA} {n k : Nat} {b : Bool} {ts tu : TS} {ws wu : WS} {tt : TT} {wt : WT} {js : List Nat}
theorem SmK.sets : ∀ {ks : List Nat} {us : List V} {σ : L2.St}, (∀ j ∈ ks, j ∈ js) → SmK js σ0 σ → SmK js σ0 (setsV σ ks us)
  | [], _, _, _, s => by unfold setsV; exact s
  | j :: ks, [], _, _, s => by unfold setsV; exact s
  | j :: ks, u :: us, _, h, s => by
    unfold setsV
    exact SmK.sets (fun x hx => h x (List.mem_cons_of_mem _ hx)) (s.set (h j List.mem_cons_self))
/-! the lists within, and the list itself, are written to -/
def tMutsO (K : Fr) (i : Nat) : List (Option Int) → TS → TS
  | [], tu => tu
  | none :: r, tu => tSeq (tDrop (tBM K "list" rAppend (tVar i) (tCons (tC .non) tNil))) (tMutsO K i r tu)
  | some z :: r, tu => tSeq (tDrop (tBM K "list" rAppend (tOp (rIxA K) (tVar i) (tC (.int z))) (tCons (tC .non) tNil))) (tMutsO K i r tu)
def lisO (ds : List D) : List (Option Int) → Prop
  | [] => True
  | none :: r => ds.length < 100000 ∧ lisO (ds ++ [.non]) r
  | some z :: r => (match atI ds z with | some (.lst xs) => xs.length < 100000 | _ => False) ∧ lisO ds r
structure HeldO (K : Fr) (pa : Addr) (H1 : Hp) (ds : List D) (q : Addr) (vs : List V) (H : Hp) (c : Nat) : Prop where
  sq : H q = some (.lst vs)
  qn : H1 q = none
  qp : q ≠ pa
  len : vs.length = ds.length
  it : ∀ (j : Nat) (xs : List D), ds[j]? = some (.lst xs) → xs.length < 100000 → ∃ a us, vs[j]? = some (.ref a) ∧ H a = some (.lst us) ∧ us.length < 100000 + c ∧ H1 a = none ∧ a ≠ q
  kp : ExP pa H1 H
  po : Po pa H
def wNestO (i : Nat) (js : List Nat) (ks : List (Option Int)) (we : WE) (wB wC : WS) : WS := fun D ρ => i < ρ.length ∧ we ρ fun d => wB { nx := fun _ => lisO (inL d) ks ∧ wC D (wipeG (noOw ρ) (i :: js)), rt := D.rt } ((noOw ρ).set i (.fz d))
end
end TP
/-! DL17 -/
set_option maxHeartbeats 4000000
/-! # three names at once by way of a tuple, the last a list of the def's own -/
namespace TP
open PySem PySem.Spec PyProof.Rows L2
section
variable {K : Fr} {m : Md} {ta tb tc : TE} {wa wb wc : WE}
def wUnp3O (i j l : Nat) (wa wb wc : WE) : WS := fun D ρ => wa ρ fun d => wb ρ fun e => wc ρ fun f => match f with | .lst ds => D.nx (((ρ.set i (.fz d)).set j (.fz e)).set l (.ow ds)) | _ => False
/-- a list of the def's own goes over to another name -/
def wMove (i j : Nat) : WS := fun D ρ => match ρ[j]? with | some (.ow ds) => D.nx ((ρ.set j .any).set i (.ow ds)) | _ => False
end
end TP
/-! DLS -/
set_option maxHeartbeats 4000000
namespace TP
open PySem PySem.Spec PyProof.Rows L2
/-! # How what a def does over data is shown -/
section
variable {js junk : List Nat} {body : WS} {E : WEnds} {wt : WT} {we : WE} {ρ : GE}
/-- a loop: P of what is left and of the state; env: the environment by the state -/
theorem for_inv {α S : Type} (env : S → GE) (item : α → List D) (P : List α → S → Prop)
    (hb : ∀ a r s, P (a :: r) s → ∀ N : GE → Prop, (∀ s', P r s' → N (env s')) → body { E with nx := fun ρ' => N (wipeG ρ' junk), ct := fun ρ' => N (wipeG ρ' junk), bk := E.nx } (setsG (env s) js (item a)))
    (hq : ∀ s, P [] s → E.nx (env s)) : ∀ (xs : List α) (s : S), P xs s → wForGo js junk body E (xs.map item) (env s)
  | [], s, h => hq s h
  | a :: r, s, h => hb a r s h (fun ρ => wForGo js junk body E (r.map item) ρ) fun s' h' => for_inv env item P hb hq r s' h'
/-- the same, where the way out by break or return is not taken -/
theorem for_invO {α S : Type} (env : S → GE) (item : α → List D) (P : List α → S → Prop)
    (hb : ∀ a r s, P (a :: r) s → ∀ (N B : GE → Prop) (R : D → Prop), (∀ s', P r s' → N (env s')) → body { nx := fun ρ' => N (wipeG ρ' junk), rt := R, ct := fun ρ' => N (wipeG ρ' junk), bk := B } (setsG (env s) js (item a)))
    (hq : ∀ s, P [] s → E.nx (env s)) (xs : List α) (s : S) (h : P xs s) : wForGo js junk body E (xs.map item) (env s) :=
  for_inv env item P (fun a r s p N hN => hb a r s p N E.nx E.rt hN) hq xs s h
theorem for_rngGo {S : Type} (env : S → GE) (item : Nat → List D) (P : Nat → S → Prop) (n : Nat)
    (hb : ∀ i, i < n → ∀ s, P i s → ∀ (N B : GE → Prop) (R : D → Prop), (∀ s', P (i + 1) s' → N (env s')) → body { nx := fun ρ' => N (wipeG ρ' junk), rt := R, ct := fun ρ' => N (wipeG ρ' junk), bk := B } (setsG (env s) js (item i)))
    (hq : ∀ s, P n s → E.nx (env s)) : ∀ (k i : Nat) (s : S), i + k = n → P i s → wForGo js junk body E ((List.range' i k).map item) (env s)
  | 0, i, s, e, h => hq s (by rw [← e]; exact h)
  | k + 1, i, s, e, h => by
    rw [List.range'_succ, List.map_cons]
    exact hb i (by omega) s h (fun ρ => wForGo js junk body E ((List.range' (i + 1) k).map item) ρ) E.nx E.rt fun s' h' => for_rngGo env item P n hb hq k (i + 1) s' (by omega) h'
/-- a loop over the numbers below n: P of how many are done -/
theorem for_rng {S : Type} (env : S → GE) (item : Nat → List D) (P : Nat → S → Prop) {n : Nat}
    (hb : ∀ i, i < n → ∀ s, P i s → ∀ (N B : GE → Prop) (R : D → Prop), (∀ s', P (i + 1) s' → N (env s')) → body { nx := fun ρ' => N (wipeG ρ' junk), rt := R, ct := fun ρ' => N (wipeG ρ' junk), bk := B } (setsG (env s) js (item i)))
    (hq : ∀ s, P n s → E.nx (env s)) (s : S) (h : P 0 s) : wForGo js junk body E ((List.range n).map item) (env s) := by
  rw [List.range_eq_range']
  exact for_rngGo env item P n hb hq n 0 s (by omega) h
/-- a comprehension that is a map -/
theorem lc_map {α : Type} {item : α → List D} (f : α → D) : ∀ {xs : List α} {Q : List D → Prop}, (∀ a ∈ xs, ∀ Q : D → Prop, Q (f a) → we (setsG ρ js (item a)) Q) → Q (xs.map f) → wLcGo wYes we ρ js (xs.map item) Q
  | [], Q, _, q => q
  | a :: r, Q, h, q => by
    show (if true = true then we (setsG ρ js (item a)) (fun d => wLcGo wYes we ρ js (r.map item) fun ds => Q (d :: ds)) else wLcGo wYes we ρ js (r.map item) Q)
    rw [if_pos rfl]
    exact h a List.mem_cons_self _ (lc_map (Q := fun ds => Q (f a :: ds)) f (fun b hb => h b (List.mem_cons_of_mem _ hb)) q)
/-- a comprehension over draws: P of what is left and of what is made -/
theorem lc_inv {α : Type} {item : α → List D} (P : List α → List D → Prop) (h : ∀ a r acc, P (a :: r) acc → ∀ Q : D → Prop, (∀ d, P r (acc ++ [d]) → Q d) → we (setsG ρ js (item a)) Q) : ∀ {xs : List α} {acc : List D} {Q : List D → Prop}, P xs acc → (∀ ds, P [] (acc ++ ds) → Q ds) → wLcGo wYes we ρ js (xs.map item) Q
  | [], acc, Q, p, q => q [] (by rw [List.append_nil]; exact p)
  | a :: r, acc, Q, p, q => by
    show (if true = true then we (setsG ρ js (item a)) (fun d => wLcGo wYes we ρ js (r.map item) fun ds => Q (d :: ds)) else wLcGo wYes we ρ js (r.map item) Q)
    rw [if_pos rfl]
    exact h a r acc p _ fun d pd => lc_inv P h pd fun ds hd => q (d :: ds) (by rw [List.append_assoc] at hd; exact hd)
/-- a while: P of the state, a measure -/
theorem while_inv {S : Type} (env : S → GE) (P : S → Prop) (μ : S → Nat) (s0 : S) (h0 : wipeG ρ junk = env s0) (p0 : P s0)
    (h : ∀ s, P s → wt (env s) fun b => if b = true then body { E with nx := fun ρ' => ∃ s', P s' ∧ μ s' < μ s ∧ wipeG ρ' junk = env s', ct := fun ρ' => ∃ s', P s' ∧ μ s' < μ s ∧ wipeG ρ' junk = env s', bk := E.nx } (env s) else E.nx (env s)) : wWhile junk wt body E ρ := by
  refine ⟨fun m ρ => ∃ s, P s ∧ m = μ s ∧ ρ = env s, ⟨μ s0, s0, p0, rfl, h0⟩, ?_⟩
  rintro m ρ ⟨s, p, rfl, rfl⟩
  have e : (fun ρ' : GE => ∃ m', m' < μ s ∧ ∃ s', P s' ∧ m' = μ s' ∧ wipeG ρ' junk = env s') = fun ρ' : GE => ∃ s', P s' ∧ μ s' < μ s ∧ wipeG ρ' junk = env s' := by
    funext ρ'
    exact propext ⟨fun ⟨m', hm, s', p', e', q⟩ => ⟨s', p', by omega, q⟩, fun ⟨s', p', hm, q⟩ => ⟨_, hm, s', p', rfl, q⟩⟩
  show wt (env s) fun b => if b = true then body { E with nx := (fun ρ' : GE => ∃ m', m' < μ s ∧ ∃ s', P s' ∧ m' = μ s' ∧ wipeG ρ' junk = env s'), ct := (fun ρ' : GE => ∃ m', m' < μ s ∧ ∃ s', P s' ∧ m' = μ s' ∧ wipeG ρ' junk = env s'), bk := E.nx } (env s) else E.nx (env s)
  rw [e]
  exact h s p
end
/-! ### data of ints -/
theorem datas_ints (n : Nat) : ∀ ns : List Int, D.datas n (ns.map D.int) = true
  | [] => by unfold D.datas; rfl
  | a :: ns => by
    show D.datas n (D.int a :: ns.map D.int) = true
    unfold D.datas
    rw [datas_ints n ns]
    unfold D.data; rfl
theorem dat_int (i : Int) : (D.int i).dat := by unfold D.dat D.data; rfl
theorem dat_li (ns : List Int) : (Li ns).dat := by unfold D.dat D.data; exact datas_ints 8 ns
theorem pys_ints (ns : List Int) : D.pys (ns.map D.int) = ns.map PyData.int := by
  rw [pys_map, List.map_map]
  apply List.map_congr_left
  intro i _
  show D.py (D.int i) = _
  unfold D.py; rfl
theorem py_li (ns : List Int) : (Li ns).py = dI ns := by
  show D.py (.lst _) = _
  unfold D.py dI
  rw [pys_ints]
theorem eqD_int (i j : Int) : eqD (.int i) (.int j) = decide (i = j) := by
  unfold eqD D.py PyData.eqv
  exact Bool.beq_eq_decide_eq i j
theorem fEqA_int (i j : Int) (Q : D → Prop) : fEqA (.int i) (.int j) Q = Q (.bl (decide (i = j))) := by
  show (((D.int i).dat ∧ (D.int j).dat) ∧ Q (.bl (eqD (.int i) (.int j)))) = _
  rw [eqD_int]
  exact propext ⟨fun h => h.2, fun h => ⟨⟨dat_int i, dat_int j⟩, h⟩⟩
theorem fNeA_int (i j : Int) (Q : D → Prop) : fNeA (.int i) (.int j) Q = Q (.bl (!decide (i = j))) := by
  show (((D.int i).dat ∧ (D.int j).dat) ∧ Q (.bl (!eqD (.int i) (.int j)))) = _
  rw [eqD_int]
  exact propext ⟨fun h => h.2, fun h => ⟨⟨dat_int i, dat_int j⟩, h⟩⟩
theorem eqD_li (xs ys : List Int) : eqD (Li xs) (Li ys) = decide (xs = ys) := by
  unfold eqD
  rw [py_li, py_li, eqv_ints]
theorem fEqA_li (xs ys : List Int) (Q : D → Prop) : fEqA (.lst (xs.map D.int)) (.lst (ys.map D.int)) Q = Q (.bl (decide (xs = ys))) := by
  show (((Li xs).dat ∧ (Li ys).dat) ∧ Q (.bl (eqD (Li xs) (Li ys)))) = _
  rw [eqD_li]
  exact propext ⟨fun h => h.2, fun h => ⟨⟨dat_li xs, dat_li ys⟩, h⟩⟩
theorem fNeA_li (xs ys : List Int) (Q : D → Prop) : fNeA (.lst (xs.map D.int)) (.lst (ys.map D.int)) Q = Q (.bl (!decide (xs = ys))) := by
  show (((Li xs).dat ∧ (Li ys).dat) ∧ Q (.bl (!eqD (Li xs) (Li ys)))) = _
  rw [eqD_li]
  exact propext ⟨fun h => h.2, fun h => ⟨⟨dat_li xs, dat_li ys⟩, h⟩⟩
theorem fEqA_str (a b : Str) (Q : D → Prop) : fEqA (.str a) (.str b) Q = Q (.bl (decide (a = b))) := rfl
theorem fNeA_str (a b : Str) (Q : D → Prop) : fNeA (.str a) (.str b) Q = Q (.bl (!decide (a = b))) := rfl
theorem any_eq (x : Int) : ∀ ns : List Int, ((ns.map D.int).any fun z => eqD z (.int x)) = decide (x ∈ ns)
  | [] => by simp
  | a :: ns => by
    rw [List.map_cons, List.any_cons, any_eq x ns, eqD_int]
    by_cases c : a = x
    · subst c; simp
    · have c' : ¬ x = a := fun z => c z.symm
      simp [c, c']
theorem fIn_li (neg : Bool) (x : Int) (ns : List Int) (Q : D → Prop) : fIn neg (.int x) (.lst (ns.map D.int)) Q = Q (.bl (decide (x ∈ ns) != neg)) := by
  show (((D.int x).dat ∧ (Li ns).dat) ∧ Q (.bl (((ns.map D.int).any fun z => eqD z (.int x)) != neg))) = _
  rw [any_eq]
  exact propext ⟨fun h => h.2, fun h => ⟨⟨dat_int x, dat_li ns⟩, h⟩⟩
/-! places of lists of ints -/
theorem atI_li (ns : List Int) (i : Int) : atI (ns.map D.int) i = (atI ns i).map D.int := by
  unfold atI
  rw [List.length_map]
  cases ixN ns.length i with
  | none => rfl
  | some j =>
    show (ns.map D.int)[j]? = (ns[j]?).map D.int
    rw [List.getElem?_map]
theorem atI_natI (ns : List Int) {i : Nat} (h : i < ns.length) : atI ns (i : Int) = some (ns.getD i 0) := by
  rw [List.getD_eq_getElem?_getD, List.getElem?_eq_getElem h]
  exact atI_nat (List.getElem?_eq_getElem h)
theorem enum_li (ns : List Int) : ((ns.map D.int).zipIdx.map fun p => [D.int ((p.2 : Nat) : Int), p.1]) = (List.range ns.length).map fun (i : Nat) => [D.int (i : Int), D.int (ns.getD i 0)] := by
  apply List.ext_getElem?
  intro i
  rw [List.getElem?_map, List.getElem?_zipIdx, List.getElem?_map, List.getElem?_map]
  by_cases c : i < ns.length
  · rw [List.getElem?_eq_getElem c, List.getElem?_range c]
    simp [c, List.getD_eq_getElem?_getD]
  · rw [List.getElem?_eq_none (by omega), List.getElem?_eq_none (by rw [List.length_range]; omega)]
    rfl
theorem zip_li (xs ys : List Int) : (((xs.map D.int).zip (ys.map D.int)).map fun p => [p.1, p.2]) = (xs.zip ys).map fun p => [D.int p.1, D.int p.2] := by
  rw [List.zip_map, List.map_map]
  rfl
theorem each_li (xs : List Int) : ((xs.map D.int).map fun d => [d]) = xs.map fun x => [D.int x] := by
  rw [List.map_map]; rfl
theorem fInts_li (g : List Int → (D → Prop) → Prop) (ns : List Int) (Q : D → Prop) : fInts g [.lst (ns.map D.int)] Q = g ns Q := by
  unfold fInts
  simp only [D.ints_map]
theorem li_rev (ns : List Int) : (ns.map D.int).reverse = ns.reverse.map D.int := (List.map_reverse).symm
theorem li_app (xs ys : List Int) : xs.map D.int ++ ys.map D.int = (xs ++ ys).map D.int := List.map_append.symm
theorem li_snoc (xs : List Int) (y : Int) : xs.map D.int ++ [D.int y] = (xs ++ [y]).map D.int := by rw [List.map_append]; rfl
theorem li_set (xs : List Int) (i : Nat) (y : Int) : (xs.map D.int).set i (.int y) = (xs.set i y).map D.int := by rw [List.map_set]
/-! the text of data of ints -/
end TP
/-! DL18 -/
set_option maxHeartbeats 4000000
/-! # comprehensions of two loops -/
namespace TP
open PySem PySem.Spec PyProof.Rows L2
section
variable {K : Fr} {m : Md}
def wLc2Go (wt : WT) (wi1 : WI) (wt1 : WT) (we : WE) (ρ : GE) (js js1 vs1 : List Nat) : List (List D) → Nat → (List D → Prop) → Prop
  | [], _, Q => Q []
  | it :: its, n, Q => wt (setsG ρ js it) fun b => if b = true then wi1 (setsG ρ js it) fun its1 => n + its1.length ≤ many ∧ wLcGo wt1 we (wipeG (setsG ρ js it) vs1) js1 its1 fun ds => wLc2Go wt wi1 wt1 we ρ js js1 vs1 its (n + ds.length) fun es => Q (ds ++ es) else wLc2Go wt wi1 wt1 we ρ js js1 vs1 its n Q
def wLc2 (js js1 vs vs1 : List Nat) (wi : WI) (wt : WT) (wi1 : WI) (wt1 : WT) (we : WE) : WE := fun ρ Q => wi ρ fun its => wLc2Go wt wi1 wt1 we (wipeG ρ vs) js js1 vs1 its 0 fun ds => Q (.lst ds)
section
variable {J J1 : It} {n : Nat} {G : Hp → Prop} {Y : Nat → Hp → V → Hp → Prop}
end
end
end TP
/-! DL19 -/
set_option maxHeartbeats 4000000
/-! # enumerate over tuples that are taken apart at once -/
namespace TP
open PySem PySem.Spec PyProof.Rows L2
section
variable {K : Fr} {m : Md} {pa : Addr} {F' : Hp}
def wEnumN (n : Nat) (wa : WA) : WI := fun ρ Q => wa ρ fun ds => match ds with | [d] => (match d.seq with | some (_, xs) => xs.all (isTup n) = true ∧ Q (xs.zipIdx.map fun p => .int p.2 :: D.parts p.1) | none => False) | _ => False
end
end TP
/-! TPH -/
set_option maxHeartbeats 4000000
/-! # The law's own def, where it tells a list's text -/
namespace TP
open PySem PySem.Spec PyProof.Rows L2
section
variable {P : Program} {w : World} {K : Fr} {mg mb : Str → Option Value} {k : Nat} {fl sc : Addr} {fd : FuncData} {y : Str} {sp : Sp} {t : Shared} {us : List Value} {cells : List Int}
/-- from a heap of which at most the script is told -/
theorem headZ (inK : K.In t.heap) (nm : t.heap.Ns mainGlobals mg) (nb : t.heap.Ns builtinsNs mb) (boot : ∀ z : Str, z ≠ "__name__" → mb z = bootBuiltins z) (noLim : t.heap.NoLimit) (noGen : t.gens = #[]) (room : Room k callerA)
    (at_ : t.heap.get? sc = some { cls := .type "list", data := .seq us.toArray }) (fn : ∀ bs : Heap, K.In bs → bs.Ns mainGlobals mg → FnG P w K mg bs k fl fd [y] sp) (bind : ∀ (s : Shared) (u : Value), BindsTo s fd ⟨[u], []⟩ [(y, u)])
    (Z : Hp) (one : ∀ b u, Z b = some u → b = sc ∧ ∃ o xs, u = .frz o (.lst xs)) (ok : HOk P w Z t.heap) (off : Z sc ≠ none → K.lookup sc = none) (pre : sp [.ref sc] Z (fun v _ => v = .bl true) E0) :
    codeAny (model P w) callerA (.call (.ref fl) ⟨[.ref sc], []⟩) (fun r t' => r = .ok (.ret (.bool true)) ∧ OldK t.heap t'.heap ∧ t'.os = t.os ∧ AllBare t'.gens) t := by
  have dictFree : ∀ {b : Addr} {o : Obj} {es : Array DictEntry} {ep : Nat}, t.heap.get? b = some o → o.data = .dict es ep → Z b = none := by
    intro b o es ep g d
    cases zb : Z b with
    | none => rfl
    | some u =>
      obtain ⟨rfl, _⟩ := one b u zb
      rw [at_] at g
      cases g
      exact nomatch (show Data.seq us.toArray _ = Data.dict es ep from d)
  have names : ∀ {b : Addr} {m : Str → Option Value}, t.heap.Ns b m → (hidT t.heap Z).Ns b m := by
    rintro b m ⟨o, es, ep, g, d, more⟩
    exact ⟨o, es, ep, hidT_get g (dictFree g d), d, more⟩
  have kin : K.In (hidT t.heap Z) := by
    intro b o g
    refine hidT_get (inK b o g) ?_
    cases zb : Z b with
    | none => rfl
    | some u =>
      obtain ⟨rfl, _⟩ := one b u zb
      rw [off (by rw [zb]; exact Option.some_ne_none u)] at g
      cases g
  obtain ⟨mc, l1, l2⟩ := noLim
  have env : Env0 P w K mg (hidT t.heap Z) callerA [] t Z := ⟨rfl, ⟨kin, names nm, ⟨mb, names nb, boot⟩, ⟨mc, names l1, l2⟩⟩, fun _ _ g => of_hidT g, Nat.le_of_eq (hidT_size _ _), trivial, fun b hb => absurd (show b ∈ ([] : List Addr) from hb) List.not_mem_nil, ok, .of_eq noGen⟩
  refine codeAny_mono ((fn _ kin (names nm)).run callerA [] t Z ⟨[.ref sc], []⟩ [.ref sc] [.ref sc] _ _ rfl room env (bind t (.ref sc)) (.cons rfl .nil) pre) fun r t' out => ?_
  match r, out with
  | .ok (.ret u), ⟨v, Z', os, bare, un, ok', rv, q⟩ =>
    cases (show v = .bl true from q)
    cases (show u = Value.bool true from rv)
    refine ⟨rfl, OldK.of_keep fun b o g => ?_, os, bare⟩
    cases zb : Z b with
    | none => exact un.keep b o g zb (fun z => absurd (show b ∈ ([] : List Addr) from z) List.not_mem_nil) List.not_mem_nil
    | some u =>
      obtain ⟨_, ob, xs, rfl⟩ := one b u zb
      obtain ⟨g1, _⟩ := ok b _ zb
      obtain ⟨g2, _⟩ := ok' b _ (un.frzs b ob _ zb)
      rw [g] at g1
      cases g1
      exact g2
  | .ok .next, out => exact False.elim out
  | .ok .brk, out => exact False.elim out
  | .ok .cont, out => exact False.elim out
  | .error er, out => exact False.elim out
end
/-- the law's promise, from the top's end -/
theorem walkG {l : PySem.W.OpenLaw} {n k : Nat} {q : Program} {loose : List Str} {XP : (Str → Option Value) → Heap → Prop} {YP : World → Heap → Prop} {d : DefRec} {y : Str} (hn : l.most = some n) (small : n ≤ sizeLine) (nodf : d.params.defaults = []) (room : Room k callerA)
    (give : ∀ (w : World) (mg : Str → Option Value) (fl : Addr) (h : Heap), YP w h → h.Ns mainGlobals mg → mg d.name = some (.ref fl) → ∃ (K : Fr) (fd : FuncData) (sp : Sp), K.In h ∧ (∀ (s : Shared) (u : Value), BindsTo s fd ⟨[u], []⟩ [(y, u)]) ∧
      (∀ (Z : Hp) (sc : Addr) (cells : List Int), cells.length ≤ n → SqL K Z sc (cells.map V.int) → sp [.ref sc] Z (fun v _ => v = .bl true) E0) ∧ ∀ bs : Heap, K.In bs → bs.Ns mainGlobals mg → FnG l.prog w K mg bs k fl fd [y] sp) :
    PySem.W.WalkO q loose XP YP l.row.toRowW d [] (fun f vs => PySem.call f vs) := by
  refine Att.attach_call hn nodf fun w s₀ t mg mb fl o pm cd doc sc us cells G Y _ _ _ isl at_ nums many noGen => ?_
  obtain ⟨K, fd, sp, inK, bind, pre, fn⟩ := give w mg fl _ Y G.T.g isl
  have lu := nums.length
  have rel := vals_ints nums
  cases look : K.lookup sc with
  | some ob =>
    have g := inK sc ob look
    rw [at_] at g
    cases g
    refine headZ inK G.T.g G.T.b G.T.builtins G.T.nolimit noGen room at_ fn bind (fun _ => none) (fun b u z => nomatch z) (fun b u z => nomatch z) (fun z => absurd rfl z) (pre _ sc cells many ?_)
    exact .inr ⟨_, us.toArray, _, look, rfl, rfl, rfl, by rw [List.size_toArray, lu]; exact Nat.le_trans many small, by simpa using rel⟩
  | none =>
    have here : (fun b => if b = sc then some (HO.frz { cls := .type "list", data := .seq us.toArray } (.lst (cells.map V.int))) else none : Hp) sc = some (HO.frz { cls := .type "list", data := .seq us.toArray } (.lst (cells.map V.int))) := if_pos rfl
    have else_ : ∀ b u, (fun b => if b = sc then some (HO.frz { cls := .type "list", data := .seq us.toArray } (.lst (cells.map V.int))) else none : Hp) b = some u → b = sc ∧ u = HO.frz { cls := .type "list", data := .seq us.toArray } (.lst (cells.map V.int)) := by
      intro b u z
      by_cases e : b = sc
      · exact ⟨e, (Option.some.inj ((if_pos e).symm.trans z)).symm⟩
      · exact nomatch (if_neg e).symm.trans z
    generalize (fun b => if b = sc then some (HO.frz { cls := .type "list", data := .seq us.toArray } (.lst (cells.map V.int))) else none : Hp) = Z at here else_
    refine headZ inK G.T.g G.T.b G.T.builtins G.T.nolimit noGen room at_ fn bind Z (fun b u z => ⟨(else_ b u z).1, _, _, (else_ b u z).2⟩) (fun b u z => ?_) (fun _ => look) (pre Z sc cells many (.inl (.inr ⟨_, here⟩)))
    obtain ⟨rfl, rfl⟩ := else_ b u z
    exact ⟨at_, by rw [List.length_map]; exact Nat.le_trans many small, us, _, rel, at_⟩
end TP
/-! PLP -/
set_option maxHeartbeats 4000000
namespace TP
open PySem PySem.Spec PyProof.Rows L2
local macro_rules | `(tactic| walk_at "s1") => `(tactic| first | refine ⟨_, rfl, ?_⟩ | refine ⟨_, _, rfl, rfl, ?_⟩ | refine ⟨rfl, ?_⟩ | refine iteT ?_ | refine iteF ?_)
local macro_rules | `(tactic| walk_at "st") => `(tactic| (repeat (walk_at "s1")))
local macro_rules | `(tactic| walk_at "sq") => `(tactic| first | assumption | exact sqL (by assumption) | exact sqT (by assumption) | (refine Ex.seq (by assumption) ?_; walk_at "sq") | (refine Ex.tup (by assumption) ?_; walk_at "sq"))
local macro_rules | `(tactic| walk_at "at") => `(tactic| first | assumption | (refine (show Ex _ _ by assumption) _ _ ?_; walk_at "at"))
local macro_rules | `(tactic| walk_at "sl") => `(tactic| ((try dsimp only); refine tSeqI ?_; (try dsimp only)))

variable {K : Fr}
section
variable {σ : L2.St} {H : Hp} {D : Ends} {c a b : TT} {t u : TS} {te : TE} {Q : Bool → Hp → Prop}
end
/-! ### this law's own sums -/
def lplus (p : Int) (md : List Int) (x c y : Int) : Int := hornP p ((List.zipWith (fun a b => a + c * b) (figs p (md.length - 1) x) (figs p (md.length - 1) y)).map (· % p))
theorem zip_map (f : Int → Int → Int) (g : Int → Int) : ∀ xs ys : List Int, (List.zipWith f xs ys).map g = (List.zip xs ys).map fun z => g (f z.1 z.2)
  | [], _ => by simp
  | _ :: _, [] => by simp
  | x :: xs, y :: ys => by
    rw [List.zipWith_cons_cons, List.map_cons, List.zip_cons_cons, List.map_cons, zip_map f g xs ys]
def sp_law_plus (K : Fr) : Sp := fun vs H Q _ => ∃ (p : Int) (m : Addr) (md : List Int) (x c y : Int), vs = [.int p, .ref m, .int x, .int c, .int y] ∧ (2 ≤ p ∧ p ≤ 7) ∧ SqL K H m (md.map V.int) ∧ 1 ≤ md.length ∧ md.length ≤ 100 ∧ (-10 ≤ c ∧ c ≤ 10) ∧ Evl.RetV (.int (lplus p md x c y)) H Q
def t_law_plus (K : Fr) : TS := (tSeq (tPar 5 6 (tCons (tCall (sp_law_figures K) [] E0 (tCons (tVar 0) (tCons (tVar 1) (tCons (tVar 2) tNil)))) (tCons (tCall (sp_law_figures K) [] E0 (tCons (tVar 0) (tCons (tVar 1) (tCons (tVar 4) tNil)))) tNil))) (tSeq (tAsg (tLc (iZip K (tCons (tVar 5) (tCons (tVar 6) tNil))) (gTup K 2 (gCons (gName 8) (gCons (gName 9) gNil))) tYes (tOp rAddI (tVar 8) (tOp rMulI (tVar 3) (tVar 9))) [8, 9]) (gName 7)) (tRet (tCall (sp_law_told K) [] E0 (tCons (tVar 0) (tCons (tLc (iList K (tVar 7)) (gName 8) tYes (tOp rSubI (tVar 8) (tOp rMulI (tOp rFdivI (tVar 8) (tVar 0)) (tVar 0))) [8]) tNil))))))
/-! ### a pair -/
end TP
/-! DLO -/
set_option maxHeartbeats 4000000
/-! # Objects of the program's own classes: their attributes, methods, how they are made -/
namespace TP
open PySem PySem.Spec PyProof.Rows L2
section
variable {K : Fr} {pa : Addr} {H0 F F' F'' H H' H'' : Hp} {ρ : GE} {σ : L2.St} {te : TE} {we : WE} {m : Md} {tA : TA} {wA : WA} {n : Nat} {ts tn : TS} {ws : WS}
def isOb (C : Str) (ns : List Str) : D → Bool
  | .obj C' ns' _ => decide (C' = C) && decide (ns' = ns)
  | _ => false
/-! ### attributes -/
def wFld (f : Str) (we : WE) : WE := fun ρ Q => we ρ fun d => match d with
  | .obj _ ns ds => (match (ns.zip ds).lookup f with | some x => Q x | none => False)
  | _ => False
/-! ### isinstance(x, C) -/
def fIsC (C : Str) : D → (D → Prop) → Prop := fun d Q => match d with | .obj C' _ _ => C' = C ∧ Q (.bl true) | .fld _ => C = "Field" ∧ Q (.bl true) | _ => False
/-! ### C(..): a new object; its __init__ -/
abbrev WN := (List Str → List D → Prop) → List Str → List D → GE → Prop
def wnSeq (ws : WS) (wn : WN) : WN := fun Q ns ds ρ => ws { nx := fun ρ' => wn Q ns ds (noOw ρ'), rt := fun _ => False } ρ
def wnEnd : WN := fun Q ns ds _ => Q ns ds
def wnFld (f : Str) (we : WE) (wn : WN) : WN := fun Q ns ds ρ => (ns.all fun n => !decide (f = n)) = true ∧ we ρ fun d => wn Q (ns ++ [f]) (ds ++ [d]) ρ
def wnFldE (f : Str) (we : WE) : WN := fun Q ns ds ρ => ns.length < 99 ∧ wnFld f we wnEnd Q ns ds ρ
def wnFldS (f : Str) (we : WE) (wn : WN) : WN := fun Q ns ds ρ => ns.length < 99 ∧ wnFld f we (fun Q ns ds ρ => wn Q ns ds (noOw ρ)) Q ns ds ρ
/-- what is being made stands at x -/
structure Mkg (K : Fr) (pa : Addr) (C : Str) (x dx : Addr) (F H : Hp) (σ : L2.St) (ns : List Str) (ds : List D) (vs : List V) : Prop where
  sl : σ[0]? = some (some (.ref x))
  at_ : H x = some (.ins (He.ga K C) dx (ns.zip vs))
  nF : F x = none
  np : x ≠ pa
  len : ns.length = ds.length
  rp : RepL K pa F ds vs
  sm : ns.length < 100
structure Gx (pa x : Addr) (F H F' H' : Hp) : Prop where
  ex : Ex F F'
  kp : ∀ a o, a ≠ pa → a ≠ x → H a = some o → H' a = some o
  nw : ∀ p, F p = none → F' p ≠ none → H p = none
def RN (K : Fr) (C : Str) (allns : List Str) (ts : TS) (wn : WN) : Prop := ∀ {pa : Addr} {F H : Hp} {ρ : GE} {σ : L2.St} {E : L2.Ends} {x dx : Addr} {ns : List Str} {ds : List D} {vs : List V} {Qd : List Str → List D → Prop},
  ObCls K C allns → StO K pa H F ρ σ H → Mkg K pa C x dx F H σ ns ds vs → wn Qd ns ds ρ →
  (∀ F' H' σ' ns' ds' vs', Gx pa x F H F' H' → Bs pa F' H' → Mkg K pa C x dx F' H' σ' ns' ds' vs' → Qd ns' ds' → E.nx σ' H') → ts E σ H
theorem Gx.refl (pa x : Addr) (F H : Hp) : Gx pa x F H F H := ⟨Ex.refl _, fun _ _ _ _ h => h, fun p h h' => absurd h h'⟩
theorem Gw.gx {x : Addr} (g : Gw pa F H F' H') : Gx pa x F H F' H' := ⟨g.ex, fun a o n _ h => g.kp a o n h, g.nw⟩
theorem Gx.trans {x : Addr} (P : Po pa H) (n2 : F'' pa = none) (n3 : F'' x = none) (g : Gx pa x F H F' H') (g' : Gx pa x F' H' F'' H'') : Gx pa x F H F'' H'' := by
  refine ⟨g.ex.trans g'.ex, fun a o n1 n2 h => g'.kp a o n1 n2 (g.kp a o n1 n2 h), fun p h h' => ?_⟩
  by_cases c : F' p = none
  · have q := g'.nw p c h'
    cases e : H p with
    | none => rfl
    | some o =>
      have np : p ≠ pa := by rintro rfl; exact h' n2
      have nx : p ≠ x := by rintro rfl; exact h' n3
      have := g.kp p o np nx e
      rw [this] at q; cases q
  · exact g.nw p h c
theorem Mkg.gw {C : Str} {x dx : Addr} {ns : List Str} {ds : List D} {vs : List V} {σ' : L2.St} (M : Mkg K pa C x dx F H σ ns ds vs) (g : Gw pa F H F' H') (e : σ'[0]? = σ[0]?) : Mkg K pa C x dx F' H' σ' ns ds vs := by
  refine ⟨by rw [e]; exact M.sl, g.kp _ _ M.np M.at_, ?_, M.np, M.len, RepL.ex g.ex _ _ M.rp, M.sm⟩
  cases c : F' x with
  | none => rfl
  | some o =>
    have := g.nw x M.nF (by rw [c]; exact fun z => nomatch z)
    rw [M.at_] at this; cases this
/-- what making one does: wn told of no attributes yet -/
def cO (C : Str) (n N : Nat) (wn : WN) : WC := fun ds Q => ds.length = n ∧ wn (fun ns es => Q (.obj C ns es)) [] [] (.any :: startG (N - 1) ds)
def spO (K : Fr) (C : Str) (al : List Str) (c : WC) : Sp := fun vs H Q _ => ∃ (x dx pa : Addr) (F H1 : Hp) (us : List V) (ds : List D) (Qd : D → Prop), vs = .ref x :: us ∧ H = upd (upd H1 dx (.own x)) x (.ins (He.ga K C) dx []) ∧ H1 x = none ∧ H1 dx = none ∧ dx ≠ x ∧ ObCls K C al ∧
  Bs pa F H1 ∧ RepL K pa F ds us ∧ c ds (fun d => (∃ es, d = .obj C al es) ∧ Qd d) ∧ ∀ d F' H', Gw pa F H1 F' H' → Bs pa F' H' → Rep K pa F' d (.ref x) → Qd d → Q .non H'
def wNew (C : Str) (al : List Str) (c : WC) (wA : WA) : WE := fun ρ Q => wA ρ fun ds => c ds fun d => (∃ es, d = .obj C al es) ∧ Q d
/-! ### == and != by an own __eq__ -/
end
end TP
/-! TPQ -/
set_option maxHeartbeats 4000000
/-! # Looks of one's own: classes whose objects have attributes, their != -/
namespace TP
open PySem PySem.Spec PyProof.Rows L2
end TP
/-! TPO -/
set_option maxHeartbeats 4000000
/-! # == and != by an own __eq__ -/
namespace TPX
open PySem PySem.Spec PyProof.Rows PySem.SeqAt
section
variable {M : Model} {prog : Program} {w : World} {A : Around} {E : Value → Shared → Prop} {s : Shared} {K : PySem.W.Frag} {x y C : Addr} {ox : Obj} {od : Option Obj} {h₀ : Heap} {L : Addr} {m : Str → Option Value}
end
end TPX
namespace TP
open PySem PySem.Spec PyProof.Rows L2
def rOwn (K : Fr) (C : Addr) (sp : Sp) (neg : Bool) : R2 := fun x y H Q => ∃ a b dx dy fs gs, x = .ref a ∧ y = .ref b ∧ H a = some (.ins C dx fs) ∧ H b = some (.ins C dy gs) ∧ sp [x, y] H (fun v H' => ∃ r : Bool, v = .bl r ∧ Q (.bl (r != neg)) H') E0
section
variable {X : Cx} {k : Nat} {f C : Addr} {fd : FuncData} {ps : List Str} {sp : Sp}
end
/-! over data -/
def IsO (K : Fr) (C : Addr) (ob : D → Bool) : Prop := ∀ (d : D) (pa : Addr) (F : Hp) (v : V), ob d = true → Rep K pa F d v → ∃ a dx fs, v = .ref a ∧ F a = some (.ins C dx fs)
section
variable {K : Fr}
def fOwn (ob : D → Bool) (c : WC) (neg : Bool) : D → D → (D → Prop) → Prop := fun d e Q => (ob d = true ∧ ob e = true) ∧ c [d, e] fun r => match r with | .bl b => Q (.bl (b != neg)) | _ => False
/-! ### fields -/
def sp_Field_dot___eq__ (K : Fr) : Sp := fun vs H Q _ => ∃ a b F G ok ok', vs = [.ref a, .ref b] ∧ FA K H a F ok ∧ FA K H b G ok' ∧ Q (.bl (decide (F.p = G.p) && decide (F.md = G.md))) H
def t_Field_dot___eq__ (K : Fr) : TS := (tRet (tAndV (tCB (rIsi K) (tCons (tVar 1) (tCons (tC (.ref (He.ga K "Field"))) tNil))) (tAndV (tOp rEq (tFld K (tVar 0) "_prime") (tFld K (tVar 1) "_prime")) (tOp (rEqD K) (tFld K (tVar 0) "_modulus") (tFld K (tVar 1) "_modulus")))))
def c_Field_dot___eq__ : WC := fun ds Q => match ds with | [.fld F, .fld G] => Q (.bl (decide (F.p = G.p) && decide (F.md = G.md))) | _ => False
end
end TP
/-! TPR -/
set_option maxHeartbeats 4000000
/-! # The text of one's own objects: repr, and f-strings with lists and objects -/
namespace TP
open PySem PySem.Spec PyProof.Rows L2
section
variable {prog : Program} {w : World} {A : Around} {E : Value → Shared → Prop} {s : Shared} {K : PySem.W.Frag} {x C f : Addr} {ox : Obj} {od : Option Obj} {h₀ : Heap} {L : Addr} {m : Str → Option Value}
end
section
variable {X : Cx} {k : Nat} {f C : Addr} {fd : FuncData} {ps : List Str} {sp : Sp} {e : PySem.Expr} {te : TE} {pos : Pos}
/-- repr(x), x an object of C -/
def rReprOwn (C : Addr) (sp : Sp) : List V → Hp → VK → Prop := fun xs H Q => ∃ a dx fs, xs = [.ref a] ∧ H a = some (.ins C dx fs) ∧ sp [.ref a] H (fun v H' => ∃ y : Str, v = .str y ∧ Q (.str y) H') E0
/-- {x!r}, x an object of C -/
def tFmtO (C : Addr) (sp : Sp) (te : TE) : TE := fun σ H Q => te σ H fun x H1 => ∃ a dx fs, x = .ref a ∧ H1 a = some (.ins C dx fs) ∧ sp [.ref a] H1 (fun v H' => ∃ y : Str, v = .str y ∧ y.length ≤ sizeLine ∧ Q (.str y) H') E0
/-- {x} and {x!r}, x a list or tuple -/
def tFmtD (K : Fr) (te : TE) : TE := fun σ H Q => te σ H fun x H1 => ∃ (a : Addr) (d : PyData), x = .ref a ∧ Dp K H1 (.ref a) d ∧ d.showable = true ∧ d.hasDict = false ∧ d.depth ≤ 20 ∧ d.shown.length ≤ sizeLine ∧ Q (.str d.shown) H1
end
end TP
/-! DLR -/
set_option maxHeartbeats 4000000
/-! # a value that goes back by a condition: one's own list, or a new one -/
namespace TP
open PySem PySem.Spec PyProof.Rows L2
end TP
/-! DLB -/
set_option maxHeartbeats 4000000
/-! # is_below of ints, over data -/
namespace TP
open PySem PySem.Spec PyProof.Rows L2
section
variable {K : Fr}
def c_is_below : WC := fun ds Q => match ds with | [.int x, .int n] => Q (.bl (decide (0 ≤ x) && decide (x < n))) | _ => False
/-! slices of lists and of tuples -/
variable {pa : Addr} {H0 F F' F'' H H' H'' : Hp} {ρ : GE} {σ : L2.St} {te : TE} {we : WE}
def wSlX (we : WE) (wl wh : GE → (Option Int → Prop) → Prop) : WE := fun ρ Q => we ρ fun d => wl ρ fun lo => wh ρ fun hi => match d with | .lst xs => Q (.lst (cutD xs lo hi)) | .tup xs => Q (.tup (cutD xs lo hi)) | _ => False
end
end TP
/-! DLD -/
set_option maxHeartbeats 4000000
/-! # dicts that are written out, with texts for keys, over data -/
namespace TP
open PySem PySem.Spec PyProof.Rows L2
section
variable {K : Fr} {pa : Addr} {H0 F F' F'' H H' H'' : Hp} {ρ : GE} {σ : L2.St} {te tk : TE} {we wk : WE} {wa : WA} {ks : List Str} {trs : List (TE × TE)}
def wDGet (we wk : WE) : WE := fun ρ Q => we ρ fun d => wk ρ fun k => match d, k with
  | .dct ks ds, .str s => (match (ks.zip ds).lookup s with | some x => Q x | none => False)
  | _, _ => False
/-! ### {k: v, ..} -/
def RPs (K : Fr) (trs : List (TE × TE)) (ks : List Str) (wA : WA) : Prop := ∀ {pa : Addr} {H0 F H : Hp} {ρ : GE} {σ : L2.St} {R : List (V × V) → Hp → Prop} {Qd : List D → Prop}, StO K pa H0 F ρ σ H → wA ρ Qd →
  (∀ ds vs F' H', Gw pa F H F' H' → StO K pa H0 F' ρ σ H' → RepL K pa F' ds vs → ds.length = ks.length → Qd ds → R ((ks.map V.str).zip vs) H') → tPairs trs σ H R
def wDisp (ks : List Str) (wa : WA) : WE := fun ρ Q => wa ρ fun ds => Q (.dct ks ds)
/-! dicts by ints -/
def RPsI (K : Fr) (trs : List (TE × TE)) (ks : List Int) (wA : WA) : Prop := ∀ {pa : Addr} {H0 F H : Hp} {ρ : GE} {σ : L2.St} {R : List (V × V) → Hp → Prop} {Qd : List D → Prop}, StO K pa H0 F ρ σ H → wA ρ Qd →
  (∀ ds vs F' H', Gw pa F H F' H' → StO K pa H0 F' ρ σ H' → RepL K pa F' ds vs → ds.length = ks.length → Qd ds → R ((ks.map V.int).zip vs) H') → tPairs trs σ H R
def wDispI (ks : List Int) (wa : WA) : WE := fun ρ Q => wa ρ fun ds => Q (.dci ks ds)
/-- {} -/
def wDNew : WE := fun _ Q => Q (.dct [] [])
theorem re_dnew : RE K .fz tDNewK wDNew := by
  intro pa H0 F H ρ σ Q Qd S w k p np
  obtain ⟨g, b⟩ := gw_new (o := .dK []) S.bs np
  exact k _ _ _ _ g (S.grow g b) (RepM.f (Rep.dc (ks := []) (vs := []) upd_same RepL.nil)) w
/-! three names at once, the last of them a list of one's own -/
variable {m : Md} {ta tb tc : TE} {wb wc : WE} {wA : WE}
def wPar3FO (i j l : Nat) (wa wb wc : WE) : WS := fun D ρ => wa ρ fun d => wb ρ fun e => wc ρ fun f => match f with | .lst es => D.nx (((ρ.set i (.fz d)).set j (.fz e)).set l (.ow es)) | _ => False
end
end TP
/-! DLT -/
set_option maxHeartbeats 4000000
/-! # a tuple and a tuple, over data -/
namespace TP
open PySem PySem.Spec PyProof.Rows L2
section
variable {K : Fr} {pa : Addr} {H0 F F' F'' H H' H'' : Hp} {ρ : GE} {σ : L2.St} {te tk : TE} {we wk : WE} {wa : WA}
def fCatT : D → D → (D → Prop) → Prop := fun d e Q => match d, e with | .tup xs, .tup ys => xs.length + ys.length ≤ many ∧ Q (.tup (xs ++ ys)) | _, _ => False
end
end TP
/-! DLU -/
set_option maxHeartbeats 4000000
/-! # isinstance of one of two classes, over data -/
namespace TP
open PySem PySem.Spec PyProof.Rows L2
section
variable {K : Fr} {pa : Addr} {H0 F F' F'' H H' H'' : Hp} {ρ : GE} {σ : L2.St} {te tk : TE} {we wk : WE} {wa : WA}
/-! isinstance of one of two -/
def fIsiT (A B : String) : D → (D → Prop) → Prop := fun d Q => match d.ty with | some t => (match kitB t A, kitB t B with | some a, some b => Q (.bl (a || b)) | _, _ => False) | none => False
end
end TP
/-! DLI -/
set_option maxHeartbeats 4000000
/-! # isinstance of one's own class, of anything, over data -/
namespace TP
open PySem PySem.Spec PyProof.Rows L2
/-- C is a class of one's own; none of the others is it or comes of it -/
structure IsG (K : Fr) (C : Str) (os : List Str) : Prop where
  cl : ((PySem.W.clsIn K (He.ga K C)).isSome && PySem.W.typeIn K (.ref (He.ga K C)) == some (.type "type")) = true
  un : ∀ C' ∈ os, (Value.ref (He.ga K C') == Value.ref (He.ga K C)) = false ∧ PySem.W.mroIn K (He.ga K C') (.ref (He.ga K C)) = some false
def noRef (T : String) : Bool := match PySem.fastBuiltinMro T with | some l => (l.all fun v => match v with | .type _ => true | _ => false) | none => false
section
variable {K : Fr} {pa : Addr} {H0 F F' F'' H H' H'' : Hp} {ρ : GE} {σ : L2.St} {te tk : TE} {we wk : WE} {wa : WA}
def fIsG (C : Str) (os : List Str) : D → (D → Prop) → Prop := fun d Q => match d with
  | .obj C' _ _ => if C' = C then Q (.bl true) else C' ∈ os ∧ Q (.bl false)
  | .fld _ => if ("Field" : Str) = C then Q (.bl true) else ("Field" : Str) ∈ os ∧ Q (.bl false)
  | .fn _ | .pot => False
  | _ => Q (.bl false)
end
end TP
/-! DLJ -/
set_option maxHeartbeats 4000000
/-! # The text of one's own objects and f-strings, over data -/
namespace TP
open PySem PySem.Spec PyProof.Rows L2
def tJn (ts : List TE) : TE := fun σ H Q => tJs ts Str.empty σ H fun out H1 => Q (.str out) H1
section
variable {K : Fr} {pa : Addr} {H0 F F' F'' H H' H'' : Hp} {ρ : GE} {σ : L2.St} {te tk : TE} {we wk : WE} {wa : WA}
def wJsGo : List WE → Str → GE → (Str → Prop) → Prop
  | [], acc, _, Q => Q acc
  | w :: ws, acc, ρ, Q => w ρ fun d => match d with | .str y => (acc ++ y).length ≤ sizeLine ∧ wJsGo ws (acc ++ y) ρ Q | _ => False
def wJs (ws : List WE) : WE := fun ρ Q => wJsGo ws Str.empty ρ fun out => Q (.str out)
inductive RJ (K : Fr) : List TE → List WE → Prop where
  | nil : RJ K [] []
  | cons {t : TE} {w : WE} {ts : List TE} {ws : List WE} (h : RE K .fz t w) (r : RJ K ts ws) : RJ K (t :: ts) (w :: ws)
/-! the parts -/
def fFmtI : D → (D → Prop) → Prop := fun d Q => match d with | .int i => i.natAbs < 10 ^ 12 ∧ Q (.str (D.int i).py.shown) | _ => False
def fFmtD : D → (D → Prop) → Prop := fun d Q => match d with | .lst ds => (D.lst ds).shw ∧ Q (.str (D.lst ds).py.shown) | .tup ds => (D.tup ds).shw ∧ Q (.str (D.tup ds).py.shown) | _ => False
def fFmtO (ob : D → Bool) (c : WC) : D → (D → Prop) → Prop := fun d Q => ob d = true ∧ c [d] fun r => match r with | .str y => y.length ≤ sizeLine ∧ Q (.str y) | _ => False
def fReprO (ob : D → Bool) (c : WC) : D → (D → Prop) → Prop := fun d Q => ob d = true ∧ c [d] fun r => match r with | .str y => Q (.str y) | _ => False
def fCatS : D → D → (D → Prop) → Prop := fun d e Q => match d, e with | .str a, .str b => a.length + b.length ≤ sizeLine ∧ Q (.str (a ++ b)) | _, _ => False
/-! the own repr of a field -/
def fldText (F : FD) : Str := ((((Str.empty ++ ("Field(" : Str)) ++ (D.int F.p).py.shown) ++ (", " : Str)) ++ (Li F.md).py.shown) ++ (")" : Str)
def sp_Field_dot___repr__ (K : Fr) : Sp := fun vs H Q _ => ∃ a F ok, vs = [.ref a] ∧ FA K H a F ok ∧ F.p.natAbs < 10 ^ 12 ∧ (Li F.md).shw ∧ (fldText F).length ≤ sizeLine ∧ Q (.str (fldText F)) H
def t_Field_dot___repr__ (K : Fr) : TS := (tRet (tJn [tC (.str "Field("), tFmt (tFld K (tVar 0) "_prime"), tC (.str ", "), tFmtD K (tFld K (tVar 0) "_modulus"), tC (.str ")")]))
def c_Field_dot___repr__ : WC := fun ds Q => match ds with | [.fld F] => F.p.natAbs < 10 ^ 12 ∧ (Li F.md).shw ∧ (fldText F).length ≤ sizeLine ∧ Q (.str (fldText F)) | _ => False
end
end TP
/-! DLK -/
set_option maxHeartbeats 4000000
/-! # Objects made and asked by keywords -/
namespace TP
open PySem PySem.Spec PyProof.Rows L2
/-- o.m(k = v, ..) -/
def tMethKw (C : Addr) (m : Str) (n : Nat) (sp : Sp) (gV : List V → List V → List V) (ta : TE) (tk : TA) : TE := fun σ H Q => ta σ H fun x H1 => ∃ a dx fs, x = .ref a ∧ H1 a = some (.ins C dx fs) ∧ fs.lookup m = none ∧
  tk σ H1 fun zs H2 => zs.length = n ∧ sp (gV [.ref a] zs) H2 Q E0
section
variable {X : Cx} {CX : CXT} {k : Nat} {f C : Addr} {fd : FuncData} {ps ks : List Str} {sp : Sp} {m : Str} {o : PySem.Expr} {apos pos : Pos} {kws : List Keyword} {ta : TE} {tk : TA} {g : List Value → List Value → List Value} {gV : List V → List V → List V}
end
section
variable {K : Fr} {pa : Addr} {H0 F F' F'' H H' H'' : Hp} {ρ : GE} {σ : L2.St} {te : TE} {we : WE} {tA tB : TA} {wA wB : WA} {md : Md} {n k : Nat}
/-- C(e, .., k = v, ..) -/
def wNewN (C : Str) (al : List Str) (jx : List Nat) (c : WC) (wa wb : WA) : WE := fun ρ Q => wa ρ fun ds => wb ρ fun es => c (permV jx ds es) fun d => (∃ es, d = .obj C al es) ∧ Q d
/-- o.m(k = v, ..) -/
def wMethKw (ob : D → Bool) (ix : List Nat) (c : WC) (we : WE) (wb : WA) : WE := fun ρ Q => we ρ fun d => ob d = true ∧ wb ρ fun es => c (permV ix [d] es) Q
/-! a new list, appended to and dropped -/
def wAppDrop (we wx : WE) : WS := fun E ρ => we ρ fun d => match d with | .lst ds => ds.length < many ∧ wx ρ fun _ => E.nx ρ | _ => False
/-- xs[k] = xs.pop(), xs of one's own -/
def wPutPop (i : Nat) (wj : WE) : WS := fun D ρ => match ρ[i]? with
  | some (.ow ds) => (match ds[ds.length - 1]? with
    | some d => wj (ρ.set i (.ow ds.dropLast)) fun e => (match e with | .int k => (match ixN ds.dropLast.length k with | some j => D.nx (ρ.set i (.ow (ds.dropLast.set j d))) | none => False) | _ => False)
    | none => False)
  | _ => False
end
end TP
/-! TPV -/
set_option maxHeartbeats 4000000
/-! # == and != by an own __eq__, of an object and anything -/
namespace TPX
open PySem PySem.Spec PyProof.Rows PySem.SeqAt
section
variable {M : Model} {prog : Program} {w : World} {A : Around} {E : Value → Shared → Prop} {s : Shared} {K : PySem.W.Frag} {x C : Addr} {y : Value} {ox : Obj} {od : Option Obj} {h₀ : Heap} {L : Addr} {m : Str → Option Value}
end
end TPX
namespace TP
open PySem PySem.Spec PyProof.Rows L2
/-- x == y, x != y, x an object of C, y anything that is no kind of C before it -/
def rOwnA (K : Fr) (C : Addr) (sp : Sp) (neg : Bool) : R2 := fun x y H Q => ∃ a dx fs t, x = .ref a ∧ H a = some (.ins C dx fs) ∧ TyX K H y t ∧ PySem.W.notFirst K C t = true ∧ sp [x, y] H (fun v H' => ∃ r : Bool, v = .bl r ∧ Q (.bl (r != neg)) H') E0
section
variable {X : Cx} {k : Nat} {f C : Addr} {fd : FuncData} {ps : List Str} {sp : Sp}
end
/-! over data -/
section
variable {K : Fr} {pa : Addr} {H0 F F' F'' H H' H'' : Hp} {ρ : GE} {σ : L2.St}
/-- what may stand on the right of an own ==: the same class, another of these, or plain data -/
def anyR (C : Str) (os : List Str) : D → Bool
  | .obj C' _ _ => decide (C' = C) || decide (C' ∈ os)
  | .fld _ => decide (("Field" : Str) = C) || decide (("Field" : Str) ∈ os)
  | .fn _ | .pot => false
  | _ => true
def fOwnA (ob : D → Bool) (C : Str) (os : List Str) (c : WC) (neg : Bool) : D → D → (D → Prop) → Prop := fun d e Q => (ob d = true ∧ anyR C os e = true) ∧ c [d, e] fun r => match r with | .bl b => Q (.bl (b != neg)) | _ => False
end
end TP
/-! DLQ -/
set_option maxHeartbeats 4000000
/-! # The text of anything plain, dicts too -/
namespace TP
open PySem PySem.Spec PyProof.Rows L2
mutual
def D.px : D → PyData
  | .non => .none
  | .bl b => .bool b
  | .int i => .int i
  | .str s => .str s
  | .lst xs => .list (D.pxs xs)
  | .tup xs => .tuple (D.pxs xs)
  | .dct ks ds => .dict ((ks.map PyData.str).zip (D.pxs ds))
  | .dci ks ds => .dict ((ks.map PyData.int).zip (D.pxs ds))
  | .fld _ | .obj _ _ _ | .fn _ | .pot => .none
def D.pxs : List D → List PyData
  | [] => []
  | d :: ds => d.px :: D.pxs ds
end
theorem pxs_len : ∀ ds : List D, (D.pxs ds).length = ds.length
  | [] => by unfold D.pxs; rfl
  | d :: ds => by unfold D.pxs; rw [List.length_cons, List.length_cons, pxs_len ds]
def smallI (i : Int) : Bool := decide (i.natAbs < 10 ^ 30)
mutual
/-- plain: no object, no function; ints below 10 ^ 30 -/
def D.plB : D → Bool
  | .non | .bl _ | .str _ => true
  | .int i => smallI i
  | .lst xs | .tup xs => D.plBs xs
  | .dct ks ds => decide (ks.length = ds.length) && D.plBs ds
  | .dci ks ds => (decide (ks.length = ds.length) && ks.all smallI) && D.plBs ds
  | .fld _ | .obj _ _ _ | .fn _ | .pot => false
def D.plBs : List D → Bool
  | [] => true
  | d :: ds => d.plB && D.plBs ds
end
theorem log_small30 {n : Nat} (h : n < 10 ^ 30) : n.log2 < 1920 := by
  by_cases z : n = 0
  · rw [z]; decide
  · exact Nat.lt_of_lt_of_le ((Nat.log2_lt z).mpr (show n < 2 ^ 100 by omega)) (by decide)
section
variable {X : Cx} {pins : List (Addr × Obj)} {σ : L2.St} {H F : Hp} {s : Shared} {pa : Addr}
theorem pairs_two {P : Program} {w : World} {es : List DictEntry} {kvs : List (Key × Value)} (h : Pairs (mixKind P w) es kvs) : es.map (·.val) = kvs.map (·.2) ∧ Paired (fun (e : Value) (k : Key) => keyIs k e = true) (es.map (·.key)) (kvs.map (·.1)) := by
  induction h with
  | nil => exact ⟨rfl, .nil⟩
  | cons h1 h2 _ ih =>
    refine ⟨?_, .cons h1 ih.2⟩
    rw [List.map_cons, List.map_cons, h2, ih.1]
/-- keys told -/
theorem keysI : ∀ {ks : List Int} {us : List Value}, Paired (fun (e : Value) (k : Key) => keyIs k e = true) us (ks.map Sum.inl) → (∀ k ∈ ks, smallI k = true) → (∃ as, ReadsAll s.heap us (ks.map PyData.int) as) ∧ ∀ d, ReprAllK X.prog X.w [] s.heap d us (PyData.shownAll (ks.map PyData.int))
  | [], us, h, _ => by
    cases h
    exact ⟨⟨_, .nil⟩, fun d => by simp only [List.map_nil, PyData.shownAll]; exact .nil⟩
  | k :: ks, us, h, hs => by
    cases h with
    | cons h1 h2 =>
      obtain ⟨⟨as, i1⟩, i2⟩ := keysI h2 fun z hz => hs z (List.mem_cons_of_mem _ hz)
      rcases keyIs_shape h1 with ⟨i, t, e1, rfl⟩ | ⟨x, t, e1, _⟩
      · cases e1
        refine ⟨⟨_, .cons (.int k t) i1⟩, fun d => ?_⟩
        simp only [List.map_cons, PyData.shownAll, PyData.shown]
        exact .cons (ReprK.of_is (ReprIs.int t (log_small30 (of_decide_eq_true (hs k List.mem_cons_self)))) _ _ _) (i2 d)
      · cases e1
theorem keysS : ∀ {ks : List Str} {us : List Value}, Paired (fun (e : Value) (k : Key) => keyIs k e = true) us (ks.map Sum.inr) → (∀ t ∈ PyData.shownAll (ks.map PyData.str), t.length ≤ sizeLine) → (∃ as, ReadsAll s.heap us (ks.map PyData.str) as) ∧ ∀ d, ReprAllK X.prog X.w [] s.heap d us (PyData.shownAll (ks.map PyData.str))
  | [], us, h, _ => by
    cases h
    exact ⟨⟨_, .nil⟩, fun d => by simp only [List.map_nil, PyData.shownAll]; exact .nil⟩
  | k :: ks, us, h, hs => by
    cases h with
    | cons h1 h2 =>
      have hk := hs (reprText k) (by simp only [List.map_cons, PyData.shownAll, PyData.shown]; exact List.mem_cons_self)
      obtain ⟨⟨as, i1⟩, i2⟩ := keysS h2 fun z hz => hs z (by simp only [List.map_cons, PyData.shownAll]; exact List.mem_cons_of_mem _ hz)
      rcases keyIs_shape h1 with ⟨i, t, e1, _⟩ | ⟨x, t, e1, rfl⟩
      · cases e1
      · cases e1
        refine ⟨⟨_, .cons (.str k t) i1⟩, fun d => ?_⟩
        simp only [List.map_cons, PyData.shownAll, PyData.shown]
        exact .cons (ReprK.of_is (ReprIs.str k t hk) _ _ _) (i2 d)
theorem kv_parts : ∀ {ks : List Key} {vs : List V} {kws : List (Key × Value)}, ks.length = vs.length → KV (ks.zip vs) kws → kws.map (·.1) = ks ∧ Vals vs (kws.map (·.2))
  | [], [], _, _, h => by cases h; exact ⟨rfl, .nil⟩
  | [], _ :: _, _, l, _ => by cases l
  | _ :: _, [], _, l, _ => by cases l
  | k :: ks, v :: vs, _, l, h => by
    cases h with
    | cons h1 h2 =>
      obtain ⟨i1, i2⟩ := kv_parts (by simpa using l) h2
      obtain ⟨e1, e2⟩ := h1
      refine ⟨?_, ?_⟩
      · rw [List.map_cons, i1]; exact congrArg (· :: ks) e1.symm
      · exact .cons e2 i2
theorem zip_keys (ks : List PyData) (ds : List D) (h : ks.length = ds.length) : (ks.zip (D.pxs ds)).map (·.1) = ks ∧ (ks.zip (D.pxs ds)).map (·.2) = D.pxs ds := by
  have hl := pxs_len ds
  exact ⟨List.map_fst_zip (by omega), List.map_snd_zip (by omega)⟩
def RkOf (P : Program) (w : World) (h₀ : Heap) (u : Value) (x : PyData) : Prop := (∃ as, Reads h₀ u x as) ∧ ∃ bs, ReadAtMost h₀ x.depth bs ∧ ReprK P w bs h₀ x.depth u x.shown
def RksOf (P : Program) (w : World) (h₀ : Heap) (us : List Value) (xs : List PyData) : Prop := (∃ as, ReadsAll h₀ us xs as) ∧ ∃ bs, ReadAtMost h₀ (PyData.depthAll xs) bs ∧ ReprAllK P w bs h₀ (PyData.depthAll xs) us (PyData.shownAll xs)
/-- a dict, its keys and what it holds being told -/
theorem rk_dict {P : Program} {w : World} {h₀ : Heap} {a : Addr} {kvs : List (PyData × PyData)} {o : Obj} {es : Array DictEntry} {ep : Nat} (h1 : h₀.get? a = some o) (h2 : o.cls = .type "dict") (h3 : o.data = .dict es ep) (hs : (a == sysModules) = false)
    (hk : (∃ as, ReadsAll h₀ (es.toList.map (·.key)) (kvs.map (·.1)) as) ∧ ∀ d, ReprAllK P w [] h₀ d (es.toList.map (·.key)) (PyData.shownAll (kvs.map (·.1))))
    (hv : RksOf P w h₀ (es.toList.map (·.val)) (kvs.map (·.2))) : RkOf P w h₀ (.ref a) (.dict kvs) := by
  obtain ⟨⟨as, k1⟩, k2⟩ := hk
  obtain ⟨⟨bs, v1⟩, cs, v2, v3⟩ := hv
  have rd : Reads h₀ (.ref a) (.dict kvs) (a :: as ++ bs) := .dict h1 h2 h3 k1 v1
  have v4 : ReadAtMost h₀ (PyData.depthKv kvs) cs := v2.mono (PyData.depthAll_vals_le kvs)
  have out : a ∉ cs := not_mem_of_deeper rd (by simp only [PyData.depth]; omega) v4
  refine ⟨⟨_, rd⟩, a :: cs, ReadAtMost.cons rd (by simp only [PyData.depth]; omega) v4, ?_⟩
  simp only [PyData.depth, PyData.shown, PyData.shownKv_eq]
  exact ReprK.dict h1 h2 h3 hs out (ReprEntriesK.of_two es.toList _ _ ((k2 (PyData.depthKv kvs)).more_le (fun b hb => by cases hb) (Nat.le_refl _)) (v3.more_le (fun _ hb => hb) (PyData.depthAll_vals_le kvs)))
theorem kv_fit {kvs : List (PyData × PyData)} (h : (PyData.dict kvs).shown.length ≤ sizeLine) : (∀ t ∈ PyData.shownAll (kvs.map (·.1)), t.length ≤ sizeLine) ∧ ∀ t ∈ PyData.shownAll (kvs.map (·.2)), t.length ≤ sizeLine := by
  simp only [PyData.shown] at h
  exact ⟨fun t ht => let ⟨p, hp, hl⟩ := PyData.shownKv_key_le kvs t ht; Nat.le_trans hl (Nat.le_trans (dictText_mem_le hp) h), fun t ht => let ⟨p, hp, hl⟩ := PyData.shownKv_val_le kvs t ht; Nat.le_trans hl (Nat.le_trans (dictText_mem_le hp) h)⟩
mutual
theorem D.rk (I : Inv X pins σ H s) (b : Ex F H) : ∀ (d : D) (v : V) (u : Value), d.plB = true → Rep X.K pa F d v → RelV v u → d.px.shown.length ≤ sizeLine → RkOf X.prog X.w s.heap u d.px
  | .non, v, u, _, r, ru, _ => by
    rw [r.non_inv] at ru
    cases ru
    unfold D.px RkOf
    exact ⟨⟨_, .none⟩, [], (fun _ h => nomatch h), by simp only [PyData.shown]; exact .of_is ReprIs.none _ _ _⟩
  | .bl x, v, u, _, r, ru, _ => by
    rw [r.bl_inv] at ru
    cases ru
    unfold D.px RkOf
    exact ⟨⟨_, .bool x⟩, [], (fun _ h => nomatch h), by simp only [PyData.shown]; exact .of_is (ReprIs.bool x) _ _ _⟩
  | .int i, v, u, p, r, ru, _ => by
    rw [r.int_inv] at ru
    obtain ⟨t, rfl⟩ := ru
    unfold D.plB at p
    unfold D.px RkOf
    exact ⟨⟨_, .int i t⟩, [], (fun _ h => nomatch h), by simp only [PyData.shown]; exact .of_is (ReprIs.int t (log_small30 (of_decide_eq_true p))) _ _ _⟩
  | .str x, v, u, _, r, ru, fit => by
    rw [r.str_inv] at ru
    obtain ⟨t, rfl⟩ := ru
    unfold D.px at fit
    unfold D.px RkOf
    exact ⟨⟨_, .str x t⟩, [], (fun _ h => nomatch h), by simp only [PyData.shown]; exact .of_is (ReprIs.str x t (by simpa only [PyData.shown] using fit)) _ _ _⟩
  | .lst ds, v, u, p, r, ru, fit => by
    obtain ⟨a, vs, rfl, h1, h2⟩ := r.lst_inv
    cases ru
    unfold D.plB at p
    unfold D.px at fit ⊢
    simp only [PyData.shown] at fit
    obtain ⟨its, rv, ⟨o, n, ho, hc, _, hd⟩, _⟩ := I.list (sqL (b _ _ h1))
    obtain ⟨⟨as, k1⟩, cs, k2, k3⟩ := D.rks I b ds vs its p h2 rv fun t ht => Nat.le_trans (listText_mem_le ht) fit
    have rd : Reads s.heap (.ref a) (.list (D.pxs ds)) (a :: as) := .list ho hc hd k1
    have out : a ∉ cs := not_mem_of_deeper rd (by simp only [PyData.depth]; omega) k2
    refine ⟨⟨_, rd⟩, a :: cs, ReadAtMost.cons rd (by simp only [PyData.depth]; omega) k2, ?_⟩
    simp only [PyData.depth, PyData.shown]
    cases its with
    | nil =>
      cases rv
      obtain rfl : ds = [] := List.length_eq_zero_iff.mp h2.len.symm
      simp only [D.pxs, PyData.shownAll, listText_nil]
      exact ReprK.listEmpty ho hc hd
    | cons y its => exact ReprK.list ho hc hd out (by simpa using k3.length_eq) fun i z e => k3.item i z (by simpa using e)
  | .tup ds, v, u, p, r, ru, fit => by
    obtain ⟨a, vs, rfl, h1, h2⟩ := r.tup_inv
    cases ru
    unfold D.plB at p
    unfold D.px at fit ⊢
    simp only [PyData.shown] at fit
    obtain ⟨its, rv, ⟨o, ho, hc, n, hd⟩, _⟩ := I.tuple (b.tup h1)
    obtain ⟨⟨as, k1⟩, cs, k2, k3⟩ := D.rks I b ds vs its p h2 rv fun t ht => Nat.le_trans (tupleText_mem_le ht) fit
    have rd : Reads s.heap (.ref a) (.tuple (D.pxs ds)) as := .tuple ho hc hd k1
    have out : a ∉ cs := not_mem_of_deeper rd (by simp only [PyData.depth]; omega) k2
    refine ⟨⟨_, rd⟩, a :: cs, ReadAtMost.cons rd (by simp only [PyData.depth]; omega) k2, ?_⟩
    simp only [PyData.depth, PyData.shown]
    exact ReprK.tuple ho hc hd out k3
  | .dct ks ds, v, u, p, r, ru, fit => by
    obtain ⟨a, vs, rfl, h1, h2⟩ := r.dct_inv
    cases ru
    unfold D.plB at p
    rw [Bool.and_eq_true, decide_eq_true_eq] at p
    unfold D.px at fit ⊢
    obtain ⟨z1, z2⟩ := zip_keys (ks.map PyData.str) ds (by rw [List.length_map]; exact p.1)
    obtain ⟨f1, f2⟩ := kv_fit fit
    rw [z1] at f1
    rw [z2] at f2
    obtain ⟨_, hs, kws, kv, o, es, ep, ho, hc, hd, _, pr, _⟩ := (show ObjOk X.prog X.w H s.heap a (.dK _) from I.hok a _ (b _ _ h1))
    obtain ⟨e1, e2⟩ := kv_parts (by rw [List.length_map, h2.len]; exact p.1) kv
    obtain ⟨g1, g2⟩ := pairs_two pr
    rw [e1] at g2
    refine rk_dict ho hc.1 hd hs ?_ ?_
    · rw [z1]; exact keysS g2 f1
    · rw [z2, g1]; exact D.rks I b ds vs _ p.2 h2 e2 f2
  | .dci ks ds, v, u, p, r, ru, fit => by
    obtain ⟨a, vs, rfl, h1, h2⟩ := r.dci_inv
    cases ru
    unfold D.plB at p
    rw [Bool.and_eq_true, Bool.and_eq_true, decide_eq_true_eq, List.all_eq_true] at p
    unfold D.px at fit ⊢
    obtain ⟨z1, z2⟩ := zip_keys (ks.map PyData.int) ds (by rw [List.length_map]; exact p.1.1)
    obtain ⟨f1, f2⟩ := kv_fit fit
    rw [z2] at f2
    obtain ⟨_, hs, kws, kv, o, es, ep, ho, hc, hd, _, pr, _⟩ := (show ObjOk X.prog X.w H s.heap a (.dK _) from I.hok a _ (b _ _ h1))
    obtain ⟨e1, e2⟩ := kv_parts (by rw [List.length_map, h2.len]; exact p.1.1) kv
    obtain ⟨g1, g2⟩ := pairs_two pr
    rw [e1] at g2
    refine rk_dict ho hc.1 hd hs ?_ ?_
    · rw [z1]; exact keysI g2 p.1.2
    · rw [z2, g1]; exact D.rks I b ds vs _ p.2 h2 e2 f2
  | .fld _, _, _, p, _, _, _ => by unfold D.plB at p; cases p
  | .obj _ _ _, _, _, p, _, _, _ => by unfold D.plB at p; cases p
  | .fn _, _, _, p, _, _, _ => by unfold D.plB at p; cases p
  | .pot, _, _, p, _, _, _ => by unfold D.plB at p; cases p
theorem D.rks (I : Inv X pins σ H s) (b : Ex F H) : ∀ (ds : List D) (vs : List V) (us : List Value), D.plBs ds = true → RepL X.K pa F ds vs → Vals vs us → (∀ t ∈ PyData.shownAll (D.pxs ds), t.length ≤ sizeLine) → RksOf X.prog X.w s.heap us (D.pxs ds)
  | [], vs, us, _, r, ru, _ => by
    cases r.nil_inv
    cases ru
    unfold D.pxs RksOf
    exact ⟨⟨_, .nil⟩, [], (fun _ h => nomatch h), by simp only [PyData.shownAll]; exact .nil⟩
  | d :: ds, vs, us, p, r, ru, fit => by
    obtain ⟨v, ws, rfl, h1, h2⟩ := r.cons_inv
    unfold D.plBs at p
    rw [Bool.and_eq_true] at p
    unfold D.pxs at fit ⊢
    cases ru with
    | cons r1 r2 =>
      obtain ⟨⟨as, a1⟩, cs, a2, a3⟩ := D.rk I b d v _ p.1 h1 r1 (fit _ (by simp only [PyData.shownAll]; exact List.mem_cons_self))
      obtain ⟨⟨bs, b1⟩, es, b2, b3⟩ := D.rks I b ds ws _ p.2 h2 r2 fun t ht => fit t (by simp only [PyData.shownAll]; exact List.mem_cons_of_mem _ ht)
      refine ⟨⟨_, .cons a1 b1⟩, cs ++ es, (a2.mono ?_).append (b2.mono ?_), ?_⟩
      · simp only [PyData.depthAll]; exact Nat.le_max_left _ _
      · simp only [PyData.depthAll]; exact Nat.le_max_right _ _
      · simp only [PyData.depthAll, PyData.shownAll]
        exact .cons ((a3.more fun x hx => List.mem_append_left _ hx).level_le (Nat.le_max_left _ _)) (b3.more_le (fun x hx => List.mem_append_right _ hx) (Nat.le_max_right _ _))
end
theorem top_dict {Q : Value → Shared → Prop} {E : Value → Shared → Prop} {a : Addr} {kvs : List (PyData × PyData)} {o : Obj} {es : Array DictEntry} {ep : Nat} (gd : X.A.guards = some []) (un : X.A.units + 64 < cLine) (h1 : s.heap.get? a = some o) (h2 : o.cls = .type "dict") (h3 : o.data = .dict es ep) (hs : (a == sysModules) = false)
    (dp : (PyData.dict kvs).depth ≤ 20) (fit : (PyData.dict kvs).shown.length ≤ sizeLine)
    (hk : (∃ as, ReadsAll s.heap (es.toList.map (·.key)) (kvs.map (·.1)) as) ∧ ∀ d, ReprAllK X.prog X.w [] s.heap d (es.toList.map (·.key)) (PyData.shownAll (kvs.map (·.1))))
    (hv : RksOf X.prog X.w s.heap (es.toList.map (·.val)) (kvs.map (·.2)))
    (q : ∀ h' u tk, (∀ b o, s.heap.get? b = some o → h'.get? b = some o) → ∃ x t, Value.str (PyData.dict kvs).shown u = .str x t ∧ Q (.str (PyData.dict kvs).shown u) { s with heap := h', toks := tk }) : wpAny (model X.prog X.w) X.A (call (.builtin "repr") [.ref a]) Q E s := by
  obtain ⟨⟨as, k1⟩, k2⟩ := hk
  obtain ⟨⟨bs, v1⟩, cs, v2, v3⟩ := hv
  have rd : Reads s.heap (.ref a) (.dict kvs) (a :: as ++ bs) := .dict h1 h2 h3 k1 v1
  have v4 : ReadAtMost s.heap (PyData.depthKv kvs) cs := v2.mono (PyData.depthAll_vals_le kvs)
  have out : a ∉ cs := not_mem_of_deeper rd (by simp only [PyData.depth]; omega) v4
  simp only [PyData.depth] at dp
  simp only [PyData.shown, PyData.shownKv_eq] at fit q
  refine call_repr_slot (by omega) ⟨o, h1, h2⟩ PySem.F.slot_dict_repr ?_
  exact call_dict_reprK h1 h2 h3 hs out (ReprEntriesK.of_two es.toList _ _ ((k2 (PyData.depthKv kvs)).more_le (fun b hb => by cases hb) (Nat.le_refl _)) (v3.more_le (fun _ hb => hb) (PyData.depthAll_vals_le kvs))) gd (fun b _ => Clear.nil b) (by show X.A.units + 1 + _ < cLine; omega) (fun _ _ z => z) q fit
/-- repr(x), x plain -/
def rReprX (K : Fr) : List V → Hp → VK → Prop := fun xs Z Q => ∃ (x : V) (d : D) (pa : Addr) (F : Hp), xs = [x] ∧ Ex F Z ∧ Rep K pa F d x ∧ d.plB = true ∧ d.px.depth ≤ 20 ∧ d.px.shown.length ≤ sizeLine ∧ Q (.str d.px.shown) Z
theorem call_reprP {X : Cx} (gd : X.A.guards = some []) (un : X.A.units + 64 < cLine) : CallR X (.builtin "repr") (rReprX X.K) := by
  intro pins s σ Z xs us Q I rel pre
  obtain ⟨x, d, pa, F, rfl, ex, rp, pl, dp, fit, q⟩ := pre
  obtain ⟨u, rfl, ru⟩ := vals1 rel
  cases d with
  | non =>
    rw [rp.non_inv] at ru
    cases ru
    unfold D.px at q
    exact PySem.P.repr_of_none ⟨.str "None", Z, I.tok _, ⟨_, rfl⟩, by simpa [PyData.shown] using q⟩
  | bl b =>
    rw [rp.bl_inv] at ru
    cases ru
    unfold D.px at q
    exact PySem.P.repr_of_bool ⟨.str _, Z, I.tok _, ⟨_, rfl⟩, by simpa [PyData.shown] using q⟩
  | int i =>
    rw [rp.int_inv] at ru
    obtain ⟨t, rfl⟩ := ru
    unfold D.px at q
    unfold D.plB at pl
    exact PySem.P.repr_of_int (log_small30 (of_decide_eq_true pl)) ⟨.str _, Z, I.tok _, ⟨_, rfl⟩, by simpa [PyData.shown] using q⟩
  | str y =>
    rw [rp.str_inv] at ru
    obtain ⟨t, rfl⟩ := ru
    unfold D.px at q fit
    refine PySem.P.repr_of_str ⟨.str _, Z, I.tok _, ⟨_, rfl⟩, by simpa [PyData.shown] using q⟩ ?_
    simpa [PyData.shown] using fit
  | lst ds =>
    obtain ⟨a, vs, rfl, h1, h2⟩ := rp.lst_inv
    cases ru
    unfold D.plB at pl
    unfold D.px at fit q dp
    simp only [PyData.shown] at fit q
    simp only [PyData.depth] at dp
    obtain ⟨its, rv, ⟨o, n, ho, hc, _, hd⟩, _⟩ := I.list (sqL (ex _ _ h1))
    obtain ⟨⟨as, k1⟩, cs, k2, k3⟩ := D.rks I ex ds vs its pl h2 rv fun t ht => Nat.le_trans (listText_mem_le ht) fit
    have rd : Reads s.heap (.ref a) (.list (D.pxs ds)) (a :: as) := .list ho hc hd k1
    have out : a ∉ cs := not_mem_of_deeper rd (by simp only [PyData.depth]; omega) k2
    refine call_repr_slot (by omega) ⟨o, ho, hc⟩ PySem.F.slot_list_repr.toG ?_
    cases its with
    | nil =>
      cases rv
      obtain rfl : ds = [] := List.length_eq_zero_iff.mp h2.len.symm
      simp only [D.pxs, PyData.shownAll, listText_nil] at q
      exact call_list_repr_empty ⟨o, ho, hc⟩ ho hd ⟨_, _, rfl, ⟨.str _, Z, I.tok _, ⟨_, rfl⟩, q⟩⟩
    | cons y its => exact call_list_reprK ho hc hd out (by simpa using k3.length_eq) (fun i z e => k3.item i z (by simpa using e)) gd (fun b _ => Clear.nil b) (by show X.A.units + 1 + _ < cLine; omega) (fun _ _ z => z) (fun h' u tk keep => ⟨_, _, rfl, ⟨.str _, Z, I.kept keep, ⟨u, rfl⟩, q⟩⟩) fit
  | tup ds =>
    obtain ⟨a, vs, rfl, h1, h2⟩ := rp.tup_inv
    cases ru
    unfold D.plB at pl
    unfold D.px at fit q dp
    simp only [PyData.shown] at fit q
    simp only [PyData.depth] at dp
    obtain ⟨its, rv, ⟨o, ho, hc, n, hd⟩, _⟩ := I.tuple (ex.tup h1)
    obtain ⟨⟨as, k1⟩, cs, k2, k3⟩ := D.rks I ex ds vs its pl h2 rv fun t ht => Nat.le_trans (tupleText_mem_le ht) fit
    have rd : Reads s.heap (.ref a) (.tuple (D.pxs ds)) as := .tuple ho hc hd k1
    have out : a ∉ cs := not_mem_of_deeper rd (by simp only [PyData.depth]; omega) k2
    refine call_repr_slot (by omega) ⟨o, ho, hc⟩ PySem.F.slot_tuple_repr ?_
    exact call_tuple_reprK ho hc hd out k3 gd (fun b _ => Clear.nil b) (by show X.A.units + 1 + _ < cLine; omega) (fun _ _ z => z) (fun h' u tk keep => ⟨_, _, rfl, ⟨.str _, Z, I.kept keep, ⟨u, rfl⟩, q⟩⟩) fit
  | dct ks ds =>
    obtain ⟨a, vs, rfl, h1, h2⟩ := rp.dct_inv
    cases ru
    unfold D.plB at pl
    rw [Bool.and_eq_true, decide_eq_true_eq] at pl
    unfold D.px at fit q dp
    obtain ⟨z1, z2⟩ := zip_keys (ks.map PyData.str) ds (by rw [List.length_map]; exact pl.1)
    obtain ⟨f1, f2⟩ := kv_fit fit
    rw [z1] at f1
    rw [z2] at f2
    obtain ⟨_, hs, kws, kv, o, es, ep, ho, hc, hd, _, pr, _⟩ := (show ObjOk X.prog X.w Z s.heap a (.dK _) from I.hok a _ (ex _ _ h1))
    obtain ⟨e1, e2⟩ := kv_parts (by rw [List.length_map, h2.len]; exact pl.1) kv
    obtain ⟨g1, g2⟩ := pairs_two pr
    rw [e1] at g2
    have kk := keysS (X := X) (s := s) g2 f1
    have vv := D.rks I ex ds vs _ pl.2 h2 e2 f2
    rw [← z1] at kk
    rw [← z2, ← g1] at vv
    exact top_dict gd un ho hc.1 hd hs dp fit kk vv (fun h' u tk keep => ⟨_, _, rfl, ⟨.str _, Z, I.kept keep, ⟨u, rfl⟩, q⟩⟩)
  | dci ks ds =>
    obtain ⟨a, vs, rfl, h1, h2⟩ := rp.dci_inv
    cases ru
    unfold D.plB at pl
    rw [Bool.and_eq_true, Bool.and_eq_true, decide_eq_true_eq, List.all_eq_true] at pl
    unfold D.px at fit q dp
    obtain ⟨z1, z2⟩ := zip_keys (ks.map PyData.int) ds (by rw [List.length_map]; exact pl.1.1)
    obtain ⟨f1, f2⟩ := kv_fit fit
    rw [z2] at f2
    obtain ⟨_, hs, kws, kv, o, es, ep, ho, hc, hd, _, pr, _⟩ := (show ObjOk X.prog X.w Z s.heap a (.dK _) from I.hok a _ (ex _ _ h1))
    obtain ⟨e1, e2⟩ := kv_parts (by rw [List.length_map, h2.len]; exact pl.1.1) kv
    obtain ⟨g1, g2⟩ := pairs_two pr
    rw [e1] at g2
    have kk := keysI (X := X) (s := s) g2 pl.1.2
    have vv := D.rks I ex ds vs _ pl.2 h2 e2 f2
    rw [← z1] at kk
    rw [← z2, ← g1] at vv
    exact top_dict gd un ho hc.1 hd hs dp fit kk vv (fun h' u tk keep => ⟨_, _, rfl, ⟨.str _, Z, I.kept keep, ⟨u, rfl⟩, q⟩⟩)
  | fld _ => unfold D.plB at pl; cases pl
  | obj _ _ _ => unfold D.plB at pl; cases pl
  | fn _ => unfold D.plB at pl; cases pl
  | pot => unfold D.plB at pl; cases pl
theorem call_reprX {X : Cx} {k : Nat} (gd : X.A.guards = some []) (room : Room k X.A) : CallR X (.builtin "repr") (rReprX X.K) := call_reprP gd room.units
/-- repr(x), x plain or a field -/
def rReprU (K : Fr) (sp : Sp) : List V → Hp → VK → Prop := fun xs Z Q => rReprX K xs Z Q ∨ rReprOwn (He.ga K "Field") sp xs Z Q
end
section
variable {K : Fr} {pa : Addr} {H0 F F' F'' H H' H'' : Hp} {ρ : GE} {σ : L2.St}
def D.shx (d : D) : Prop := d.plB = true ∧ d.px.depth ≤ 20 ∧ d.px.shown.length ≤ sizeLine
def fReprU (c : WC) : WC := fun ds Q => match ds with
  | [.fld G] => c [.fld G] fun r => match r with | .str y => Q (.str y) | _ => False
  | [d] => d.shx ∧ Q (.str d.px.shown)
  | _ => False
end
end TP
/-! DLW -/
set_option maxHeartbeats 4000000
/-! # What kind anything is, over data -/
namespace TP
open PySem PySem.Spec PyProof.Rows L2
structure IsPs (K : Fr) (os : List Str) : Prop where
  no : ∀ C ∈ os, ∀ T ∈ tyNs, PySem.W.mroIn K (He.ga K C) (.type T) = some false
theorem ipB_ok {K : Fr} {os : List Str} (h : ipB K os = true) : IsPs K os := ⟨fun C hC T hT => of_decide_eq_true (List.all_eq_true.mp (List.all_eq_true.mp h C hC) T hT)⟩
theorem ty_meta : ∀ T ∈ tyNs, PySem.W.kitMeta T = true := by decide +kernel
theorem kit_own {K : Fr} {os : List Str} (ip : IsPs K os) {C : Str} {T : String} (hC : C ∈ os) (hT : T ∈ tyNs) : PySem.W.kitOne K (.ref (He.ga K C)) (.type T) = some false := by
  unfold PySem.W.kitOne PySem.W.kitCls
  rw [show (Value.ref (He.ga K C) == Value.type T) = false from rfl, if_neg Bool.false_ne_true]
  simp only [ty_meta T hT, if_true]
  exact ip.no C hC T hT
theorem ty_known : ∀ t ∈ (["NoneType", "bool", "int", "str", "list", "tuple", "dict"] : List String), ∀ T ∈ tyNs, (kitB t T).isSome = true := by decide +kernel
/-- its kind is known -/
def D.okU (os : List Str) : D → Bool
  | .fld _ => decide (("Field" : Str) ∈ os)
  | .obj C _ _ => decide (C ∈ os)
  | .fn _ | .pot => false
  | _ => true
def D.isT (T : String) (d : D) : Bool := match d.ty with | some t => (kitB t T).getD false | none => false
theorem ty_in : ∀ {d : D} {t : String}, d.ty = some t → t ∈ (["NoneType", "bool", "int", "str", "list", "tuple", "dict"] : List String) := fun {d t} e => by
  cases d <;> first | (cases e; done) | (cases e; decide)
section
variable {K : Fr} {pa : Addr} {H0 F F' F'' H H' H'' : Hp} {ρ : GE} {σ : L2.St} {te tk : TE} {we wk : WE} {wa : WA} {os : List Str}
theorem rep_tyU (ip : IsPs K os) {d : D} {v : V} (b : Bs pa F H) (r : RepB K pa F H d v) (h : d.okU os = true) : ∃ t, TyX K H v t ∧ ∀ T ∈ tyNs, PySem.W.kitOne K t (.type T) = some (d.isT T) := by
  have pl : ∀ {t : String}, d.ty = some t → ∃ u, TyX K H v u ∧ ∀ T ∈ tyNs, PySem.W.kitOne K u (.type T) = some (d.isT T) := fun {t} e => by
    refine ⟨_, rep_ty b r e, fun T hT => ?_⟩
    have := ty_known t (ty_in e) T hT
    unfold D.isT
    rw [e]
    show _ = some ((kitB t T).getD false)
    cases q : kitB t T with
    | none => rw [q] at this; cases this
    | some x => exact kit_ty q
  cases d with
  | non => exact pl rfl
  | bl _ => exact pl rfl
  | int _ => exact pl rfl
  | str _ => exact pl rfl
  | lst _ => exact pl rfl
  | tup _ => exact pl rfl
  | dct _ _ => exact pl rfl
  | dci _ _ => exact pl rfl
  | fn _ => cases h
  | pot => cases h
  | fld G =>
    obtain ⟨a, rfl, f⟩ := (r.rep (fun _ z => nomatch z)).fld_inv
    obtain ⟨c, o, dx, m, u, w, e, kvs, h1, _⟩ := f
    exact ⟨_, .base (.ins (b.ex _ _ h1) c.cls c.ha c.hn c.ht c.hm), fun T hT => kit_own ip (of_decide_eq_true h) hT⟩
  | obj C ns ds =>
    obtain ⟨c, a, dx, vs, rfl, h1, _⟩ := (r.rep (fun _ z => nomatch z)).obj_inv
    exact ⟨_, .base (.ins (b.ex _ _ h1) c.cls c.ha c.hn c.ht c.hm), fun T hT => kit_own ip (of_decide_eq_true h) hT⟩
def fIsiU (os : List Str) (T : String) : D → (D → Prop) → Prop := fun d Q => d.okU os = true ∧ Q (.bl (d.isT T))
theorem re_isiU {T : String} (ip : IsPs K os) (hT : T ∈ tyNs) (he : RE K .br te we) : RE K .fz (tCB (rIsi K) (tCons te (tCons (tC (.ty T)) tNil))) (wUn (fIsiU os T) we) := by
  intro pa H0 F H ρ σ Q Qd S w k
  refine he S w fun d v F' H' g S' r q => ?_
  obtain ⟨h, q⟩ := q
  obtain ⟨t, h1, h2⟩ := rep_tyU ip S'.bs r.lentI h
  exact ⟨v, _, t, .type T, _, rfl, .ty T, h1, h2 T hT, k _ _ _ _ g S' RepM.b q⟩
/-! the program's own looks at values -/
def D.belowD (n : Int) : D → Bool | .int i => decide (0 ≤ i) && decide (i < n) | _ => false
theorem rep_kd (ip : IsPs K os) {d : D} {v : V} (b : Bs pa F H) (r : Rep K pa F d v) (h : d.okU os = true) : Kd K H v ∧ ∀ n, below n v = d.belowD n := by
  have oth : (∀ i, d ≠ .int i) → (∀ x, d ≠ .bl x) → Kd K H v ∧ ∀ n, below n v = d.belowD n := fun ni nb => by
    obtain ⟨t, h1, h2⟩ := rep_tyU ip b (.inl r) h
    have hk := h2 "int" (by decide)
    have e : d.isT "int" = false := by
      cases d <;> first | rfl | (exact absurd rfl (ni _)) | (exact absurd rfl (nb _)) | (unfold D.isT D.ty; decide +kernel)
    rw [e] at hk
    refine ⟨.oth h1 hk, fun n => ?_⟩
    have hv : ∀ i, v ≠ .int i := fun i z => by
      subst z
      cases d <;> first | (exact absurd rfl (ni _)) | (exact absurd rfl (nb _)) | skip
      · cases r.non_inv
      · cases r.str_inv
      · obtain ⟨a, vs, e, _⟩ := r.lst_inv; cases e
      · obtain ⟨a, vs, e, _⟩ := r.tup_inv; cases e
      · obtain ⟨a, e, _⟩ := r.fld_inv; cases e
      · obtain ⟨_, a, dx, vs, e, _⟩ := r.obj_inv; cases e
      · cases h
      · obtain ⟨a, vs, e, _⟩ := r.dct_inv; cases e
      · obtain ⟨a, vs, e, _⟩ := r.dci_inv; cases e
      · cases h
    rw [show d.belowD n = false by cases d <;> first | rfl | (exact absurd rfl (ni _))]
    cases v <;> first | rfl | (exact absurd rfl (hv _))
  cases d with
  | int i => rw [r.int_inv]; exact ⟨.int i, fun n => rfl⟩
  | bl x => rw [r.bl_inv]; exact ⟨.bl x, fun n => rfl⟩
  | non => exact oth (fun _ z => nomatch z) (fun _ z => nomatch z)
  | str _ => exact oth (fun _ z => nomatch z) (fun _ z => nomatch z)
  | lst _ => exact oth (fun _ z => nomatch z) (fun _ z => nomatch z)
  | tup _ => exact oth (fun _ z => nomatch z) (fun _ z => nomatch z)
  | dct _ _ => exact oth (fun _ z => nomatch z) (fun _ z => nomatch z)
  | dci _ _ => exact oth (fun _ z => nomatch z) (fun _ z => nomatch z)
  | fld _ => exact oth (fun _ z => nomatch z) (fun _ z => nomatch z)
  | obj _ _ _ => exact oth (fun _ z => nomatch z) (fun _ z => nomatch z)
  | fn _ => cases h
  | pot => cases h
def c_is_oneU (os : List Str) : WC := fun ds Q => match ds with | [.fld F, d] => d.okU os = true ∧ Q (.bl (d.belowD F.size)) | _ => False
def c_is_belowU (os : List Str) : WC := fun ds Q => match ds with | [d, .int n] => d.okU os = true ∧ Q (.bl (d.belowD n)) | _ => False
def c_is_integerU (os : List Str) : WC := fun ds Q => match ds with | [d] => d.okU os = true ∧ Q (.bl (match d with | .int _ => true | _ => false)) | _ => False
def D.seqD : D → Option (List D) | .lst ds => some ds | .tup ds => some ds | _ => none
theorem rep_itm (ip : IsPs K os) {d : D} {v : V} (b : Bs pa F H) (r : Rep K pa F d v) (h : d.okU os = true) : (∃ ds vs, d.seqD = some ds ∧ Itm K H v (some vs) ∧ RepL K pa F ds vs) ∨ (d.seqD = none ∧ Itm K H v none) := by
  have oth : d.isT "list" = false → d.isT "tuple" = false → Itm K H v none := fun e1 e2 => by
    obtain ⟨t, h1, h2⟩ := rep_tyU ip b (.inl r) h
    exact .oth h1 (by rw [h2 "list" (by decide), e1]) (by rw [h2 "tuple" (by decide), e2])
  cases d with
  | lst ds =>
    obtain ⟨a, vs, rfl, h1, h2⟩ := r.lst_inv
    exact .inl ⟨ds, vs, rfl, .seq (.inl (sqL (b.ex _ _ h1))), h2⟩
  | tup ds =>
    obtain ⟨a, vs, rfl, h1, h2⟩ := r.tup_inv
    exact .inl ⟨ds, vs, rfl, .seq (.inr (b.ex.tup h1)), h2⟩
  | fn _ => cases h
  | pot => cases h
  | non => exact .inr ⟨rfl, oth (by show (kitB "NoneType" "list").getD false = false; decide +kernel) (by show (kitB "NoneType" "tuple").getD false = false; decide +kernel)⟩
  | bl _ => exact .inr ⟨rfl, oth (by show (kitB "bool" "list").getD false = false; decide +kernel) (by show (kitB "bool" "tuple").getD false = false; decide +kernel)⟩
  | int _ => exact .inr ⟨rfl, oth (by show (kitB "int" "list").getD false = false; decide +kernel) (by show (kitB "int" "tuple").getD false = false; decide +kernel)⟩
  | str _ => exact .inr ⟨rfl, oth (by show (kitB "str" "list").getD false = false; decide +kernel) (by show (kitB "str" "tuple").getD false = false; decide +kernel)⟩
  | dct _ _ => exact .inr ⟨rfl, oth (by show (kitB "dict" "list").getD false = false; decide +kernel) (by show (kitB "dict" "tuple").getD false = false; decide +kernel)⟩
  | dci _ _ => exact .inr ⟨rfl, oth (by show (kitB "dict" "list").getD false = false; decide +kernel) (by show (kitB "dict" "tuple").getD false = false; decide +kernel)⟩
  | fld _ => exact .inr ⟨rfl, oth rfl rfl⟩
  | obj _ _ _ => exact .inr ⟨rfl, oth rfl rfl⟩
theorem all_kd (ip : IsPs K os) (b : Bs pa F H) (n : Int) : ∀ {ds : List D} {vs : List V}, RepL K pa F ds vs → (ds.all (D.okU os)) = true → (∀ x ∈ vs, Kd K H x) ∧ vs.all (below n) = ds.all (D.belowD n)
  | [], vs, r, _ => by
    obtain rfl : vs = [] := List.length_eq_zero_iff.mp r.len
    exact ⟨(fun _ h => by cases h), rfl⟩
  | d :: ds, vs, r, h => by
    obtain ⟨v, ws, rfl, h1, h2⟩ := r.cons_inv
    rw [List.all_cons, Bool.and_eq_true] at h
    obtain ⟨i1, i2⟩ := all_kd ip b n h2 h.2
    obtain ⟨k1, k2⟩ := rep_kd ip b h1 h.1
    refine ⟨fun x hx => ?_, by rw [List.all_cons, List.all_cons, i2, k2]⟩
    rcases List.mem_cons.mp hx with rfl | hx
    · exact k1
    · exact i1 x hx
def D.allD (n : Int) (d : D) : Bool := match d.seqD with | some ds => ds.all (D.belowD n) | none => false
def D.okL (os : List Str) (d : D) : Prop := d.okU os = true ∧ ∀ ds, d.seqD = some ds → ds.length ≤ 100000 ∧ ds.all (D.okU os) = true
def c_are_belowU (os : List Str) : WC := fun ds Q => match ds with | [d, .int n] => d.okL os ∧ Q (.bl (d.allD n)) | _ => False
def c_is_listU (os : List Str) : WC := fun ds Q => match ds with | [d] => d.okU os = true ∧ Q (.bl d.seqD.isSome) | _ => False
/-! isinstance(x, (list, tuple)) -/
def fIsiTU (os : List Str) (A B : String) : D → (D → Prop) → Prop := fun d Q => d.okU os = true ∧ Q (.bl (d.isT A || d.isT B))
theorem re_isiTU {A B : String} (ip : IsPs K os) (hA : A ∈ tyNs) (hB : B ∈ tyNs) (he : RE K .br te we) : RE K .fz (tCB (rIsiT K) (tCons te (tCons (tTup (tCons (tC (.ty A)) (tCons (tC (.ty B)) tNil))) tNil))) (wUn (fIsiTU os A B) we) := by
  intro pa H0 F H ρ σ Q Qd S w k
  refine he S w fun d v F' H' g S' r q => ?_
  obtain ⟨h, q⟩ := q
  obtain ⟨t, h1, h2⟩ := rep_tyU ip S'.bs r.lentI h
  refine ⟨two_ok, fun p np => ?_⟩
  obtain ⟨g2, b2⟩ := gw_new (o := .tup [V.ty A, V.ty B]) S'.bs np
  have g' := Gw.trans S'.bs b2.np S.bs.po g g2
  refine ⟨v, p, _, t, _, (d.isT A || d.isT B), rfl, upd_same, .cons (.ty A) (.cons (.ty B) .nil), tyx_ex (genE rfl np) h1, ?_, k _ _ _ _ g' (S.grow g' b2) RepM.b q⟩
  have hb := h2 B hB
  unfold PySem.W.kitAny
  rw [h2 A hA]
  cases d.isT A
  · show PySem.W.kitAny K _ [_] = _
    unfold PySem.W.kitAny
    rw [hb]
    cases d.isT B <;> rfl
  · rfl
end
end TP
/-! DLM -/
set_option maxHeartbeats 4000000
/-! # is_modulus of any value -/
namespace TP
open PySem PySem.Spec PyProof.Rows L2
def D.intD : D → Int | .int i => i | _ => 0
def modV (p : Int) (d : D) : Bool := match d.seqD with
  | none => false
  | some ds => decide (3 ≤ ds.length) && decide (ds.length ≤ 13) && (ds.all (D.belowD p) && (decide ((ds.map D.intD).getLastD 0 = 1) && noPart p (ds.map D.intD)))
def c_is_modulusU (os : List Str) : WC := fun ds Q => match ds with | [.int p, d] => Prm p ∧ d.okL os ∧ Q (.bl (modV p d)) | _ => False
section
variable {K : Fr} {pa : Addr} {F H : Hp} {os : List Str}
theorem ints_same {n : Int} : ∀ {ds : List D} {vs : List V}, RepL K pa F ds vs → ds.all (D.belowD n) = true → vs.map intOf = ds.map D.intD
  | [], vs, r, _ => by
    obtain rfl : vs = [] := List.length_eq_zero_iff.mp r.len
    rfl
  | d :: ds, vs, r, h => by
    obtain ⟨v, ws, rfl, h1, h2⟩ := r.cons_inv
    rw [List.all_cons, Bool.and_eq_true] at h
    have e : v = .int d.intD := by
      cases d with
      | int i => exact h1.int_inv
      | _ => exact absurd h.1 Bool.false_ne_true
    rw [List.map_cons, List.map_cons, ints_same h2 h.2, e]; rfl
theorem ad_is_modulusU (ip : IsPs K os) : Ad K (sp_is_modulus K) .fz (c_is_modulusU os) := by
  rintro vs H Q E ⟨pa, F, ds, Qd, b, r, w, k⟩
  unfold c_is_modulusU at w
  split at w
  · obtain ⟨u, v, rfl, h2, h1⟩ := r2 r
    have e' := h2.int_inv
    subst e'
    obtain ⟨hp, ⟨h, hd⟩, w⟩ := w
    rename_i p d
    rcases rep_itm ip b h1 h with ⟨es, us, e1, e2, e3⟩ | ⟨e1, e2⟩
    · obtain ⟨d1, d2⟩ := hd es e1
      obtain ⟨k1, k2⟩ := all_kd ip b p e3 d2
      refine ⟨_, _, _, rfl, hp, e2, fun xs hx => ?_, ?_⟩
      · cases hx
        exact k1
      · have em : isModV p (some us) = modV p d := by
          unfold modV isModV
          rw [e1]
          dsimp only
          rw [e3.len, k2]
          cases c : es.all (D.belowD p) with
          | false => rw [Bool.false_and, Bool.false_and]
          | true => rw [ints_same e3 c]
        show Evl.RetV (.bl (isModV p (some us))) H Q
        rw [em]
        exact kV b (fun _ => Rep.b) k w
    · refine ⟨_, _, _, rfl, hp, e2, fun xs hx => (by cases hx), ?_⟩
      unfold modV at w
      rw [e1] at w
      exact kV b (fun _ => Rep.b) k w
  · exact w.elim
end
section
variable {K : Fr} {wA wB : WA} {tA tB : TA} {n k : Nat}
/-- Field(.., k = v, ..) -/
def wMakeFN (jx : List Nat) (wa wb : WA) : WE := fun ρ Q => wa ρ fun ds => wb ρ fun es => fMake (permV jx ds es) Q
end
section
variable {K : Fr}
namespace EqA
/-- Field.__eq__ of anything that is no object -/
def sp_Field_dot___eq__ (K : Fr) : Sp := fun vs H Q _ => ∃ a F ok v, vs = [.ref a, v] ∧ FA K H a F ok ∧ ((∃ b G ok', v = .ref b ∧ FA K H b G ok' ∧ Q (.bl (decide (F.p = G.p) && decide (F.md = G.md))) H) ∨ (∃ t, TyX K H v t ∧ PySem.W.kitOne K t (.ref (He.ga K "Field")) = some false ∧ Q (.bl false) H))
def t_Field_dot___eq__ (K : Fr) : TS := TP.t_Field_dot___eq__ K
def c_Field_dot___eq__ : WC := fun ds Q => match ds with
  | [.fld F, .fld G] => Q (.bl (decide (F.p = G.p) && decide (F.md = G.md)))
  | [.fld _, e] => e.ty.isSome = true ∧ Q (.bl false)
  | _ => False
end EqA
/-- Field.modulus: a new list -/
def sp_Field_dot_modulus (K : Fr) : Sp := fun vs H Q _ => ∃ a F ok, vs = [.ref a] ∧ FA K H a F ok ∧ ∀ p, H p = none → Q (.ref p) (upd H p (.lst (F.md.map V.int)))
def t_Field_dot_modulus (K : Fr) : TS := (tRet (tCB (rListA K) (tCons (tFld K (tVar 0) "_modulus") tNil)))
def c_Field_dot_modulus : WC := fun ds Q => match ds with | [.fld F] => Q (Li F.md) | _ => False
end
end TP
/-! TPSx -/
set_option maxHeartbeats 4000000
/-! # sorted of pairs (an int, anything) whose ints are unlike -/
namespace TP.SX
open PySem PySem.Spec PyProof.Rows SrtO
section
variable {pgm : Program} {w : World} {A : Around} {E : Value → Shared → Prop} {s : Shared}
/-- a tuple of an int and something -/
def Ix (h : Heap) (v : Value) (i : Int) : Prop := ∃ b ob tk z m, v = .ref b ∧ h.get? b = some ob ∧ ob.cls = .type "tuple" ∧ ob.data = .seq #[.int i tk, z] m
theorem Ix.up {h g : Heap} {v : Value} {i : Int} (x : Ix h v i) (k : ∀ b ob, h.get? b = some ob → ob.cls = .type "tuple" → g.get? b = some ob) : Ix g v i := by
  obtain ⟨b, ob, tk, z, m, e1, e2, e3, e4⟩ := x
  exact ⟨b, ob, tk, z, m, e1, k _ _ e2 e3, e3, e4⟩
end
end TP.SX
namespace L2
open PySem PySem.Spec PyProof.Rows
/-- sorted of a list of pairs of an int and something, the ints unlike -/
def rSortedX (K : PySem.W.Frag) : List V → Hp → VK → Prop := fun vs H Q => ∃ (a : Addr) (ps : List (Int × V)), vs = [V.ref a] ∧ SqL K H a (ps.map (·.2)) ∧ (∀ p ∈ ps, ∃ t y, p.2 = V.ref t ∧ SqT K H t [.int p.1, y]) ∧ (ps.map (·.1)).Nodup ∧
  ∀ qs : List (Int × V), qs.Perm ps → qs.Pairwise (fun x y => x.1 ≤ y.1) → ∀ p, H p = none → Q (.ref p) (upd H p (.lst (qs.map (·.2))))
end L2
/-! DLX -/
set_option maxHeartbeats 4000000
/-! # sorted of pairs with unlike ints, over data -/
namespace TP
open PySem PySem.Spec PyProof.Rows L2
section
variable {K : Fr} {pa : Addr} {H : Hp}
def ixD (z : Int × D) : D := .tup [.int z.1, z.2]
def fSortedX : WC := fun ds Q => match ds with | [.lst es] => (∃ zs : List (Int × D), es = zs.map ixD ∧ (zs.map (·.1)).Nodup ∧ ∀ qs : List (Int × D), qs.Perm zs → qs.Pairwise (fun x y => x.1 ≤ y.1) → Q (.lst (qs.map ixD))) | _ => False
end
end TP
/-! TPAn -/
set_option maxHeartbeats 4000000
/-! # any of a list of ints -/
namespace L2
open PySem PySem.Spec PyProof.Rows
theorem ints_at : ∀ {ns : List Int} {zs : List Value} {i : Nat} {v : Value}, Vals (ns.map V.int) zs → zs[i]? = some v → ∃ tk, v = .int (ns.getD i 0) tk
  | [], zs, i, v, h, e => by
    rw [List.map_nil] at h
    cases h
    simp at e
  | n :: ns, zs, i, v, h, e => by
    rw [List.map_cons] at h
    cases h with
    | cons r t =>
      obtain ⟨tk, rfl⟩ := r
      cases i with
      | zero =>
        simp at e
        exact ⟨tk, e.symm⟩
      | succ i => exact ints_at (i := i) t (by simpa using e)
theorem any_rangeI (ns : List Int) : (List.range ns.length).any (fun i => ns.getD i 0 != 0) = ns.any (· != 0) := by
  rw [Bool.eq_iff_iff, List.any_eq_true, List.any_eq_true]
  constructor
  · rintro ⟨i, hi, h⟩
    have hi := List.mem_range.mp hi
    refine ⟨ns[i], List.getElem_mem hi, ?_⟩
    rw [List.getD_eq_getElem?_getD, List.getElem?_eq_getElem hi] at h
    exact h
  · rintro ⟨x, hx, h⟩
    obtain ⟨i, hi, rfl⟩ := List.getElem_of_mem hx
    refine ⟨i, List.mem_range.mpr hi, ?_⟩
    rw [List.getD_eq_getElem?_getD, List.getElem?_eq_getElem hi]
    exact h
def rAnyI (K : PySem.W.Frag) : List V → Hp → VK → Prop := fun zs H Q => ∃ (a : Addr) (ns : List Int), zs = [V.ref a] ∧ SqL K H a (ns.map V.int) ∧ Q (.bl (ns.any (· != 0))) H
theorem cr_anyI {X : Cx} (hc : X.calm = true) : CallR X (.builtin "any") (rAnyI X.K) := by
  intro pins s σ H zs us Q I r h0
  obtain ⟨a, ns, rfl, hs, q⟩ := h0
  obtain ⟨ws, rw', isl, siz⟩ := I.list hs
  rw [Vals.ref1 r]
  have tr : TruthOf X.prog X.w X.A.in1 (fun i v => ws.toArray[i]? = some v) (fun i => ns.getD i 0 != 0) := fun i v s' Q' E' hv hq => by
    obtain ⟨tk, rfl⟩ := ints_at (i := i) rw' (by simpa using hv)
    exact truthy_int hq
  refine call_any_walk (iter_any isl.isList fun s2 e2 go hne => ?_)
  subst e2
  refine ⟨_, _, _, _, _, _, _, rfl, Walks.list (A := X.A.in1) (I.ok.hd hc) _ a hne ws.toArray, go, tr, fun h' tk hk => ?_⟩
  refine ⟨.bl _, H, I.kept fun b ob eo => hk b ob (fun hm => ?_) (Heap.get?_push_of_some _ eo), ?_, q⟩
  · rcases List.mem_cons.mp hm with e1 | hm
    · exact Nat.lt_irrefl _ (e1 ▸ Heap.lt_size eo)
    · cases hm
  · show Value.bool _ = Value.bool _
    have lw : ws.length = ns.length := by rw [← rw'.length, List.length_map]
    rw [← any_rangeI, List.size_toArray, lw]
end L2
/-! DLAn -/
set_option maxHeartbeats 4000000
/-! # any of ints, over data -/
namespace TP
open PySem PySem.Spec PyProof.Rows L2
section
variable {K : Fr}
abbrev fAnyI : WC := fInts fun ns Q => Q (.bl (ns.any (· != 0)))
theorem va_anyI : VA K .fz (rAnyI K) fAnyI := va_ints fun b h w k => ⟨_, _, rfl, sqL h, k _ _ _ _ (Gw.refl _ _ _) b RepM.b w⟩
end
end TP
/-! DLRx -/
set_option maxHeartbeats 4000000
/-! # repr of plain data with dicts, where no class of the program's own is about -/
namespace TP
open PySem PySem.Spec PyProof.Rows L2
variable {K : Fr} {pa : Addr} {H0 F F' F'' H H' H'' : Hp} {ρ : GE} {σ : L2.St}
def fReprX : WC := fun ds Q => match ds with | [d] => d.shx ∧ Q (.str d.px.shown) | _ => False
theorem va_reprX : VA K .fz (rReprX K) fReprX := by
  intro pa F H vs ds Q Qd b hp w k
  unfold fReprX at w
  split at w
  · rename_i d
    obtain ⟨v, rfl, h1⟩ := p1 hp
    obtain ⟨⟨h2, h3, h4⟩, q⟩ := w
    have l := lentL b hp
    obtain ⟨v', e, rw⟩ := r1 l
    cases e
    exact ⟨v, d, pa, _, rfl, (whole_bs b.po).ex, rw, h2, h3, h4, k _ _ _ _ (Gw.refl _ _ _) b (RepM.f (by unfold Rep; rfl)) q⟩
  · exact w.elim
end TP
/-! G12 -/
set_option maxHeartbeats 4000000
namespace TP.K12
open PySem PySem.Spec PyProof.Rows L2
variable {K : Fr}
def sp_law_pot (K : Fr) : Sp := fun vs H Q _ => ∃ (a : Addr) (ns : List Int) (k : Nat), vs = [.ref a, .int k] ∧ SqL K H a (ns.map V.int) ∧ ∀ p H', H p = none → Ex H H' → Po p H' → Q (.ref p) H'
theorem len_law_pot (vs : List V) (H : Hp) (Q : VK) (E : XK) (h : sp_law_pot K vs H Q E) : vs.length = 2 := by obtain ⟨_, _, _, rfl, _⟩ := h; rfl
def t_law_pot (K : Fr) : TS := (tSeq (tAsg (tIf (tTest (tOp rLtI (tVar 1) (tCB (rLenA K) (tCons (tVar 0) tNil)))) (tCB (rAbs) (tCons (tOp (rIxL K) (tVar 0) (tVar 1)) tNil)) (tOp rAddI (tOp rAddI (tOp rMulI (tC (.int 107)) (tVar 1)) (tC (.int 53))) (tOp rModI (tCB (rAbs) (tCons (tCB (rSum K) (tCons (tSl (rSlL K) (tVar 0) tNoPart (tPart (tC (.int 1)))) tNil)) tNil)) (tC (.int 1000003))))) (gName 2)) (tRet (tLst (tCons (tCB (rMax2) (tCons (tC (.int 0)) (tCons (tOp rSubI (tVar 2) (tOp rPowI (tC (.int 10)) (tC (.int 18)))) tNil))) (tCons (tOp rAddI (tOp rModI (tCB (rIntOf) (tCons (tOp rAddI (tOp rAddI (tOp rMulI (tOp rModI (tCB (rIntOf) (tCons (tVar 2) tNil)) (tC (.int 2147483549))) (tC (.int 40471))) (tOp rMulI (tC (.int 7127)) (tVar 1))) (tC (.int 89))) tNil)) (tC (.int 2147483563))) (tC (.int 1))) tNil)))))
theorem pure_law_pot (vs : List V) (H : Hp) (Q : VK) (E : XK) (h : sp_law_pot K vs H Q E) : t_law_pot K { nx := fun _ H' => Q .non H', rt := Q } (L2.start ["_law_script", "_law_k", "_law_cell"] vs) H := by
  obtain ⟨a, ns, k, rfl, hs, q⟩ := h
  refine tSeqI ?_
  dsimp only
  have fin : ∀ (cell : Int) (H1 : Hp), Ex H H1 → (tRet (tLst (tCons (tCB (rMax2) (tCons (tC (.int 0)) (tCons (tOp rSubI (tVar 2) (tOp rPowI (tC (.int 10)) (tC (.int 18)))) tNil))) (tCons (tOp rAddI (tOp rModI (tCB (rIntOf) (tCons (tOp rAddI (tOp rAddI (tOp rMulI (tOp rModI (tCB (rIntOf) (tCons (tVar 2) tNil)) (tC (.int 2147483549))) (tC (.int 40471))) (tOp rMulI (tC (.int 7127)) (tVar 1))) (tC (.int 89))) tNil)) (tC (.int 2147483563))) (tC (.int 1))) tNil)))) { nx := fun _ H' => Q .non H', rt := Q } [some (.ref a), some (.int (k : Nat)), some (.int cell)] H1 := fun cell H1 e1 => by
    refine ⟨_, rfl, _, _, rfl, rfl, ⟨by decide, by decide, by decide⟩, _, _, rfl, rfl, _, _, rfl, _, rfl, .inl ⟨_, rfl, _, _, rfl, rfl, ltd rfl, _, _, rfl, rfl, .inr ⟨by decide, by decide⟩, _, rfl, _, _, rfl, rfl, .inl ⟨by decide, by decide⟩, _, _, rfl, rfl, _, _, rfl, rfl, .inl ⟨_, rfl, _, _, rfl, rfl, ltd rfl, _, _, rfl, rfl, two_ok, ?_⟩⟩⟩
    intro p n2; generalize E_ : upd _ p _ = H2; have e2 := genE E_ n2; have h2 := genS E_; clear E_
    refine q p H2 (Ex.back e1 n2) (Ex.trans e1 e2) ⟨_, _, h2, ?_, ?_, ?_⟩
    · split <;> omega
    · omega
    · omega
  refine tAsgI ?_
  refine ⟨_, rfl, _, rfl, a, _, rfl, .inl hs, _, _, rfl, rfl, _, rfl, ?_⟩
  rw [List.length_map]
  by_cases c : (k : Int) < (ns.length : Int)
  · rw [decide_eq_true c]
    refine iteT ⟨_, rfl, _, rfl, a, _, _, _, rfl, rfl, hs, at_ints (by omega), _, rfl, fin _ H (Ex.refl H)⟩
  · rw [decide_eq_false c]
    refine iteF ⟨_, rfl, _, _, rfl, rfl, .inl ⟨by decide, by decide⟩, _, _, rfl, rfl, _, rfl, _, rfl, a, _, rfl, hs, ?_⟩
    intro l n1; generalize E_ : upd _ l _ = H1; have e1 := genE E_ n1; have h1 := genS E_; clear E_
    obtain ⟨ms, em⟩ := cut_ints ns none (some 1)
    rw [em] at h1
    exact ⟨l, ms, rfl, sqL h1, _, rfl, _, _, rfl, rfl, ltd rfl, _, _, rfl, rfl, fin _ H1 e1⟩

def sp_law_draw (K : Fr) : Sp := fun vs H Q _ => ∃ p, ∃ n : Int, vs = [.ref p, .int n] ∧ 1 ≤ n ∧ n < 1073741824 ∧ Po p H ∧ ∀ (d : Int) H', 0 ≤ d → d < n → ExP p H H' → Po p H' → Q (.int d) H'
theorem len_law_draw (vs : List V) (H : Hp) (Q : VK) (E : XK) (h : sp_law_draw K vs H Q E) : vs.length = 2 := by obtain ⟨_, _, rfl, _⟩ := h; rfl
def t_law_draw (K : Fr) : TS := (tSeq (tIfS (tTest (tOp rGtI (tOp (rIxL K) (tVar 0) (tC (.int 0))) (tC (.int 0)))) (tSeq (tAsg (tCB (rDivmod) (tCons (tOp (rIxL K) (tVar 0) (tC (.int 0))) (tCons (tVar 1) tNil))) (gTup K 2 (gCons (gSub (tVar 0) (tC (.int 0)) rSetL) (gCons (gName 2) gNil)))) (tRet (tVar 2))) tNext) (tSeq (tAsg (tOp rModI (tCB (rIntOf) (tCons (tOp rAddI (tOp rMulI (tOp (rIxL K) (tVar 0) (tC (.int 1))) (tC (.int 40692))) (tC (.int 7151))) tNil)) (tC (.int 2147483587))) (gSub (tVar 0) (tC (.int 1)) rSetL)) (tRet (tOp rModI (tCB (rIntOf) (tCons (tOp rFdivI (tOp rModI (tCB (rIntOf) (tCons (tOp rMulI (tOp (rIxL K) (tVar 0) (tC (.int 1))) (tOp (rIxL K) (tVar 0) (tC (.int 1)))) tNil)) (tC (.int 2147483629))) (tC (.int 19))) tNil)) (tVar 1)))))
theorem pure_law_draw (vs : List V) (H : Hp) (Q : VK) (E : XK) (h : sp_law_draw K vs H Q E) : t_law_draw K { nx := fun _ H' => Q .non H', rt := Q } (L2.start ["_law_pot_here", "_law_sides", "_law_digit"] vs) H := by
  obtain ⟨p, n, rfl, n1, n2, ⟨m, s, hp, hm, hs, hs2⟩, q⟩ := h
  refine tSeqI ?_
  dsimp only
  refine ⟨_, rfl, p, _, 0, .int m, rfl, rfl, sqL hp, rfl, _, _, rfl, rfl, _, rfl, ?_⟩
  by_cases c : 0 < m
  · rw [decide_eq_true c]
    refine iteT ⟨_, rfl, p, _, 0, .int m, rfl, rfl, sqL hp, rfl, _, rfl, _, _, rfl, ⟨by omega, n2⟩, ?_⟩
    intro T nT; generalize E_ : upd _ T _ = H1; have e1 := genE E_ nT; have h1 := genS E_; clear E_
    refine ⟨T, _, rfl, sqT h1, rfl, _, _, rfl, _, rfl, p, _, 0, 0, rfl, rfl, e1 _ _ hp, rfl, _, _, rfl, rfl, ?_⟩
    refine ⟨_, rfl, q (m % n) _ (Int.emod_nonneg _ (by omega)) (Int.emod_lt_of_pos _ (by omega)) ((e1.p (p := p)).trans fun y u ny hy => by rw [upd_ne ny]; exact hy) ⟨m / n, s, upd_same, Int.ediv_nonneg hm (by omega), hs, hs2⟩⟩
  · rw [decide_eq_false c]
    refine iteF ?_
    refine ⟨_, rfl, p, _, 1, .int s, rfl, rfl, sqL hp, rfl, _, _, rfl, rfl, .inl ⟨by omega, by omega⟩, _, _, rfl, rfl, .inl ⟨_, rfl, _, _, rfl, rfl, ltd rfl, _, rfl, p, _, 1, 1, rfl, rfl, hp, rfl, ?_⟩⟩
    have b1 := Int.emod_nonneg (s * 40692 + 7151) (show (2147483587 : Int) ≠ 0 by decide)
    have b2 := Int.emod_lt_of_pos (s * 40692 + 7151) (show (0 : Int) < 2147483587 by decide)
    generalize hv : (s * 40692 + 7151) % 2147483587 = v at b1 b2
    have h2 : (upd H p (.lst ([V.int m, V.int s].set 1 (V.int ((s * 40692 + 7151) % 2147483587))))) p = some (.lst [V.int m, V.int v]) := by rw [upd_same, hv]; rfl
    have e2 : ExP p H (upd H p (.lst ([V.int m, V.int s].set 1 (V.int ((s * 40692 + 7151) % 2147483587))))) := fun y u ny hy => by rw [upd_ne ny]; exact hy
    generalize (upd H p (.lst ([V.int m, V.int s].set 1 (V.int ((s * 40692 + 7151) % 2147483587))))) = H2 at h2 e2
    refine ⟨_, rfl, p, _, 1, .int v, rfl, rfl, sqL h2, rfl, _, rfl, p, _, 1, .int v, rfl, rfl, sqL h2, rfl, _, _, rfl, rfl, .inl ⟨by omega, by omega⟩, .inl ⟨_, rfl, _, _, rfl, rfl, ltd rfl, _, _, rfl, rfl, ⟨by decide, by decide⟩, .inl ⟨_, rfl, _, rfl, _, _, rfl, rfl, (show 0 < n by omega), ?_⟩⟩⟩
    exact q _ H2 (Int.emod_nonneg _ (by omega)) (Int.emod_lt_of_pos _ (by omega)) e2 ⟨m, v, h2, hm, b1, by omega⟩
theorem ad_law_draw : Ad K (sp_law_draw K) .fz c_law_draw := ad_draw fun e a b P h => ⟨_, _, e, a, b, P, h⟩

/-! _law_pick -/
def w_law_pick : WS := (wRet (wOp fIx (wVarB 1) (wCall c_law_draw (wCons (wVar 0) (wCons (wCB fLen (wCons (wVarB 1) wNil)) wNil)))))
def c_law_pick : WC := cD 2 2 w_law_pick
theorem e_law_pick {x0 x1 : D} {Q : D → Prop} (h : w_law_pick { nx := fun _ => Q .non, rt := Q } [.fz x0, .fz x1]) : c_law_pick [x0, x1] Q := ⟨rfl, h⟩
def sp_law_pick (K : Fr) : Sp := spD K .fz c_law_pick
theorem len_law_pick (vs : List V) (H : Hp) (Q : VK) (E : XK) (h : sp_law_pick K vs H Q E) : vs.length = 2 := spD_len (ws := w_law_pick) (n := 2) (N := 2) h
def t_law_pick (K : Fr) : TS := (tRet (tOp (rIxA K) (tVar 1) (tCall (sp_law_draw K) [] E0 (tCons (tVar 0) (tCons (tCB (rLenA K) (tCons (tVar 1) tNil)) tNil)))))
theorem rs_law_pick : RS K .fz (t_law_pick K) w_law_pick := (rs_ret (re_op v2_ix re_varB (re_lent (re_call ad_law_draw (ra_cons re_var (ra_cons (re_cb va_len (ra_consB re_varB ra_nil)) ra_nil))))))
theorem pure_law_pick (vs : List V) (H : Hp) (Q : VK) (E : XK) (h : sp_law_pick K vs H Q E) : t_law_pick K { nx := fun _ H' => Q .non H', rt := Q } (L2.start ["_law_pot_here", "_law_some"] vs) H := spD_pure (N := ["_law_pot_here", "_law_some"]) (n := 2) (ws := w_law_pick) rs_law_pick h
/-! _law_field -/
def w_law_field : WS := (wSeq (wAsg 1 (wLst (wCons (wTup (wCons (wC (.int 2)) (wCons (wLst (wCons (wC (.int 1)) (wCons (wC (.int 1)) (wCons (wC (.int 1)) wNil)))) wNil))) (wCons (wTup (wCons (wC (.int 2)) (wCons (wLst (wCons (wC (.int 1)) (wCons (wC (.int 1)) (wCons (wC (.int 0)) (wCons (wC (.int 1)) wNil))))) wNil))) (wCons (wTup (wCons (wC (.int 2)) (wCons (wLst (wCons (wC (.int 1)) (wCons (wC (.int 0)) (wCons (wC (.int 1)) (wCons (wC (.int 1)) wNil))))) wNil))) (wCons (wTup (wCons (wC (.int 2)) (wCons (wLst (wCons (wC (.int 1)) (wCons (wC (.int 1)) (wCons (wC (.int 0)) (wCons (wC (.int 0)) (wCons (wC (.int 1)) wNil)))))) wNil))) wNil)))))) (wSeq (wAsg 1 (wOp fCat (wVarB 1) (wLst (wCons (wTup (wCons (wC (.int 3)) (wCons (wLst (wCons (wC (.int 1)) (wCons (wC (.int 0)) (wCons (wC (.int 1)) wNil)))) wNil))) (wCons (wTup (wCons (wC (.int 3)) (wCons (wLst (wCons (wC (.int 2)) (wCons (wC (.int 1)) (wCons (wC (.int 1)) wNil)))) wNil))) (wCons (wTup (wCons (wC (.int 5)) (wCons (wLst (wCons (wC (.int 2)) (wCons (wC (.int 0)) (wCons (wC (.int 1)) wNil)))) wNil))) wNil)))))) (wSeq (wIfS (wTest (wOp fEqA (wCall c_law_draw (wCons (wVar 0) (wCons (wC (.int 5)) wNil))) (wC (.int 0)))) (wSeq (wAsg 1 (wLst (wCons (wTup (wCons (wC (.int 2)) (wCons (wLst (wCons (wC (.int 1)) (wCons (wC (.int 0)) (wCons (wC (.int 1)) (wCons (wC (.int 0)) (wCons (wC (.int 0)) (wCons (wC (.int 1)) wNil))))))) wNil))) (wCons (wTup (wCons (wC (.int 2)) (wCons (wLst (wCons (wC (.int 1)) (wCons (wC (.int 1)) (wCons (wC (.int 0)) (wCons (wC (.int 0)) (wCons (wC (.int 0)) (wCons (wC (.int 0)) (wCons (wC (.int 1)) wNil)))))))) wNil))) (wCons (wTup (wCons (wC (.int 3)) (wCons (wLst (wCons (wC (.int 1)) (wCons (wC (.int 2)) (wCons (wC (.int 0)) (wCons (wC (.int 1)) wNil))))) wNil))) (wCons (wTup (wCons (wC (.int 7)) (wCons (wLst (wCons (wC (.int 1)) (wCons (wC (.int 0)) (wCons (wC (.int 1)) wNil)))) wNil))) wNil)))))) (wAsg 1 (wOp fCat (wVarB 1) (wLst (wCons (wTup (wCons (wC (.int 5)) (wCons (wLst (wCons (wC (.int 1)) (wCons (wC (.int 1)) (wCons (wC (.int 0)) (wCons (wC (.int 1)) wNil))))) wNil))) (wCons (wTup (wCons (wC (.int 2)) (wCons (wLst (wCons (wC (.int 1)) (wCons (wC (.int 1)) (wCons (wC (.int 0)) (wCons (wC (.int 0)) (wCons (wC (.int 0)) (wCons (wC (.int 0)) (wCons (wC (.int 0)) (wCons (wC (.int 1)) wNil))))))))) wNil))) (wCons (wTup (wCons (wC (.int 3)) (wCons (wLst (wCons (wC (.int 2)) (wCons (wC (.int 1)) (wCons (wC (.int 0)) (wCons (wC (.int 0)) (wCons (wC (.int 1)) wNil)))))) wNil))) wNil))))))) wNext) (wRet (wCall c_law_pick (wCons (wVar 0) (wCons (wVar 1) wNil)))))))
def c_law_field : WC := cD 1 2 w_law_field
theorem e_law_field {x0 : D} {Q : D → Prop} (h : w_law_field { nx := fun _ => Q .non, rt := Q } [.fz x0, .any]) : c_law_field [x0] Q := ⟨rfl, h⟩
def sp_law_field (K : Fr) : Sp := spD K .fz c_law_field
theorem len_law_field (vs : List V) (H : Hp) (Q : VK) (E : XK) (h : sp_law_field K vs H Q E) : vs.length = 1 := spD_len (ws := w_law_field) (n := 1) (N := 2) h
def t_law_field (K : Fr) : TS := (tSeq (tAsg (tLst (tCons (tTup (tCons (tC (.int 2)) (tCons (tLst (tCons (tC (.int 1)) (tCons (tC (.int 1)) (tCons (tC (.int 1)) tNil)))) tNil))) (tCons (tTup (tCons (tC (.int 2)) (tCons (tLst (tCons (tC (.int 1)) (tCons (tC (.int 1)) (tCons (tC (.int 0)) (tCons (tC (.int 1)) tNil))))) tNil))) (tCons (tTup (tCons (tC (.int 2)) (tCons (tLst (tCons (tC (.int 1)) (tCons (tC (.int 0)) (tCons (tC (.int 1)) (tCons (tC (.int 1)) tNil))))) tNil))) (tCons (tTup (tCons (tC (.int 2)) (tCons (tLst (tCons (tC (.int 1)) (tCons (tC (.int 1)) (tCons (tC (.int 0)) (tCons (tC (.int 0)) (tCons (tC (.int 1)) tNil)))))) tNil))) tNil))))) (gName 1)) (tSeq (tAsg (tOp rCat (tVar 1) (tLst (tCons (tTup (tCons (tC (.int 3)) (tCons (tLst (tCons (tC (.int 1)) (tCons (tC (.int 0)) (tCons (tC (.int 1)) tNil)))) tNil))) (tCons (tTup (tCons (tC (.int 3)) (tCons (tLst (tCons (tC (.int 2)) (tCons (tC (.int 1)) (tCons (tC (.int 1)) tNil)))) tNil))) (tCons (tTup (tCons (tC (.int 5)) (tCons (tLst (tCons (tC (.int 2)) (tCons (tC (.int 0)) (tCons (tC (.int 1)) tNil)))) tNil))) tNil))))) (gName 1)) (tSeq (tIfS (tTest (tOp (rEqA K) (tCall (sp_law_draw K) [] E0 (tCons (tVar 0) (tCons (tC (.int 5)) tNil))) (tC (.int 0)))) (tSeq (tAsg (tLst (tCons (tTup (tCons (tC (.int 2)) (tCons (tLst (tCons (tC (.int 1)) (tCons (tC (.int 0)) (tCons (tC (.int 1)) (tCons (tC (.int 0)) (tCons (tC (.int 0)) (tCons (tC (.int 1)) tNil))))))) tNil))) (tCons (tTup (tCons (tC (.int 2)) (tCons (tLst (tCons (tC (.int 1)) (tCons (tC (.int 1)) (tCons (tC (.int 0)) (tCons (tC (.int 0)) (tCons (tC (.int 0)) (tCons (tC (.int 0)) (tCons (tC (.int 1)) tNil)))))))) tNil))) (tCons (tTup (tCons (tC (.int 3)) (tCons (tLst (tCons (tC (.int 1)) (tCons (tC (.int 2)) (tCons (tC (.int 0)) (tCons (tC (.int 1)) tNil))))) tNil))) (tCons (tTup (tCons (tC (.int 7)) (tCons (tLst (tCons (tC (.int 1)) (tCons (tC (.int 0)) (tCons (tC (.int 1)) tNil)))) tNil))) tNil))))) (gName 1)) (tAsg (tOp rCat (tVar 1) (tLst (tCons (tTup (tCons (tC (.int 5)) (tCons (tLst (tCons (tC (.int 1)) (tCons (tC (.int 1)) (tCons (tC (.int 0)) (tCons (tC (.int 1)) tNil))))) tNil))) (tCons (tTup (tCons (tC (.int 2)) (tCons (tLst (tCons (tC (.int 1)) (tCons (tC (.int 1)) (tCons (tC (.int 0)) (tCons (tC (.int 0)) (tCons (tC (.int 0)) (tCons (tC (.int 0)) (tCons (tC (.int 0)) (tCons (tC (.int 1)) tNil))))))))) tNil))) (tCons (tTup (tCons (tC (.int 3)) (tCons (tLst (tCons (tC (.int 2)) (tCons (tC (.int 1)) (tCons (tC (.int 0)) (tCons (tC (.int 0)) (tCons (tC (.int 1)) tNil)))))) tNil))) tNil))))) (gName 1))) tNext) (tRet (tCall (sp_law_pick K) [] E0 (tCons (tVar 0) (tCons (tVar 1) tNil)))))))
theorem rs_law_field : RS K .fz (t_law_field K) w_law_field := (rs_seq (rs_asg (re_told (re_lst (ra_cons (re_tup (ra_cons re_int (ra_cons (re_told (re_lst (ra_cons re_int (ra_cons re_int (ra_cons re_int ra_nil))))) ra_nil))) (ra_cons (re_tup (ra_cons re_int (ra_cons (re_told (re_lst (ra_cons re_int (ra_cons re_int (ra_cons re_int (ra_cons re_int ra_nil)))))) ra_nil))) (ra_cons (re_tup (ra_cons re_int (ra_cons (re_told (re_lst (ra_cons re_int (ra_cons re_int (ra_cons re_int (ra_cons re_int ra_nil)))))) ra_nil))) (ra_cons (re_tup (ra_cons re_int (ra_cons (re_told (re_lst (ra_cons re_int (ra_cons re_int (ra_cons re_int (ra_cons re_int (ra_cons re_int ra_nil))))))) ra_nil))) ra_nil))))))) (rs_seq (rs_asg (re_told (re_op v2_cat re_varB (re_lentN (re_lst (ra_cons (re_tup (ra_cons re_int (ra_cons (re_told (re_lst (ra_cons re_int (ra_cons re_int (ra_cons re_int ra_nil))))) ra_nil))) (ra_cons (re_tup (ra_cons re_int (ra_cons (re_told (re_lst (ra_cons re_int (ra_cons re_int (ra_cons re_int ra_nil))))) ra_nil))) (ra_cons (re_tup (ra_cons re_int (ra_cons (re_told (re_lst (ra_cons re_int (ra_cons re_int (ra_cons re_int ra_nil))))) ra_nil))) ra_nil)))))))) (rs_seq (rs_if (rt_test (re_op v2_eqA (re_lent (re_call ad_law_draw (ra_cons re_var (ra_cons re_int ra_nil)))) (re_lent re_int))) (rs_seq (rs_asg (re_told (re_lst (ra_cons (re_tup (ra_cons re_int (ra_cons (re_told (re_lst (ra_cons re_int (ra_cons re_int (ra_cons re_int (ra_cons re_int (ra_cons re_int (ra_cons re_int ra_nil)))))))) ra_nil))) (ra_cons (re_tup (ra_cons re_int (ra_cons (re_told (re_lst (ra_cons re_int (ra_cons re_int (ra_cons re_int (ra_cons re_int (ra_cons re_int (ra_cons re_int (ra_cons re_int ra_nil))))))))) ra_nil))) (ra_cons (re_tup (ra_cons re_int (ra_cons (re_told (re_lst (ra_cons re_int (ra_cons re_int (ra_cons re_int (ra_cons re_int ra_nil)))))) ra_nil))) (ra_cons (re_tup (ra_cons re_int (ra_cons (re_told (re_lst (ra_cons re_int (ra_cons re_int (ra_cons re_int ra_nil))))) ra_nil))) ra_nil))))))) (rs_asg (re_told (re_op v2_cat re_varB (re_lentN (re_lst (ra_cons (re_tup (ra_cons re_int (ra_cons (re_told (re_lst (ra_cons re_int (ra_cons re_int (ra_cons re_int (ra_cons re_int ra_nil)))))) ra_nil))) (ra_cons (re_tup (ra_cons re_int (ra_cons (re_told (re_lst (ra_cons re_int (ra_cons re_int (ra_cons re_int (ra_cons re_int (ra_cons re_int (ra_cons re_int (ra_cons re_int (ra_cons re_int ra_nil)))))))))) ra_nil))) (ra_cons (re_tup (ra_cons re_int (ra_cons (re_told (re_lst (ra_cons re_int (ra_cons re_int (ra_cons re_int (ra_cons re_int (ra_cons re_int ra_nil))))))) ra_nil))) ra_nil))))))))) rs_next) (rs_ret (re_call Ad.id (ra_cons re_var (ra_cons re_var ra_nil)))))))
theorem pure_law_field (vs : List V) (H : Hp) (Q : VK) (E : XK) (h : sp_law_field K vs H Q E) : t_law_field K { nx := fun _ H' => Q .non H', rt := Q } (L2.start ["_law_pot_here", "_law_kept"] vs) H := spD_pure (N := ["_law_pot_here", "_law_kept"]) (n := 1) (ws := w_law_field) rs_law_field h
/-! _law_drawn -/
def w_law_drawn : WS := (wRet (wOp fCat (wLc [3] [3] (wRng1 (wCons (wOp fAdd (wC (.int 2)) (wCall c_law_draw (wCons (wVar 0) (wCons (wOp fSub (wVarB 2) (wC (.int 1))) wNil)))) wNil)) wYes (wCall c_law_draw (wCons (wVar 0) (wCons (wVar 1) wNil)))) (wLst (wCons (wC (.int 1)) wNil))))
def c_law_drawn : WC := cN 3 4 w_law_drawn
theorem e_law_drawn {x0 x1 x2 : D} {Q : D → Prop} (h : w_law_drawn { nx := fun _ => False, rt := Q } [.fz x0, .fz x1, .fz x2, .any]) : c_law_drawn [x0, x1, x2] Q := ⟨rfl, h⟩
def sp_law_drawn (K : Fr) : Sp := spD K .nw c_law_drawn
theorem len_law_drawn (vs : List V) (H : Hp) (Q : VK) (E : XK) (h : sp_law_drawn K vs H Q E) : vs.length = 3 := spN_len (ws := w_law_drawn) (n := 3) (N := 4) h
def t_law_drawn (K : Fr) : TS := (tRet (tOp rCat (tLc (iRng1 (tCons (tOp rAddI (tC (.int 2)) (tCall (sp_law_draw K) [] E0 (tCons (tVar 0) (tCons (tOp rSubI (tVar 2) (tC (.int 1))) tNil)))) tNil)) (gName 3) tYes (tCall (sp_law_draw K) [] E0 (tCons (tVar 0) (tCons (tVar 1) tNil))) [3]) (tLst (tCons (tC (.int 1)) tNil))))
theorem rs_law_drawn : RS K .nw (t_law_drawn K) w_law_drawn := (rs_ret (re_op v2_cat (re_lentN (re_lc (ri_rng1 (ra_consB (re_lent (re_op v2_add (re_lent re_int) (re_lent (re_call ad_law_draw (ra_cons re_var (ra_cons (re_op v2_sub re_varB (re_lent re_int)) ra_nil)))))) ra_nil)) rt_yes (re_call ad_law_draw (ra_cons re_var (ra_cons re_var ra_nil))))) (re_lentN (re_lst (ra_cons re_int ra_nil)))))
theorem pure_law_drawn (vs : List V) (H : Hp) (Q : VK) (E : XK) (h : sp_law_drawn K vs H Q E) : t_law_drawn K { nx := fun _ H' => Q .non H', rt := Q } (L2.start ["_law_pot_here", "_law_prime", "_law_most", "_law_turn"] vs) H := spN_pure (N := ["_law_pot_here", "_law_prime", "_law_most", "_law_turn"]) (n := 3) (ws := w_law_drawn) rs_law_drawn h
/-! _law_all -/
def w_law_all : WS := (wSeq (wAsg 2 (wLst (wCons (wLst (wCons (wC (.int 1)) wNil)) wNil))) (wSeq (wFor [3] [3, 4, 5] (wRng1 (wCons (wVarB 1) wNil)) (wSeq (wAsgO 4 (wLst wNil)) (wSeq (wFor [5] [5] (wEach (wVar 2)) (wExt 4 (wLc [6] [6] (wRng1 (wCons (wVarB 0) wNil)) wYes (wOp fCat (wLst (wCons (wVar 6) wNil)) (wVarB 5))))) (wFz 4 (wAsg 2 (wVar 4)))))) (wRet (wVar 2))))
def c_law_all : WC := cD 2 7 w_law_all
theorem e_law_all {x0 x1 : D} {Q : D → Prop} (h : w_law_all { nx := fun _ => Q .non, rt := Q } [.fz x0, .fz x1, .any, .any, .any, .any, .any]) : c_law_all [x0, x1] Q := ⟨rfl, h⟩
def sp_law_all (K : Fr) : Sp := spD K .fz c_law_all
theorem len_law_all (vs : List V) (H : Hp) (Q : VK) (E : XK) (h : sp_law_all K vs H Q E) : vs.length = 2 := spD_len (ws := w_law_all) (n := 2) (N := 7) h
def t_law_all (K : Fr) : TS := (tSeq (tAsg (tLst (tCons (tLst (tCons (tC (.int 1)) tNil)) tNil)) (gName 2)) (tSeq (tFor (iRng1 (tCons (tVar 1) tNil)) (gName 3) (tSeq (tAsg (tLst tNil) (gName 4)) (tSeq (tFor (iSeq K (tVar 2)) (gName 5) (tDrop (tBM K "list" rExtend (tVar 4) (tCons (tLc (iRng1 (tCons (tVar 0) tNil)) (gName 6) tYes (tOp rCat (tLst (tCons (tVar 6) tNil)) (tVar 5)) [6]) tNil)))) (tAsg (tVar 4) (gName 2))))) (tRet (tVar 2))))
theorem rs_law_all : RS K .fz (t_law_all K) w_law_all := (rs_seq (rs_asg (re_told (re_lst (ra_cons (re_told (re_lst (ra_cons re_int ra_nil))) ra_nil)))) (rs_seq (rs_for (ri_rng1 (ra_consB re_varB ra_nil)) (rs_seq (rs_asgO (re_lst ra_nil)) (rs_seq (rs_for (ri_seq re_var) (rs_ext (re_lentN (re_lc (ri_rng1 (ra_consB re_varB ra_nil)) rt_yes (re_told (re_op v2_cat (re_lentN (re_lst (ra_cons re_var ra_nil))) re_varB)))))) (rs_fz (rs_asg re_var))))) (rs_ret re_var)))
theorem pure_law_all (vs : List V) (H : Hp) (Q : VK) (E : XK) (h : sp_law_all K vs H Q E) : t_law_all K { nx := fun _ H' => Q .non H', rt := Q } (L2.start ["_law_prime", "_law_many", "_law_found", "_law_turn", "_law_longer", "_law_figures", "_law_figure"] vs) H := spD_pure (N := ["_law_prime", "_law_many", "_law_found", "_law_turn", "_law_longer", "_law_figures", "_law_figure"]) (n := 2) (ws := w_law_all) rs_law_all h
/-! _law_rest -/
def w_law_rest : WS := (wSeq (wAsgO 3 (wCB fList (wCons (wVarB 1) wNil))) (wSeq (wWhile [4, 5, 6, 7] (wTest (wOp fGe (wCB fLen (wCons (wVarB 3) wNil)) (wCB fLen (wCons (wVarB 2) wNil)))) (wSeq (wPop 3 4) (wFor [5] [5, 6, 7] (wRng1 (wCons (wOp fSub (wCB fLen (wCons (wVarB 2) wNil)) (wC (.int 1))) wNil)) (wSeq (wAsg 6 (wOp fAdd (wOp fAdd (wOp fSub (wCB fLen (wCons (wVarB 3) wNil)) (wCB fLen (wCons (wVarB 2) wNil))) (wC (.int 1))) (wVarB 5))) (wSeq (wAsg 7 (wOp fSub (wOp fIx (wVarB 3) (wVarB 6)) (wOp fMul (wVarB 4) (wOp fIx (wVarB 2) (wVarB 5))))) (wPut 3 (wOp fSub (wVarB 7) (wOp fMul (wOp fFdiv (wVarB 7) (wVarB 0)) (wVarB 0))) (wVar 6))))))) (wRetO 3)))
def c_law_rest : WC := cN 3 8 w_law_rest
theorem e_law_rest {x0 x1 x2 : D} {Q : D → Prop} (h : w_law_rest { nx := fun _ => False, rt := Q } [.fz x0, .fz x1, .fz x2, .any, .any, .any, .any, .any]) : c_law_rest [x0, x1, x2] Q := ⟨rfl, h⟩
def sp_law_rest (K : Fr) : Sp := spD K .nw c_law_rest
theorem len_law_rest (vs : List V) (H : Hp) (Q : VK) (E : XK) (h : sp_law_rest K vs H Q E) : vs.length = 3 := spN_len (ws := w_law_rest) (n := 3) (N := 8) h
def t_law_rest (K : Fr) : TS := (tSeq (tAsg (tCB (rListA K) (tCons (tVar 1) tNil)) (gName 3)) (tSeq (tWhile (tTest (tOp rGeI (tCB (rLenA K) (tCons (tVar 3) tNil)) (tCB (rLenA K) (tCons (tVar 2) tNil)))) (tSeq (tAsg (tBM0 K "list" rPop (tVar 3)) (gName 4)) (tFor (iRng1 (tCons (tOp rSubI (tCB (rLenA K) (tCons (tVar 2) tNil)) (tC (.int 1))) tNil)) (gName 5) (tSeq (tAsg (tOp rAddI (tOp rAddI (tOp rSubI (tCB (rLenA K) (tCons (tVar 3) tNil)) (tCB (rLenA K) (tCons (tVar 2) tNil))) (tC (.int 1))) (tVar 5)) (gName 6)) (tSeq (tAsg (tOp rSubI (tOp (rIxA K) (tVar 3) (tVar 6)) (tOp rMulI (tVar 4) (tOp (rIxA K) (tVar 2) (tVar 5)))) (gName 7)) (tAsg (tOp rSubI (tVar 7) (tOp rMulI (tOp rFdivI (tVar 7) (tVar 0)) (tVar 0))) (gSub (tVar 3) (tVar 6) rSetL))))))) (tRet (tVar 3))))
theorem rs_law_rest : RS K .nw (t_law_rest K) w_law_rest := (rs_seq (rs_asgO (re_cb va_list (ra_consB re_varB ra_nil))) (rs_seq (rs_while (rt_test (re_op v2_ge (re_lent (re_cb va_len (ra_consB re_varB ra_nil))) (re_lent (re_cb va_len (ra_consB re_varB ra_nil))))) (rs_seq rs_pop (rs_for (ri_rng1 (ra_consB (re_lent (re_op v2_sub (re_lent (re_cb va_len (ra_consB re_varB ra_nil))) (re_lent re_int))) ra_nil)) (rs_seq (rs_asg (re_op v2_add (re_lent (re_op v2_add (re_lent (re_op v2_sub (re_lent (re_cb va_len (ra_consB re_varB ra_nil))) (re_lent (re_cb va_len (ra_consB re_varB ra_nil))))) (re_lent re_int))) re_varB)) (rs_seq (rs_asg (re_op v2_sub (re_lent (re_op v2_ix re_varB re_varB)) (re_lent (re_op v2_mul re_varB (re_lent (re_op v2_ix re_varB re_varB)))))) (rs_put (re_op v2_sub re_varB (re_lent (re_op v2_mul (re_lent (re_op v2_fdiv re_varB re_varB)) re_varB))) re_var)))))) rs_retO))
theorem pure_law_rest (vs : List V) (H : Hp) (Q : VK) (E : XK) (h : sp_law_rest K vs H Q E) : t_law_rest K { nx := fun _ H' => Q .non H', rt := Q } (L2.start ["_law_prime", "_law_figures", "_law_other", "_law_rest_here", "_law_head", "_law_at", "_law_spot", "_law_number"] vs) H := spN_pure (N := ["_law_prime", "_law_figures", "_law_other", "_law_rest_here", "_law_head", "_law_at", "_law_spot", "_law_number"]) (n := 3) (ws := w_law_rest) rs_law_rest h
/-! _law_is_modulus -/
def w_law_is_modulus : WS := (wSeq (wIfS (wOr (wNot (wTest (wUn (fIsiTU [] "list" "tuple") (wVarB 1)))) (wNot (wTest (wChain fLe fLe (wC (.int 3)) (wCB fLen (wCons (wVarB 1) wNil)) (wC (.int 13)))))) (wRet (wC (.bl false))) wNext) (wSeq (wIfS (wNot (wTest (wCB fAll (wCons (wLc [4] [4] (wEach (wVar 1)) wYes (wAndV (wUn (fIsiU [] "int") (wVarB 4)) (wAndV (wNotV (wUn (fIsiU [] "bool") (wVarB 4))) (wChain fLe fLt (wC (.int 0)) (wVarB 4) (wVarB 0))))) wNil)))) (wRet (wC (.bl false))) wNext) (wSeq (wIfS (wTest (wOp fNeA (wOp fIx (wVarB 1) (wUn fNeg (wC (.int 1)))) (wC (.int 1)))) (wRet (wC (.bl false))) wNext) (wSeq (wFor [2] [2, 3] (wRng2 (wCons (wC (.int 1)) (wCons (wOp fAdd (wOp fFdiv (wOp fSub (wCB fLen (wCons (wVarB 1) wNil)) (wC (.int 1))) (wC (.int 2))) (wC (.int 1))) wNil))) (wFor [3] [3] (wEach (wCall c_law_all (wCons (wVar 0) (wCons (wVar 2) wNil)))) (wIfS (wNot (wTest (wCB fAnyI (wCons (wCall c_law_rest (wCons (wVar 0) (wCons (wVar 1) (wCons (wVar 3) wNil)))) wNil)))) (wRet (wC (.bl false))) wNext))) (wRet (wC (.bl true)))))))
def c_law_is_modulus : WC := cD 2 5 w_law_is_modulus
theorem e_law_is_modulus {x0 x1 : D} {Q : D → Prop} (h : w_law_is_modulus { nx := fun _ => Q .non, rt := Q } [.fz x0, .fz x1, .any, .any, .any]) : c_law_is_modulus [x0, x1] Q := ⟨rfl, h⟩
def sp_law_is_modulus (K : Fr) : Sp := spD K .fz c_law_is_modulus
theorem len_law_is_modulus (vs : List V) (H : Hp) (Q : VK) (E : XK) (h : sp_law_is_modulus K vs H Q E) : vs.length = 2 := spD_len (ws := w_law_is_modulus) (n := 2) (N := 5) h
def t_law_is_modulus (K : Fr) : TS := (tSeq (tIfS (tOr (tNot (tB (tCB (rIsiT K) (tCons (tVar 1) (tCons (tTup (tCons (tC (.ty "list")) (tCons (tC (.ty "tuple")) tNil))) tNil))))) (tNot (tTest (tChain rLeI rLeI (tC (.int 3)) (tCB (rLenA K) (tCons (tVar 1) tNil)) (tC (.int 13)))))) (tRet (tC (.bl false))) tNext) (tSeq (tIfS (tNot (tB (tCB (L2.rAll K) (tCons (tLc (iSeq K (tVar 1)) (gName 4) tYes (tAndV (tCB (rIsi K) (tCons (tVar 4) (tCons (tC (.ty "int")) tNil))) (tAndV (tNotV (tCB (rIsi K) (tCons (tVar 4) (tCons (tC (.ty "bool")) tNil)))) (tChain rLeI rLtI (tC (.int 0)) (tVar 4) (tVar 0)))) [4]) tNil)))) (tRet (tC (.bl false))) tNext) (tSeq (tIfS (tTest (tOp (rNeA K) (tOp (rIxA K) (tVar 1) (tUn rNeg (tC (.int 1)))) (tC (.int 1)))) (tRet (tC (.bl false))) tNext) (tSeq (tFor (iRng2 (tCons (tC (.int 1)) (tCons (tOp rAddI (tOp rFdivI (tOp rSubI (tCB (rLenA K) (tCons (tVar 1) tNil)) (tC (.int 1))) (tC (.int 2))) (tC (.int 1))) tNil))) (gName 2) (tFor (iSeq K (tCall (sp_law_all K) [] E0 (tCons (tVar 0) (tCons (tVar 2) tNil)))) (gName 3) (tIfS (tNot (tB (tCB (rAnyI K) (tCons (tCall (sp_law_rest K) [] E0 (tCons (tVar 0) (tCons (tVar 1) (tCons (tVar 3) tNil)))) tNil)))) (tRet (tC (.bl false))) tNext))) (tRet (tC (.bl true)))))))
theorem rs_law_is_modulus (ip_ : IsPs K []) : RS K .fz (t_law_is_modulus K) w_law_is_modulus := (rs_seq (rs_if (rt_or (rt_not (rt_b (re_isiTU ip_ (by decide) (by decide) re_varB))) (rt_not (rt_test (re_chain v2_le v2_le (re_lent re_int) (re_lent (re_cb va_len (ra_consB re_varB ra_nil))) (re_lent re_int))))) (rs_ret re_bl) rs_next) (rs_seq (rs_if (rt_not (rt_b (re_cb va_all (ra_consB (re_lentN (re_lc (ri_seq re_var) rt_yes (re_andV (re_isiU ip_ (by decide) re_varB) (re_andV (re_notV (re_isiU ip_ (by decide) re_varB)) (re_chain v2_le v2_lt (re_lent re_int) re_varB re_varB))))) ra_nil)))) (rs_ret re_bl) rs_next) (rs_seq (rs_if (rt_test (re_op v2_neA (re_lent (re_op v2_ix re_varB (re_lent (re_un v1_neg (re_lent re_int))))) (re_lent re_int))) (rs_ret re_bl) rs_next) (rs_seq (rs_for (ri_rng2 (ra_consB (re_lent re_int) (ra_consB (re_lent (re_op v2_add (re_lent (re_op v2_fdiv (re_lent (re_op v2_sub (re_lent (re_cb va_len (ra_consB re_varB ra_nil))) (re_lent re_int))) (re_lent re_int))) (re_lent re_int))) ra_nil))) (rs_for (ri_seq (re_call Ad.id (ra_cons re_var (ra_cons re_var ra_nil)))) (rs_if (rt_not (rt_b (re_cb va_anyI (ra_consB (re_lentN (re_call Ad.id (ra_cons re_var (ra_cons re_var (ra_cons re_var ra_nil))))) ra_nil)))) (rs_ret re_bl) rs_next))) (rs_ret re_bl)))))
theorem pure_law_is_modulus (ip_ : IsPs K []) (vs : List V) (H : Hp) (Q : VK) (E : XK) (h : sp_law_is_modulus K vs H Q E) : t_law_is_modulus K { nx := fun _ H' => Q .non H', rt := Q } (L2.start ["_law_prime", "_law_value", "_law_many", "_law_other", "_law_one"] vs) H := spD_pure (N := ["_law_prime", "_law_value", "_law_many", "_law_other", "_law_one"]) (n := 2) (ws := w_law_is_modulus) (rs_law_is_modulus ip_) h
/-! _law_times -/
def w_law_times : WS := (wSeq (wAsgO 3 (wOp fRep (wLst (wCons (wC (.int 0)) wNil)) (wOp fSub (wOp fAdd (wCB fLen (wCons (wVarB 1) wNil)) (wCB fLen (wCons (wVarB 2) wNil))) (wC (.int 1))))) (wSeq (wFor [4, 5] [4, 5, 6, 7, 8] (wEnum (wCons (wVar 1) wNil)) (wFor [6, 7] [6, 7, 8] (wEnum (wCons (wVar 2) wNil)) (wSeq (wAsg 8 (wOp fAdd (wOp fIx (wVarB 3) (wOp fAdd (wVarB 4) (wVarB 6))) (wOp fMul (wVarB 5) (wVarB 7)))) (wPut 3 (wOp fSub (wVarB 8) (wOp fMul (wOp fFdiv (wVarB 8) (wVarB 0)) (wVarB 0))) (wOp fAdd (wVarB 4) (wVarB 6)))))) (wRetO 3)))
def c_law_times : WC := cN 3 9 w_law_times
theorem e_law_times {x0 x1 x2 : D} {Q : D → Prop} (h : w_law_times { nx := fun _ => False, rt := Q } [.fz x0, .fz x1, .fz x2, .any, .any, .any, .any, .any, .any]) : c_law_times [x0, x1, x2] Q := ⟨rfl, h⟩
def sp_law_times (K : Fr) : Sp := spD K .nw c_law_times
theorem len_law_times (vs : List V) (H : Hp) (Q : VK) (E : XK) (h : sp_law_times K vs H Q E) : vs.length = 3 := spN_len (ws := w_law_times) (n := 3) (N := 9) h
def t_law_times (K : Fr) : TS := (tSeq (tAsg (tOp rRep (tLst (tCons (tC (.int 0)) tNil)) (tOp rSubI (tOp rAddI (tCB (rLenA K) (tCons (tVar 1) tNil)) (tCB (rLenA K) (tCons (tVar 2) tNil))) (tC (.int 1)))) (gName 3)) (tSeq (tFor (iEnumA K (tCons (tVar 1) tNil)) (gTup K 2 (gCons (gName 4) (gCons (gName 5) gNil))) (tFor (iEnumA K (tCons (tVar 2) tNil)) (gTup K 2 (gCons (gName 6) (gCons (gName 7) gNil))) (tSeq (tAsg (tOp rAddI (tOp (rIxA K) (tVar 3) (tOp rAddI (tVar 4) (tVar 6))) (tOp rMulI (tVar 5) (tVar 7))) (gName 8)) (tAsg (tOp rSubI (tVar 8) (tOp rMulI (tOp rFdivI (tVar 8) (tVar 0)) (tVar 0))) (gSub (tVar 3) (tOp rAddI (tVar 4) (tVar 6)) rSetL))))) (tRet (tVar 3))))
theorem rs_law_times : RS K .nw (t_law_times K) w_law_times := (rs_seq (rs_asgO (re_op v2_rep (re_lentN (re_lst (ra_cons re_int ra_nil))) (re_lent (re_op v2_sub (re_lent (re_op v2_add (re_lent (re_cb va_len (ra_consB re_varB ra_nil))) (re_lent (re_cb va_len (ra_consB re_varB ra_nil))))) (re_lent re_int))))) (rs_seq (rs_for (ri_enum (ra_cons re_var ra_nil)) (rs_for (ri_enum (ra_cons re_var ra_nil)) (rs_seq (rs_asg (re_op v2_add (re_lent (re_op v2_ix re_varB (re_lent (re_op v2_add re_varB re_varB)))) (re_lent (re_op v2_mul re_varB re_varB)))) (rs_put (re_op v2_sub re_varB (re_lent (re_op v2_mul (re_lent (re_op v2_fdiv re_varB re_varB)) re_varB))) (re_op v2_add re_varB re_varB))))) rs_retO))
theorem pure_law_times (vs : List V) (H : Hp) (Q : VK) (E : XK) (h : sp_law_times K vs H Q E) : t_law_times K { nx := fun _ H' => Q .non H', rt := Q } (L2.start ["_law_prime", "_law_one", "_law_other", "_law_found", "_law_at", "_law_near", "_law_to", "_law_far", "_law_number"] vs) H := spN_pure (N := ["_law_prime", "_law_one", "_law_other", "_law_found", "_law_at", "_law_near", "_law_to", "_law_far", "_law_number"]) (n := 3) (ws := w_law_times) rs_law_times h
/-! _law_right -/
def w_law_right : WS := (wSeq (wUnp [1, 2] (wCall c_law_field (wCons (wVar 0) wNil))) (wSeq (wAsg 3 (wOp fIx (wLst (wCons (wC (.int 0)) (wCons (wC (.int 0)) (wCons (wC (.int 7)) (wCons (wC (.int 4)) (wCons (wC (.int 0)) (wCons (wC (.int 3)) (wCons (wC (.int 0)) (wCons (wC (.int 3)) wNil))))))))) (wVarB 1))) (wSeq (wPar 4 5 (wCall c_law_drawn (wCons (wVar 0) (wCons (wVar 1) (wCons (wVar 3) wNil)))) (wCall c_law_drawn (wCons (wVar 0) (wCons (wVar 1) (wCons (wCB fMin2 (wCons (wVarB 3) (wCons (wC (.int 5)) wNil))) wNil))))) (wSeq (wAsg 6 (wCall c_law_draw (wCons (wVar 0) (wCons (wCB fLen (wCons (wVarB 2) wNil)) wNil)))) (wSeq (wAsg 7 (wOp fCat (wOp fCat (wSl (wVarB 2) wNoPart (wPart (wVar 6))) (wLst (wCons (wOp fAdd (wOp fIx (wVarB 2) (wVarB 6)) (wC (.int 1))) wNil))) (wSl (wVarB 2) (wPart (wOp fAdd (wVarB 6) (wC (.int 1)))) wNoPart))) (wSeq (wAsgO 8 (wLst (wCons (wVar 2) (wCons (wCB fTuple (wCons (wVarB 2) wNil)) (wCons (wOp fCat (wSl (wVarB 2) wNoPart (wPart (wUn fNeg (wC (.int 1))))) (wLst (wCons (wC (.bl true)) wNil))) (wCons (wVar 7) (wCons (wUn fRev (wVarB 2)) (wCons (wOp fCat (wVarB 2) (wLst (wCons (wC (.int 0)) wNil))) (wCons (wSl (wVarB 2) wNoPart (wPart (wUn fNeg (wC (.int 1))))) wNil))))))))) (wSeq (wExt 8 (wLst (wCons (wVar 4) (wCons (wVar 5) wNil)))) (wSeq (wAsgO 8 (wOp fCat (wVarB 8) (wLst (wCons (wOp fCat (wLst (wCons (wVar 1) wNil)) (wSl (wVarB 2) (wPart (wC (.int 1))) wNoPart)) (wCons (wOp fCat (wLst (wCons (wUn fNeg (wC (.int 1))) wNil)) (wSl (wVarB 2) (wPart (wC (.int 1))) wNoPart)) (wCons (wOp fCat (wLst (wCons (wC .non) wNil)) (wSl (wVarB 2) (wPart (wC (.int 1))) wNoPart)) (wCons (wOp fCat (wLst (wCons (wLst (wCons (wC (.int 1)) wNil)) wNil)) (wSl (wVarB 2) (wPart (wC (.int 1))) wNoPart)) wNil))))))) (wSeq (wAsgO 8 (wOp fCat (wVarB 8) (wLst (wCons (wLst (wCons (wC (.int 1)) (wCons (wC (.int 1)) wNil))) (wCons (wLst (wCons (wC (.int 0)) (wCons (wC (.int 1)) wNil))) (wCons (wLst (wCons (wC (.int 1)) wNil)) wNil)))))) (wSeq (wAsgO 8 (wOp fCat (wVarB 8) (wLst (wCons (wC .non) (wCons (wC (.bl true)) (wCons (wC (.int 0)) (wCons (wC (.str "")) (wCons (wC (.str "1101")) (wCons (wLst wNil) (wCons (wTup wNil) (wCons wDNew (wCons (wC (.int 13)) (wCons (wLst (wCons (wC (.int 1)) (wCons (wC (.int 0)) (wCons (wC (.int 0)) (wCons (wC (.int 2)) wNil))))) (wCons (wLst (wCons (wC (.bl false)) (wCons (wC (.int 1)) (wCons (wC (.int 1)) wNil)))) wNil)))))))))))))) (wSeq (wAsg 9 (wCB fReprX (wCons (wVarB 8) wNil))) (wSeq (wFz 8 (wFor [10] [10, 11] (wEach (wVar 8)) (wSeq (wAsg 11 (wCall c_law_is_modulus (wCons (wVar 1) (wCons (wVar 10) wNil)))) (wIfS (wTest (wOp fNeA (wCB fReprX (wCons (wLst (wCons (wCall (c_is_modulusU []) (wCons (wVar 1) (wCons (wVar 10) wNil))) (wCons (wCallN [1, 0] (c_is_modulusU []) wNil (wCons (wVar 10) (wCons (wVar 1) wNil))) wNil))) wNil)) (wCB fReprX (wCons (wOp fRep (wLst (wCons (wVar 11) wNil)) (wC (.int 2))) wNil)))) (wRet (wC (.bl false))) wNext)))) (wSeq (wFor [12, 13] [12, 13] (wEachN 2 (wLst (wCons (wTup (wCons (wVar 4) (wCons (wVar 5) wNil))) (wCons (wTup (wCons (wVar 2) (wCons (wSl (wVarB 4) (wPart (wUn fNeg (wC (.int 2)))) wNoPart) wNil))) (wCons (wTup (wCons (wVar 5) (wCons (wVar 5) wNil))) wNil))))) (wIfS (wTest (wOp (fIsB true) (wCall (c_is_modulusU []) (wCons (wVar 1) (wCons (wCall c_law_times (wCons (wVar 1) (wCons (wVar 12) (wCons (wVar 13) wNil)))) wNil))) (wC (.bl false)))) (wRet (wC (.bl false))) wNext)) (wRet (wAndV (wOp (fIsB false) (wCall (c_is_modulusU []) (wCons (wVar 1) (wCons (wOp fCat (wOp fRep (wLst (wCons (wC (.int 0)) wNil)) (wC (.int 13))) (wLst (wCons (wC (.int 1)) wNil))) wNil))) (wC (.bl false))) (wAndV (wOp (fIsB false) (wCall (c_is_modulusU []) (wCons (wVar 1) (wCons (wVar 2) wNil))) (wC (.bl true))) (wOp fEqA (wCB fReprX (wCons (wVarB 8) wNil)) (wVarB 9))))))))))))))))))
def c_law_right : WC := cD 1 14 w_law_right
theorem e_law_right {x0 : D} {Q : D → Prop} (h : w_law_right { nx := fun _ => Q .non, rt := Q } [.fz x0, .any, .any, .any, .any, .any, .any, .any, .any, .any, .any, .any, .any, .any]) : c_law_right [x0] Q := ⟨rfl, h⟩
def sp_law_right (K : Fr) : Sp := spD K .fz c_law_right
theorem len_law_right (vs : List V) (H : Hp) (Q : VK) (E : XK) (h : sp_law_right K vs H Q E) : vs.length = 1 := spD_len (ws := w_law_right) (n := 1) (N := 14) h
def t_law_right (K : Fr) : TS := (tSeq (tAsg (tCall (sp_law_field K) [] E0 (tCons (tVar 0) tNil)) (gTup K 2 (gCons (gName 1) (gCons (gName 2) gNil)))) (tSeq (tAsg (tOp (rIxA K) (tLst (tCons (tC (.int 0)) (tCons (tC (.int 0)) (tCons (tC (.int 7)) (tCons (tC (.int 4)) (tCons (tC (.int 0)) (tCons (tC (.int 3)) (tCons (tC (.int 0)) (tCons (tC (.int 3)) tNil))))))))) (tVar 1)) (gName 3)) (tSeq (tPar 4 5 (tCons (tCall (sp_law_drawn K) [] E0 (tCons (tVar 0) (tCons (tVar 1) (tCons (tVar 3) tNil)))) (tCons (tCall (sp_law_drawn K) [] E0 (tCons (tVar 0) (tCons (tVar 1) (tCons (tCB (rMin2) (tCons (tVar 3) (tCons (tC (.int 5)) tNil))) tNil)))) tNil))) (tSeq (tAsg (tCall (sp_law_draw K) [] E0 (tCons (tVar 0) (tCons (tCB (rLenA K) (tCons (tVar 2) tNil)) tNil))) (gName 6)) (tSeq (tAsg (tOp rCat (tOp rCat (tSl (rSlL K) (tVar 2) tNoPart (tPart (tVar 6))) (tLst (tCons (tOp rAddI (tOp (rIxA K) (tVar 2) (tVar 6)) (tC (.int 1))) tNil))) (tSl (rSlL K) (tVar 2) (tPart (tOp rAddI (tVar 6) (tC (.int 1)))) tNoPart)) (gName 7)) (tSeq (tAsg (tLst (tCons (tVar 2) (tCons (tCB (rTupA K) (tCons (tVar 2) tNil)) (tCons (tOp rCat (tSl (rSlL K) (tVar 2) tNoPart (tPart (tUn rNeg (tC (.int 1))))) (tLst (tCons (tC (.bl true)) tNil))) (tCons (tVar 7) (tCons (tRevL K (tVar 2)) (tCons (tOp rCat (tVar 2) (tLst (tCons (tC (.int 0)) tNil))) (tCons (tSl (rSlL K) (tVar 2) tNoPart (tPart (tUn rNeg (tC (.int 1))))) tNil)))))))) (gName 8)) (tSeq (tDrop (tBM K "list" rExtend (tVar 8) (tCons (tLst (tCons (tVar 4) (tCons (tVar 5) tNil))) tNil))) (tSeq (tAsg (tOp rCat (tVar 8) (tLst (tCons (tOp rCat (tLst (tCons (tVar 1) tNil)) (tSl (rSlL K) (tVar 2) (tPart (tC (.int 1))) tNoPart)) (tCons (tOp rCat (tLst (tCons (tUn rNeg (tC (.int 1))) tNil)) (tSl (rSlL K) (tVar 2) (tPart (tC (.int 1))) tNoPart)) (tCons (tOp rCat (tLst (tCons (tC .non) tNil)) (tSl (rSlL K) (tVar 2) (tPart (tC (.int 1))) tNoPart)) (tCons (tOp rCat (tLst (tCons (tLst (tCons (tC (.int 1)) tNil)) tNil)) (tSl (rSlL K) (tVar 2) (tPart (tC (.int 1))) tNoPart)) tNil)))))) (gName 8)) (tSeq (tAsg (tOp rCat (tVar 8) (tLst (tCons (tLst (tCons (tC (.int 1)) (tCons (tC (.int 1)) tNil))) (tCons (tLst (tCons (tC (.int 0)) (tCons (tC (.int 1)) tNil))) (tCons (tLst (tCons (tC (.int 1)) tNil)) tNil))))) (gName 8)) (tSeq (tAsg (tOp rCat (tVar 8) (tLst (tCons (tC .non) (tCons (tC (.bl true)) (tCons (tC (.int 0)) (tCons (tC (.str "")) (tCons (tC (.str "1101")) (tCons (tLst tNil) (tCons (tTup tNil) (tCons tDNewK (tCons (tC (.int 13)) (tCons (tLst (tCons (tC (.int 1)) (tCons (tC (.int 0)) (tCons (tC (.int 0)) (tCons (tC (.int 2)) tNil))))) (tCons (tLst (tCons (tC (.bl false)) (tCons (tC (.int 1)) (tCons (tC (.int 1)) tNil)))) tNil))))))))))))) (gName 8)) (tSeq (tAsg (tCB (rReprX K) (tCons (tVar 8) tNil)) (gName 9)) (tSeq (tFor (iSeq K (tVar 8)) (gName 10) (tSeq (tAsg (tCall (sp_law_is_modulus K) [] E0 (tCons (tVar 1) (tCons (tVar 10) tNil))) (gName 11)) (tIfS (tTest (tOp (rNeA K) (tCB (rReprX K) (tCons (tLst (tCons (tCall (sp_is_modulus K) [] E0 (tCons (tVar 1) (tCons (tVar 10) tNil))) (tCons (tCallN 0 2 (sp_is_modulus K) (permV [1, 0]) E0 tNil (tCons (tVar 10) (tCons (tVar 1) tNil))) tNil))) tNil)) (tCB (rReprX K) (tCons (tOp rRep (tLst (tCons (tVar 11) tNil)) (tC (.int 2))) tNil)))) (tRet (tC (.bl false))) tNext))) (tSeq (tFor (iSeq K (tLst (tCons (tTup (tCons (tVar 4) (tCons (tVar 5) tNil))) (tCons (tTup (tCons (tVar 2) (tCons (tSl (rSlL K) (tVar 4) (tPart (tUn rNeg (tC (.int 2)))) tNoPart) tNil))) (tCons (tTup (tCons (tVar 5) (tCons (tVar 5) tNil))) tNil))))) (gTup K 2 (gCons (gName 12) (gCons (gName 13) gNil))) (tIfS (tTest (tOp rNotB (tCall (sp_is_modulus K) [] E0 (tCons (tVar 1) (tCons (tCall (sp_law_times K) [] E0 (tCons (tVar 1) (tCons (tVar 12) (tCons (tVar 13) tNil)))) tNil))) (tC (.bl false)))) (tRet (tC (.bl false))) tNext)) (tRet (tAndV (tOp rIsB (tCall (sp_is_modulus K) [] E0 (tCons (tVar 1) (tCons (tOp rCat (tOp rRep (tLst (tCons (tC (.int 0)) tNil)) (tC (.int 13))) (tLst (tCons (tC (.int 1)) tNil))) tNil))) (tC (.bl false))) (tAndV (tOp rIsB (tCall (sp_is_modulus K) [] E0 (tCons (tVar 1) (tCons (tVar 2) tNil))) (tC (.bl true))) (tOp (rEqA K) (tCB (rReprX K) (tCons (tVar 8) tNil)) (tVar 9))))))))))))))))))
theorem rs_law_right (ip_ : IsPs K []) : RS K .fz (t_law_right K) w_law_right := (rs_seq (rs_unp (re_call Ad.id (ra_cons re_var ra_nil))) (rs_seq (rs_asg (re_op v2_ix (re_lentN (re_lst (ra_cons re_int (ra_cons re_int (ra_cons re_int (ra_cons re_int (ra_cons re_int (ra_cons re_int (ra_cons re_int (ra_cons re_int ra_nil)))))))))) re_varB)) (rs_seq (rs_par (re_told (re_call Ad.id (ra_cons re_var (ra_cons re_var (ra_cons re_var ra_nil))))) (re_told (re_call Ad.id (ra_cons re_var (ra_cons re_var (ra_cons (re_cb va_min2 (ra_consB re_varB (ra_consB (re_lent re_int) ra_nil))) ra_nil)))))) (rs_seq (rs_asg (re_call ad_law_draw (ra_cons re_var (ra_cons (re_cb va_len (ra_consB re_varB ra_nil)) ra_nil)))) (rs_seq (rs_asg (re_told (re_op v2_cat (re_lentN (re_op v2_cat (re_lentN (re_sl re_varB ro_none (ro_some re_var))) (re_lentN (re_lst (ra_cons (re_op v2_add (re_lent (re_op v2_ix re_varB re_varB)) (re_lent re_int)) ra_nil))))) (re_lentN (re_sl re_varB (ro_some (re_op v2_add re_varB (re_lent re_int))) ro_none))))) (rs_seq (rs_asgO (re_lst (ra_cons re_var (ra_cons (re_cb va_tuple (ra_consB re_varB ra_nil)) (ra_cons (re_told (re_op v2_cat (re_lentN (re_sl re_varB ro_none (ro_some (re_un v1_neg (re_lent re_int))))) (re_lentN (re_lst (ra_cons re_bl ra_nil))))) (ra_cons re_var (ra_cons (re_told (re_rev re_varB)) (ra_cons (re_told (re_op v2_cat re_varB (re_lentN (re_lst (ra_cons re_int ra_nil))))) (ra_cons (re_told (re_sl re_varB ro_none (ro_some (re_un v1_neg (re_lent re_int))))) ra_nil))))))))) (rs_seq (rs_ext (re_lentN (re_lst (ra_cons re_var (ra_cons re_var ra_nil))))) (rs_seq (rs_asgO (re_op v2_cat re_varB (re_lentN (re_lst (ra_cons (re_told (re_op v2_cat (re_lentN (re_lst (ra_cons re_var ra_nil))) (re_lentN (re_sl re_varB (ro_some re_int) ro_none)))) (ra_cons (re_told (re_op v2_cat (re_lentN (re_lst (ra_cons (re_un v1_neg (re_lent re_int)) ra_nil))) (re_lentN (re_sl re_varB (ro_some re_int) ro_none)))) (ra_cons (re_told (re_op v2_cat (re_lentN (re_lst (ra_cons re_non ra_nil))) (re_lentN (re_sl re_varB (ro_some re_int) ro_none)))) (ra_cons (re_told (re_op v2_cat (re_lentN (re_lst (ra_cons (re_told (re_lst (ra_cons re_int ra_nil))) ra_nil))) (re_lentN (re_sl re_varB (ro_some re_int) ro_none)))) ra_nil)))))))) (rs_seq (rs_asgO (re_op v2_cat re_varB (re_lentN (re_lst (ra_cons (re_told (re_lst (ra_cons re_int (ra_cons re_int ra_nil)))) (ra_cons (re_told (re_lst (ra_cons re_int (ra_cons re_int ra_nil)))) (ra_cons (re_told (re_lst (ra_cons re_int ra_nil))) ra_nil))))))) (rs_seq (rs_asgO (re_op v2_cat re_varB (re_lentN (re_lst (ra_cons re_non (ra_cons re_bl (ra_cons re_int (ra_cons re_str (ra_cons re_str (ra_cons (re_told (re_lst ra_nil)) (ra_cons (re_tup ra_nil) (ra_cons re_dnew (ra_cons re_int (ra_cons (re_told (re_lst (ra_cons re_int (ra_cons re_int (ra_cons re_int (ra_cons re_int ra_nil)))))) (ra_cons (re_told (re_lst (ra_cons re_bl (ra_cons re_int (ra_cons re_int ra_nil))))) ra_nil))))))))))))))) (rs_seq (rs_asg (re_cb va_reprX (ra_consB re_varB ra_nil))) (rs_seq (rs_fz (rs_for (ri_seq re_var) (rs_seq (rs_asg (re_call Ad.id (ra_cons re_var (ra_cons re_var ra_nil)))) (rs_if (rt_test (re_op v2_neA (re_lent (re_cb va_reprX (ra_consB (re_lentN (re_lst (ra_cons (re_call (ad_is_modulusU ip_) (ra_cons re_var (ra_cons re_var ra_nil))) (ra_cons (re_callN (ad_is_modulusU ip_) ra_nil (ra_cons re_var (ra_cons re_var ra_nil))) ra_nil)))) ra_nil))) (re_lent (re_cb va_reprX (ra_consB (re_lentN (re_op v2_rep (re_lentN (re_lst (ra_cons re_var ra_nil))) (re_lent re_int))) ra_nil))))) (rs_ret re_bl) rs_next)))) (rs_seq (rs_for (ri_seqN (re_told (re_lst (ra_cons (re_tup (ra_cons re_var (ra_cons re_var ra_nil))) (ra_cons (re_tup (ra_cons re_var (ra_cons (re_told (re_sl re_varB (ro_some (re_un v1_neg (re_lent re_int))) ro_none)) ra_nil))) (ra_cons (re_tup (ra_cons re_var (ra_cons re_var ra_nil))) ra_nil)))))) (rs_if (rt_test (re_op v2_notB (re_lent (re_call (ad_is_modulusU ip_) (ra_cons re_var (ra_cons (re_told (re_call Ad.id (ra_cons re_var (ra_cons re_var (ra_cons re_var ra_nil))))) ra_nil)))) (re_lent re_bl))) (rs_ret re_bl) rs_next)) (rs_ret (re_andV (re_op v2_isB (re_lent (re_call (ad_is_modulusU ip_) (ra_cons re_var (ra_cons (re_told (re_op v2_cat (re_lentN (re_op v2_rep (re_lentN (re_lst (ra_cons re_int ra_nil))) (re_lent re_int))) (re_lentN (re_lst (ra_cons re_int ra_nil))))) ra_nil)))) (re_lent re_bl)) (re_andV (re_op v2_isB (re_lent (re_call (ad_is_modulusU ip_) (ra_cons re_var (ra_cons re_var ra_nil)))) (re_lent re_bl)) (re_op v2_eqA (re_lent (re_cb va_reprX (ra_consB re_varB ra_nil))) re_varB)))))))))))))))))
theorem pure_law_right (ip_ : IsPs K []) (vs : List V) (H : Hp) (Q : VK) (E : XK) (h : sp_law_right K vs H Q E) : t_law_right K { nx := fun _ H' => Q .non H', rt := Q } (L2.start ["_law_pot_here", "_law_prime", "_law_modulus", "_law_most", "_law_one", "_law_other", "_law_at", "_law_bent", "_law_values", "_law_shown", "_law_value", "_law_due", "_law_near", "_law_far"] vs) H := spD_pure (N := ["_law_pot_here", "_law_prime", "_law_modulus", "_law_most", "_law_one", "_law_other", "_law_at", "_law_bent", "_law_values", "_law_shown", "_law_value", "_law_due", "_law_near", "_law_far"]) (n := 1) (ws := w_law_right) (rs_law_right ip_) h
/-! the law -/
def sp_law (K : Fr) : Sp := fun vs H Q _ => ∃ (a : Addr) (ns : List Int), vs = [.ref a] ∧ SqL K H a (ns.map V.int) ∧ (∀ d, d = D.bl true → True) ∧ c_law_right [.pot] (fun d => d = .bl true) ∧ ∀ H', Q (.bl true) H'
theorem len_law (vs : List V) (H : Hp) (Q : VK) (E : XK) (h : sp_law K vs H Q E) : vs.length = 1 := by obtain ⟨_, _, rfl, _⟩ := h; rfl
def t_law (K : Fr) : TS := (tRet (tCall (sp_law_right K) [] E0 (tCons (tCall (sp_law_pot K) [] E0 (tCons (tVar 0) (tCons (tC (.int 0)) tNil))) tNil)))
theorem pure_law (vs : List V) (H : Hp) (Q : VK) (E : XK) (h : sp_law K vs H Q E) : t_law K { nx := fun _ H' => Q .non H', rt := Q } (L2.start ["_law_script"] vs) H := by
  obtain ⟨a, ns, rfl, hs, _, hc, q⟩ := h
  refine ⟨_, rfl, a, ns, 0, rfl, hs, fun p H' np e P => ?_⟩
  show spD K .fz c_law_right [.ref p] H' _ E0
  refine ⟨p, fun _ => none, [.pot], _, ⟨(fun _ _ z => nomatch z), P, rfl⟩, RepL.cons (by unfold Rep; rfl) RepL.nil, hc, ?_⟩
  rintro d v F' H2 g b r rfl
  rw [r.bl_inv]
  exact q H2

end TP.K12
/-! PSp -/
set_option maxHeartbeats 4000000
namespace TP
open PySem PySem.Spec PyProof.Rows L2
/-! # Spans, and the steps that are made of them -/
section
variable {F : FD}
def fig (F : FD) (x : Int) (i : Nat) : Int := (figs F.p F.t x).getD i 0
theorem fig_in (o : F.Ok) (x : Int) (i : Nat) : 0 ≤ fig F x i ∧ fig F x i < F.p := figs_in o x i
theorem fig_eq (o : F.Ok) {x y : Int} (hx : InF F x) (hy : InF F y) (h : ∀ i, fig F x i = fig F y i) : x = y := figs_eq o hx hy h
theorem fig_add (o : F.Ok) (x y : Int) (i : Nat) : fig F (addF F x y) i = (fig F x i + fig F y i) % F.p := figs_add o x y i
theorem fig_sub (o : F.Ok) (x y : Int) (i : Nat) : fig F (subF F x y) i = (fig F x i - fig F y i) % F.p := figs_sub o x y i
theorem fig_zero (o : F.Ok) (i : Nat) : fig F 0 i = 0 := by
  unfold fig
  rw [figs_0, List.getD_eq_getElem?_getD, List.getElem?_replicate]
  split <;> rfl
theorem fig_base (o : F.Ok) {c : Int} (h0 : 0 ≤ c) (h1 : c < F.p) (i : Nat) : fig F c i = if i = 0 then c else 0 := by
  have ht := o.tb
  obtain ⟨t, e⟩ : ∃ t, F.t = t + 1 := ⟨F.t - 1, by omega⟩
  unfold fig
  rw [e, figs_succ, Int.emod_eq_of_lt h0 h1, Int.ediv_eq_zero_of_lt h0 h1, figs_0]
  cases i with
  | zero => rfl
  | succ i =>
    rw [if_neg (by omega)]
    show (List.replicate t (0 : Int)).getD i 0 = 0
    rw [List.getD_eq_getElem?_getD, List.getElem?_replicate]
    split <;> rfl
theorem base_in (o : F.Ok) {c : Int} (h0 : 0 ≤ c) (h1 : c < F.p) : InF F c := by
  refine ⟨h0, ?_⟩
  have ht := o.tb
  obtain ⟨t, e⟩ : ∃ t, F.t = t + 1 := ⟨F.t - 1, by omega⟩
  have h2 : 0 < F.p ^ t := Int.pow_pos (pp o)
  unfold FD.size
  rw [e, Int.pow_succ]
  have h3 : 1 * F.p ≤ F.p ^ t * F.p := Int.mul_le_mul_of_nonneg_right (by omega) (by have := pp o; omega)
  omega
theorem mul_1 (T : Tab F) {x : Int} (hx : InF F x) : mulF F x 1 = x := by
  rw [← M_mul T hx (InF_one T.ok), M_one T hx]
/-- a multiple by a base figure -/
theorem mul_sumN (T : Tab F) {y : Int} (hy : InF F y) : ∀ k : Nat, (k : Int) < F.p → mulF F (k : Int) y = sumN F y k
  | 0, _ => mulF_0x F y
  | k + 1, h => by
    have o := T.ok
    have ih := mul_sumN T hy k (by omega)
    have e : ((k + 1 : Nat) : Int) = addF F (k : Int) 1 := by
      refine fig_eq o (base_in o (by omega) h) (addF_in o _ _) fun i => ?_
      rw [fig_add o, fig_base o (by omega) h, fig_base o (by omega) (by omega : (k : Int) < F.p), fig_base o (by omega) (by have := o.two; omega : (1 : Int) < F.p)]
      split
      · rw [Int.emod_eq_of_lt (by omega) (by omega)]; omega
      · rfl
    rw [e, mul_comm', distrib T hy (base_in o (by omega) (by omega)) (InF_one o), mul_1 T hy, mul_comm', ih]
    rfl
theorem fig_scal (T : Tab F) {c y : Int} (h0 : 0 ≤ c) (h1 : c < F.p) (hy : InF F y) (i : Nat) : fig F (mulF F c y) i = c * fig F y i % F.p := by
  have o := T.ok
  have e : c = ((c.toNat : Nat) : Int) := by omega
  have := mul_sumN T hy c.toNat (by omega)
  rw [← e] at this
  rw [this]
  unfold fig
  rw [figs_sumN o, ← e]
theorem dvd_mod (p a : Int) : p ∣ a % p - a := by
  refine ⟨-(a / p), ?_⟩
  have := Int.mul_ediv_add_emod a p
  have e : p * -(a / p) = -(p * (a / p)) := by rw [Int.mul_neg]
  rw [e]
  omega
/-! ### spans -/
structure Sub (F : FD) (S : Int → Prop) : Prop where
  inF : ∀ x, S x → InF F x
  zero : S 0
  add : ∀ x y, S x → S y → S (addF F x y)
  scal : ∀ c x, 0 ≤ c → c < F.p → S x → S (mulF F c x)
theorem sub_eq (T : Tab F) {x y : Int} (hy : InF F y) : subF F x y = addF F x (mulF F (F.p - 1) y) := by
  have o := T.ok
  have h2 := o.two
  refine fig_eq o (subF_in o _ _) (addF_in o _ _) fun i => ?_
  rw [fig_sub o, fig_add o, fig_scal T (by omega) (by omega) hy]
  have e : fig F x i + (F.p - 1) * fig F y i % F.p = (fig F x i - fig F y i) + ((F.p - 1) * fig F y i % F.p + fig F y i) := by omega
  have h3 : F.p ∣ (F.p - 1) * fig F y i % F.p + fig F y i := by
    have h4 := dvd_mod F.p ((F.p - 1) * fig F y i)
    have e2 : (F.p - 1) * fig F y i % F.p + fig F y i = ((F.p - 1) * fig F y i % F.p - (F.p - 1) * fig F y i) + F.p * fig F y i := by grind
    rw [e2]
    exact Int.dvd_add h4 (Int.dvd_mul_right _ _)
  obtain ⟨k, hk⟩ := h3
  rw [e, hk, Int.add_mul_emod_self_left]
theorem Sub.sub (T : Tab F) {S : Int → Prop} (h : Sub F S) {x y : Int} (hx : S x) (hy : S y) : S (subF F x y) := by
  have h2 := T.ok.two
  rw [sub_eq T (h.inF _ hy)]
  exact h.add _ _ hx (h.scal _ _ (by omega) (by omega) hy)
def Span (F : FD) (l : List Int) (x : Int) : Prop := ∀ S : Int → Prop, Sub F S → (∀ e ∈ l, S e) → S x
def AllIn (F : FD) (l : List Int) : Prop := ∀ e ∈ l, InF F e
theorem sub_all (o : F.Ok) : Sub F (InF F) := ⟨fun _ h => h, InF_zero o, fun _ _ _ _ => addF_in o _ _, fun _ _ _ _ _ => mulF_InF o _ _⟩
theorem Span.sub (o : F.Ok) {l : List Int} (h : AllIn F l) : Sub F (Span F l) :=
  ⟨fun x hx => hx _ (sub_all o) h, fun S s _ => s.zero, fun x y hx hy S s hl => s.add _ _ (hx S s hl) (hy S s hl), fun c x c0 c1 hx S s hl => s.scal _ _ c0 c1 (hx S s hl)⟩
theorem Span.mem {l : List Int} {e : Int} (h : e ∈ l) : Span F l e := fun _ _ hl => hl e h
theorem Span.le {l l' : List Int} (h : ∀ e ∈ l, Span F l' e) {x : Int} (hx : Span F l x) : Span F l' x := fun S s hl => hx S s fun e he => h e he S s hl
/-! ### where an element ends -/
def lastNZ : List Int → Nat → Nat → Nat
  | [], _, m => m
  | f :: fs, i, m => lastNZ fs (i + 1) (if f = 0 then m else i)
def endI (F : FD) (x : Int) : Nat := lastNZ (figs F.p F.t x) 0 0
/-! ### clearing -/
def clr (F : FD) (x s : Int) : Int := subF F x (mulF F (fig F x (endI F s)) s)
def leftP (F : FD) (S : List Int) (x : Int) : Int := S.foldl (clr F) x
theorem clr_in (o : F.Ok) (x s : Int) : InF F (clr F x s) := subF_in o _ _
theorem Sub.clr (T : Tab F) {S : Int → Prop} (h : Sub F S) {x s : Int} (hx : S x) (hs : S s) : S (clr F x s) := by
  have := fig_in T.ok x (endI F s)
  exact h.sub T hx (h.scal _ _ this.1 this.2 hs)
theorem Sub.unclr (T : Tab F) {S : Int → Prop} (h : Sub F S) {x s : Int} (ix : InF F x) (hx : S (TP.clr F x s)) (hs : S s) : S x := by
  have := fig_in T.ok x (endI F s)
  have h2 := h.add _ _ hx (h.scal _ _ this.1 this.2 hs)
  unfold TP.clr at h2
  rwa [sub_add' T.ok _ ix] at h2
theorem Sub.left (T : Tab F) {Q : Int → Prop} (h : Sub F Q) : ∀ {S : List Int} {x : Int}, InF F x → (∀ s ∈ S, Q s) → (Q x ↔ Q (leftP F S x))
  | [], _, _, _ => Iff.rfl
  | s :: S, x, ix, hS => by
    have h1 := Sub.left T h (S := S) (clr_in T.ok x s) fun u hu => hS u (List.mem_cons_of_mem _ hu)
    show Q x ↔ Q (leftP F S (TP.clr F x s))
    rw [← h1]
    exact ⟨fun q => h.clr T q (hS s List.mem_cons_self), fun q => h.unclr T ix q (hS s List.mem_cons_self)⟩
/-! clearing is linear -/
/-! ### steps -/
structure Stp (F : FD) (s : Int) : Prop where
  inF : InF F s
  ne : s ≠ 0
  one : fig F s (endI F s) = 1
def Apart (F : FD) (s u : Int) : Prop := fig F s (endI F u) = 0 ∧ fig F u (endI F s) = 0
structure Ech (F : FD) (S : List Int) : Prop where
  stp : ∀ s ∈ S, Stp F s
  pw : S.Pairwise (Apart F)
theorem Ech.tail {s : Int} {S : List Int} (h : Ech F (s :: S)) : Ech F S := ⟨fun u hu => h.stp u (List.mem_cons_of_mem _ hu), h.pw.tail⟩
/-! ### one element more -/
def nrm (F : FD) (l : Int) : Int := divF F l (fig F l (endI F l))
def stepIn (F : FD) (S : List Int) (e : Int) : List Int := if leftP F S e = 0 then S else S.map (fun s => clr F s (nrm F (leftP F S e))) ++ [nrm F (leftP F S e)]
/-- the steps of some, not yet sorted -/
def stepsG (F : FD) (l : List Int) : List Int := l.foldl (stepIn F) []
end
end TP
/-! PSq -/
set_option maxHeartbeats 4000000
namespace TP
open PySem PySem.Spec PyProof.Rows L2
section
variable {F : FD}
/-! ### all mixtures, listed -/
def spanAdd (F : FD) (found : List Int) (e : Int) : List Int := if e ∈ found then found else (List.range F.p.toNat).flatMap fun (k : Nat) => found.map fun o => addF F o (mulF F (k : Int) e)
def spanL (F : FD) (l : List Int) : List Int := l.foldl (spanAdd F) [0]
theorem add_0r (o : F.Ok) {x : Int} (hx : InF F x) : addF F x 0 = x := by
  refine fig_eq o (addF_in o _ _) hx fun i => ?_
  rw [fig_add o, fig_zero o, Int.add_zero]
  exact Int.emod_eq_of_lt (fig_in o x i).1 (fig_in o x i).2
theorem add_comm' (o : F.Ok) (x y : Int) : addF F x y = addF F y x := by
  refine fig_eq o (addF_in o _ _) (addF_in o _ _) fun i => ?_
  rw [fig_add o, fig_add o, Int.add_comm]
structure SpanOk (F : FD) (l : List Int) : Prop where
  nd : (spanL F l).Nodup
  mem : ∀ x, x ∈ spanL F l ↔ Span F l x
  len : (spanL F l).length = F.p.toNat ^ (stepsG F l).length
end
end TP
/-! PFl -/
set_option maxHeartbeats 0
namespace TP
open PySem PySem.Spec PyProof.Rows L2
/-! ### the fields that are drawn, one by one -/
def Fd0 : FD := ⟨2, [1, 1, 1], [1, 2, 3]⟩
def Fd1 : FD := ⟨2, [1, 1, 0, 1], [1, 2, 4, 3, 6, 7, 5]⟩
def Fd2 : FD := ⟨2, [1, 0, 1, 1], [1, 2, 4, 5, 7, 3, 6]⟩
def Fd3 : FD := ⟨2, [1, 1, 0, 0, 1], [1, 2, 4, 8, 3, 6, 12, 11, 5, 10, 7, 14, 15, 13, 9]⟩
def Fd4 : FD := ⟨3, [1, 0, 1], [1, 4, 6, 7, 2, 8, 3, 5]⟩
def Fd5 : FD := ⟨3, [2, 1, 1], [1, 3, 7, 8, 2, 6, 5, 4]⟩
def Fd6 : FD := ⟨5, [2, 0, 1], [1, 6, 14, 5, 8, 21, 3, 18, 7, 15, 19, 13, 4, 24, 16, 20, 22, 9, 2, 12, 23, 10, 11, 17]⟩
def Fd7 : FD := ⟨2, [1, 0, 1, 0, 0, 1], [1, 2, 4, 8, 16, 5, 10, 20, 13, 26, 17, 7, 14, 28, 29, 31, 27, 19, 3, 6, 12, 24, 21, 15, 30, 25, 23, 11, 22, 9, 18]⟩
def Fd8 : FD := ⟨2, [1, 1, 0, 0, 0, 0, 1], [1, 2, 4, 8, 16, 32, 3, 6, 12, 24, 48, 35, 5, 10, 20, 40, 19, 38, 15, 30, 60, 59, 53, 41, 17, 34, 7, 14, 28, 56, 51, 37, 9, 18, 36, 11, 22, 44, 27, 54, 47, 29, 58, 55, 45, 25, 50, 39, 13, 26, 52, 43, 21, 42, 23, 46, 31, 62, 63, 61, 57, 49, 33]⟩
def Fd9 : FD := ⟨3, [1, 2, 0, 1], [1, 3, 9, 5, 15, 23, 13, 17, 20, 4, 12, 14, 11, 2, 6, 18, 7, 21, 16, 26, 22, 10, 8, 24, 25, 19]⟩
def Fd10 : FD := ⟨7, [1, 0, 1], [1, 9, 31, 30, 21, 46, 16, 44, 5, 38, 43, 45, 7, 20, 24, 17, 4, 29, 19, 15, 35, 23, 8, 22, 6, 47, 25, 26, 28, 10, 40, 12, 2, 18, 13, 11, 42, 36, 32, 39, 3, 27, 37, 41, 14, 33, 48, 34]⟩
def Fd11 : FD := ⟨5, [1, 1, 0, 1], [1, 9, 41, 63, 20, 105, 51, 97, 25, 124, 7, 33, 6, 29, 115, 116, 120, 11, 74, 69, 49, 95, 42, 67, 36, 43, 71, 52, 76, 66, 32, 2, 13, 57, 121, 15, 85, 102, 44, 50, 93, 14, 61, 12, 53, 80, 82, 90, 22, 118, 108, 68, 40, 59, 109, 72, 56, 117, 104, 27, 107, 64, 4, 21, 114, 92, 5, 45, 79, 58, 100, 31, 23, 122, 24, 101, 35, 39, 30, 19, 81, 86, 106, 55, 113, 88, 119, 112, 84, 78, 54, 89, 123, 3, 17, 98, 34, 10, 65, 28, 111, 75, 62, 16, 94, 18, 77, 70, 73, 60, 8, 37, 47, 87, 110, 96, 46, 83, 99, 38, 26, 103, 48, 91]⟩
def Fd12 : FD := ⟨2, [1, 1, 0, 0, 0, 0, 0, 1], [1, 2, 4, 8, 16, 32, 64, 3, 6, 12, 24, 48, 96, 67, 5, 10, 20, 40, 80, 35, 70, 15, 30, 60, 120, 115, 101, 73, 17, 34, 68, 11, 22, 44, 88, 51, 102, 79, 29, 58, 116, 107, 85, 41, 82, 39, 78, 31, 62, 124, 123, 117, 105, 81, 33, 66, 7, 14, 28, 56, 112, 99, 69, 9, 18, 36, 72, 19, 38, 76, 27, 54, 108, 91, 53, 106, 87, 45, 90, 55, 110, 95, 61, 122, 119, 109, 89, 49, 98, 71, 13, 26, 52, 104, 83, 37, 74, 23, 46, 92, 59, 118, 111, 93, 57, 114, 103, 77, 25, 50, 100, 75, 21, 42, 84, 43, 86, 47, 94, 63, 126, 127, 125, 121, 113, 97, 65]⟩
def Fd13 : FD := ⟨3, [2, 1, 0, 0, 1], [1, 3, 9, 27, 7, 21, 63, 32, 13, 39, 43, 46, 55, 8, 24, 72, 59, 11, 33, 25, 75, 68, 38, 31, 10, 30, 16, 48, 70, 53, 76, 71, 47, 58, 17, 51, 79, 80, 74, 56, 2, 6, 18, 54, 5, 15, 45, 61, 26, 78, 77, 65, 29, 4, 12, 36, 34, 19, 57, 14, 42, 52, 73, 62, 20, 60, 23, 69, 50, 67, 44, 49, 64, 35, 22, 66, 41, 40, 37, 28]⟩
def flds14 : List (Int × List Int) := [(2, [1, 1, 1]), (2, [1, 1, 0, 1]), (2, [1, 0, 1, 1]), (2, [1, 1, 0, 0, 1]), (3, [1, 0, 1]), (3, [2, 1, 1]), (5, [2, 0, 1]), (2, [1, 0, 1, 0, 0, 1]), (2, [1, 1, 0, 0, 0, 0, 1]), (3, [1, 2, 0, 1]), (7, [1, 0, 1]), (5, [1, 1, 0, 1]), (2, [1, 1, 0, 0, 0, 0, 0, 1]), (3, [2, 1, 0, 0, 1])]
end TP
/-! PX -/
set_option maxHeartbeats 4000000
namespace TP
open PySem PySem.Spec PyProof.Rows L2
/-! # Lists of figures as elements: what a polynomial comes to at the element whose number is the prime -/
def ev (F : FD) : List Int → Int
  | [] => 0
  | c :: r => addF F (c % F.p) (mulF F F.p (ev F r))
def pX (F : FD) : Nat → Int
  | 0 => 1
  | i + 1 => mulF F F.p (pX F i)
def shlB (F : FD) : Bool := (List.range (F.size / F.p).toNat).all fun y => decide (mulF F F.p (y : Int) = F.p * (y : Int))
def modB (F : FD) : Bool := decide (ev F F.md = 0)
structure Mo (F : FD) : Prop where
  tab : Tab F
  shl : ∀ y : Int, 0 ≤ y → F.p * y < F.size → mulF F F.p y = F.p * y
  mod : ev F F.md = 0
section
variable {F : FD}
theorem md_in (o : F.Ok) (c : Int) : 0 ≤ c % F.p ∧ c % F.p < F.p := ⟨Int.emod_nonneg _ (by have := o.two; omega), Int.emod_lt_of_pos _ (by have := o.two; omega)⟩
theorem md_InF (o : F.Ok) (c : Int) : InF F (c % F.p) := base_in o (md_in o c).1 (md_in o c).2
theorem one_InF (o : F.Ok) : InF F 1 := base_in o (by omega) (by have := o.two; omega)
theorem pX_in (o : F.Ok) : ∀ i, InF F (pX F i)
  | 0 => one_InF o
  | i + 1 => mulF_InF o _ _
theorem distr (T : Tab F) {a b c : Int} (ha : InF F a) (hb : InF F b) (hc : InF F c) : mulF F (addF F a b) c = addF F (mulF F a c) (mulF F b c) := by
  rw [mul_comm', distrib T hc ha hb, mul_comm' F c a, mul_comm' F c b]
/-! ## the product of polynomials -/
end
end TP
/-! PXf -/
set_option maxHeartbeats 4000000
namespace TP
open PySem PySem.Spec PyProof.Rows L2
end TP
/-! SK -/
set_option maxHeartbeats 4000000
/-! # Turn sums over any field with turns -/
namespace TP
class TF (K : Type) extends Lean.Grind.CommRing K where
  tw : Int → K → K
  inv : K → K
  dec : DecidableEq K
  tw_add : ∀ (k : Int) (a b : K), tw k (a + b) = tw k a + tw k b
  tw_mul : ∀ (k : Int) (a b : K), tw k (a * b) = tw k a * tw k b
  tw_tw : ∀ (a b : Int) (x : K), tw a (tw b x) = tw (a + b) x
  tw_z : ∀ x : K, tw 0 x = x
  mul_inv : ∀ a : K, a ≠ 0 → a * inv a = 1
  one_ne : (1 : K) ≠ 0
instance {K : Type} [TF K] : DecidableEq K := TF.dec
section
variable {K : Type} [TF K]
abbrev tw (k : Int) (x : K) : K := TF.tw k x
abbrev inv (x : K) : K := TF.inv x
theorem one_ne : (1 : K) ≠ 0 := TF.one_ne
theorem tw_add (k : Int) (a b : K) : tw k (a + b) = tw k a + tw k b := TF.tw_add k a b
theorem tw_mul (k : Int) (a b : K) : tw k (a * b) = tw k a * tw k b := TF.tw_mul k a b
theorem tw_tw (a b : Int) (x : K) : tw a (tw b x) = tw (a + b) x := TF.tw_tw a b x
theorem tw_z (x : K) : tw 0 x = x := TF.tw_z x
theorem tw_0 (k : Int) : tw k (0 : K) = 0 := by
  have h := tw_add k (0 : K) 0
  have e : (0 : K) + 0 = 0 := by grind
  rw [e] at h
  grind
theorem tw_1 (k : Int) : tw k (1 : K) = 1 := by
  have h := tw_mul k (tw (-k) (1 : K)) 1
  have e : tw (-k) (1 : K) * 1 = tw (-k) 1 := by grind
  rw [e, tw_tw, show k + -k = 0 by omega, tw_z] at h
  grind
theorem tw_neg (k : Int) (a : K) : tw k (-a) = -tw k a := by
  have h := tw_add k (-a) a
  have e : -a + a = 0 := by grind
  rw [e, tw_0] at h
  grind
theorem tw_inj {k : Int} {a b : K} (h : tw k a = tw k b) : a = b := by
  have e := congrArg (tw (-k)) h
  rwa [tw_tw, tw_tw, show -k + k = 0 by omega, tw_z, tw_z] at e
theorem tw_ne {k : Int} {a : K} (h : a ≠ 0) : tw k a ≠ 0 := fun z => h (tw_inj (by rw [z, tw_0]))
theorem mul_inv {a : K} (h : a ≠ 0) : a * inv a = 1 := TF.mul_inv a h
theorem no_div {a b : K} (h : a * b = 0) : a = 0 ∨ b = 0 := by
  by_cases c : a = 0
  · exact .inl c
  · refine .inr ?_
    have e := mul_inv c
    have : inv a * (a * b) = b := by grind
    rw [h] at this
    grind
theorem mul_ne {a b : K} (ha : a ≠ 0) (hb : b ≠ 0) : a * b ≠ 0 := fun z => by
  rcases no_div z with h | h
  · exact ha h
  · exact hb h
theorem inv_ne {a : K} (h : a ≠ 0) : inv a ≠ 0 := fun z => by
  have e := mul_inv h
  rw [z] at e
  exact one_ne (by rw [← e]; grind)
theorem tw_inv (k : Int) {a : K} (h : a ≠ 0) : tw k (inv a) = inv (tw k a) := by
  have h1 := tw_mul k a (inv a)
  rw [mul_inv h, tw_1] at h1
  have h2 := mul_inv (tw_ne (k := k) h)
  have : tw k (inv a) = tw k (inv a) * (tw k a * inv (tw k a)) := by rw [h2]; grind
  rw [this]
  grind
/-! ### rows without noughts at their end -/
def tr : List K → List K
  | [] => []
  | x :: r => if tr r = [] ∧ x = 0 then [] else x :: tr r
def cf (l : List K) (i : Nat) : K := l.getD i 0
theorem cf_nil (i : Nat) : cf ([] : List K) i = 0 := by unfold cf; simp
theorem cf_0 (x : K) (r : List K) : cf (x :: r) 0 = x := rfl
theorem cf_s (x : K) (r : List K) (i : Nat) : cf (x :: r) (i + 1) = cf r i := by unfold cf; simp
theorem cf_tr : ∀ (l : List K) (i : Nat), cf (tr l) i = cf l i
  | [], i => rfl
  | x :: r, i => by
    unfold tr
    by_cases c : tr r = [] ∧ x = 0
    · rw [if_pos c]
      cases i with
      | zero => rw [cf_nil, cf_0, c.2]
      | succ i => rw [cf_nil, cf_s, ← cf_tr r i, c.1, cf_nil]
    · rw [if_neg c]
      cases i with
      | zero => rfl
      | succ i => rw [cf_s, cf_s, cf_tr r i]
theorem tr_nil_of : ∀ {l : List K}, (∀ i, cf l i = 0) → tr l = []
  | [], _ => rfl
  | x :: r, h => by
    unfold tr
    rw [if_pos ⟨tr_nil_of fun i => by rw [← cf_s x r i]; exact h (i + 1), h 0⟩]
theorem tr_ext : ∀ {a b : List K}, (∀ i, cf a i = cf b i) → tr a = tr b
  | [], b, h => (tr_nil_of fun i => by rw [← h i, cf_nil]).symm
  | x :: r, [], h => tr_nil_of fun i => by rw [h i, cf_nil]
  | x :: r, y :: s, h => by
    have e : x = y := h 0
    have t : tr r = tr s := tr_ext fun i => by rw [← cf_s x r i, ← cf_s y s i]; exact h (i + 1)
    unfold tr
    rw [e, t]
theorem tr_tr (l : List K) : tr (tr l) = tr l := tr_ext (cf_tr l)
theorem tr_len : ∀ l : List K, (tr l).length ≤ l.length
  | [] => Nat.le_refl _
  | x :: r => by
    unfold tr
    have := tr_len r
    split
    · exact Nat.zero_le _
    · rw [List.length_cons, List.length_cons]; omega
theorem tr_last : ∀ {l : List K}, tr l = l → (h : l ≠ []) → l.getLast h ≠ 0
  | [x], e, h => fun z => by
    unfold tr at e
    rw [if_pos ⟨rfl, z⟩] at e
    cases e
  | x :: y :: r, e, h => by
    rw [List.getLast_cons (by simp)]
    refine tr_last ?_ _
    unfold tr at e
    split at e
    · cases e
    · exact (List.cons.inj e).2
theorem tr_self : ∀ {l : List K}, (∀ h : l ≠ [], l.getLast h ≠ 0) → tr l = l
  | [], _ => rfl
  | [x], h => by
    unfold tr
    rw [if_neg fun z => h (by simp) z.2]; rfl
  | x :: y :: r, h => by
    have t : tr (y :: r) = y :: r := tr_self fun hh => by
      have := h (by simp)
      rwa [List.getLast_cons hh] at this
    unfold tr
    rw [t, if_neg fun z => nomatch z.1]
theorem cf_ge {l : List K} {i : Nat} (h : l.length ≤ i) : cf l i = 0 := by
  unfold cf
  rw [List.getD_eq_getElem?_getD, List.getElem?_eq_none h]; rfl
theorem cf_last {l : List K} (h : l ≠ []) : cf l (l.length - 1) = l.getLast h := by
  unfold cf
  rw [List.getD_eq_getElem?_getD, ← List.getLast?_eq_getElem?, List.getLast?_eq_some_getLast h]; rfl
/-! ### the type -/
structure P (K : Type) [TF K] where
  l : List K
  h : tr l = l
theorem P.eq {a b : P K} (h : a.l = b.l) : a = b := by
  cases a; cases b; cases h; rfl
instance : DecidableEq (P K) := fun a b => if h : a.l = b.l then isTrue (P.eq h) else isFalse fun e => h (by rw [e])
def mkP (l : List K) : P K := ⟨tr l, tr_tr l⟩
abbrev P.cf (a : P K) (i : Nat) : K := TP.cf a.l i
theorem P.ext {a b : P K} (h : ∀ i, a.cf i = b.cf i) : a = b := P.eq (by rw [← a.h, ← b.h]; exact tr_ext h)
theorem mk_cf (l : List K) (i : Nat) : (mkP l).cf i = cf l i := cf_tr l i
theorem mk_l (a : P K) : mkP a.l = a := P.eq a.h
/-! ### sums -/
def addL : List K → List K → List K
  | [], b => b
  | a, [] => a
  | x :: a, y :: b => (x + y) :: addL a b
theorem addL_nil (a : List K) : addL a [] = a := by cases a <;> rfl
theorem cf_addL : ∀ (a b : List K) (i : Nat), cf (addL a b) i = cf a i + cf b i
  | [], b, i => by
    show cf b i = _
    rw [cf_nil]; grind
  | x :: a, [], i => by
    rw [addL_nil, cf_nil]; grind
  | x :: a, y :: b, 0 => rfl
  | x :: a, y :: b, i + 1 => by
    show cf ((x + y) :: addL a b) (i + 1) = _
    rw [cf_s, cf_s, cf_s, cf_addL a b i]
theorem cf_map (f : K → K) (h : f 0 = 0) : ∀ (a : List K) (i : Nat), cf (a.map f) i = f (cf a i)
  | [], i => by rw [List.map_nil, cf_nil, h]
  | x :: a, 0 => rfl
  | x :: a, i + 1 => by rw [List.map_cons, cf_s, cf_s, cf_map f h a i]
/-! ### put into one another: by what a row does to a sequence -/
abbrev Sq (K : Type) := Nat → K
def sh (s : Sq K) : Sq K
  | 0 => 0
  | n + 1 => tw 1 (s n)
def act : List K → Sq K → Sq K
  | [], _ => fun _ => 0
  | c :: f, s => fun n => c * s n + act f (sh s) n
def shL (a : List K) : List K := 0 :: a.map (tw 1)
def putL : List K → List K → List K
  | [], _ => []
  | c :: f, b => addL (b.map (c * ·)) (putL f (shL b))
theorem cf_scal (c : K) (a : List K) (i : Nat) : cf (a.map (c * ·)) i = c * cf a i := cf_map _ (by grind) a i
theorem cf_shL (a : List K) : cf (shL a) = sh (cf a) := by
  funext i
  cases i with
  | zero => rfl
  | succ i =>
    unfold shL
    rw [cf_s, cf_map _ (tw_0 1)]; rfl
theorem cf_putL : ∀ (f b : List K), cf (putL f b) = act f (cf b)
  | [], b => funext cf_nil
  | c :: f, b => by
    funext i
    unfold putL act
    rw [cf_addL, cf_scal, cf_putL f (shL b), cf_shL]
theorem sh_add (s t : Sq K) : (sh fun n => s n + t n) = fun n => sh s n + sh t n := by
  funext n
  cases n with
  | zero => unfold sh; grind
  | succ n => exact tw_add 1 _ _
theorem sh_mul (c : K) (s : Sq K) : (sh fun n => c * s n) = fun n => tw 1 c * sh s n := by
  funext n
  cases n with
  | zero => unfold sh; grind
  | succ n => exact tw_mul 1 _ _
theorem sh_0 : (sh fun _ => (0 : K)) = fun _ => 0 := by
  funext n
  cases n with
  | zero => rfl
  | succ n => exact tw_0 1
theorem act_0 : ∀ f : List K, act f (fun _ => 0) = fun _ => 0
  | [] => rfl
  | c :: f => by
    unfold act
    rw [sh_0, act_0 f]
    funext n; grind
theorem act_add : ∀ (f : List K) (s t : Sq K), (act f fun n => s n + t n) = fun n => act f s n + act f t n
  | [], s, t => by funext n; unfold act; grind
  | c :: f, s, t => by
    funext n
    unfold act
    rw [sh_add, act_add f]; grind
theorem act_addL : ∀ (f g : List K) (s : Sq K), act (addL f g) s = fun n => act f s n + act g s n
  | [], g, s => by funext n; show act g s n = 0 + _; grind
  | c :: f, [], s => by rw [addL_nil]; funext n; show _ = act (c :: f) s n + 0; grind
  | c :: f, d :: g, s => by
    funext n
    show (c + d) * s n + act (addL f g) (sh s) n = (c * s n + act f (sh s) n) + (d * s n + act g (sh s) n)
    rw [act_addL f g]; grind
theorem act_scal (c : K) : ∀ (f : List K) (s : Sq K), act (f.map (c * ·)) s = fun n => c * act f s n
  | [], s => by funext n; show 0 = c * 0; grind
  | d :: f, s => by
    funext n
    show c * d * s n + act (f.map (c * ·)) (sh s) n = c * (d * s n + act f (sh s) n)
    rw [act_scal c f]; grind
theorem sh_act : ∀ (f : List K) (s : Sq K), sh (act f s) = act (f.map (tw 1)) (sh s)
  | [], s => sh_0
  | d :: f, s => by
    unfold act
    rw [sh_add, sh_mul, sh_act f]; rfl
theorem act_shL (f : List K) (s : Sq K) : act (shL f) s = sh (act f s) := by
  rw [sh_act]
  funext n
  show 0 * s n + act (f.map (tw 1)) (sh s) n = _
  grind
theorem act_putL : ∀ (f g : List K) (s : Sq K), act (putL f g) s = act f (act g s)
  | [], g, s => rfl
  | c :: f, g, s => by
    unfold putL
    rw [act_addL, act_scal, act_putL f, act_shL]; rfl
theorem act_cfz : ∀ (f : List K) (s : Sq K), (∀ i, cf f i = 0) → act f s = fun _ => 0
  | [], s, _ => rfl
  | c :: f, s, h => by
    have e : c = 0 := h 0
    unfold act
    rw [act_cfz f (sh s) fun i => by rw [← cf_s c f i]; exact h (i + 1), e]
    funext n; grind
theorem act_cf : ∀ (f g : List K) (s : Sq K), (∀ i, cf f i = cf g i) → act f s = act g s
  | [], g, s, h => (act_cfz g s fun i => by rw [← h i, cf_nil]).symm
  | c :: f, [], s, h => act_cfz _ s fun i => by rw [h i, cf_nil]
  | c :: f, d :: g, s, h => by
    have e : c = d := h 0
    unfold act
    rw [e, act_cf f g (sh s) fun i => by rw [← cf_s c f i, ← cf_s d g i]; exact h (i + 1)]
theorem act_tr (f : List K) (s : Sq K) : act (tr f) s = act f s := act_cf _ _ s (cf_tr f)
/-! the ring -/
def P.add (a b : P K) : P K := mkP (addL a.l b.l)
def P.neg (a : P K) : P K := mkP (a.l.map (-·))
def P.mul (a b : P K) : P K := mkP (putL a.l b.l)
def nK (n : Nat) : K := Lean.Grind.Semiring.natCast.natCast n
def iK (n : Int) : K := Lean.Grind.Ring.intCast.intCast n
def cst (c : K) : P K := mkP [c]
instance : Add (P K) := ⟨P.add⟩
instance : Neg (P K) := ⟨P.neg⟩
instance : _root_.Sub (P K) := ⟨fun a b => a + -b⟩
instance : Mul (P K) := ⟨P.mul⟩
instance : NatCast (P K) := ⟨fun n => cst (nK n)⟩
instance : IntCast (P K) := ⟨fun n => cst (iK n)⟩
instance (n : Nat) : OfNat (P K) n := ⟨cst (OfNat.ofNat n)⟩
def P.pow (a : P K) : Nat → P K
  | 0 => cst 1
  | n + 1 => P.pow a n * a
instance : HPow (P K) Nat (P K) := ⟨P.pow⟩
instance : SMul Nat (P K) := ⟨fun n a => (n : P K) * a⟩
instance : SMul Int (P K) := ⟨fun n a => (n : P K) * a⟩
theorem P.cf_add (a b : P K) (i : Nat) : (a + b).cf i = a.cf i + b.cf i := by
  show (mkP (addL a.l b.l)).cf i = _
  rw [mk_cf, cf_addL]
theorem P.cf_neg (a : P K) (i : Nat) : (-a).cf i = -a.cf i := by
  show (mkP (a.l.map (-·))).cf i = _
  rw [mk_cf, cf_map _ (by grind)]
theorem P.cf_sub (a b : P K) (i : Nat) : (a - b).cf i = a.cf i - b.cf i := by
  show (a + -b).cf i = _
  rw [P.cf_add, P.cf_neg]; grind
theorem P.cf_mul (a b : P K) (i : Nat) : (a * b).cf i = act a.l (TP.cf b.l) i := by
  show (mkP (putL a.l b.l)).cf i = _
  rw [mk_cf, cf_putL]
theorem cst_cf (c : K) (i : Nat) : (cst c).cf i = if i = 0 then c else 0 := by
  show (mkP [c]).cf i = _
  rw [mk_cf]
  cases i with
  | zero => rfl
  | succ i => rw [cf_s, cf_nil]; rfl
theorem P.cf_0 (i : Nat) : (0 : P K).cf i = 0 := by
  show (cst (OfNat.ofNat 0)).cf i = 0
  rw [cst_cf]; split <;> rfl
theorem P.cf_1 (i : Nat) : (1 : P K).cf i = if i = 0 then 1 else 0 := cst_cf _ i
theorem P.act_mul (a b : P K) (s : Sq K) : act (a * b).l s = act a.l (act b.l s) := by
  show act (tr (putL a.l b.l)) s = _
  rw [act_tr, act_putL]
theorem P.act_add' (a b : P K) (s : Sq K) : act (a + b).l s = fun n => act a.l s n + act b.l s n := by
  show act (tr (addL a.l b.l)) s = _
  rw [act_tr, act_addL]
theorem act_cst (c : K) (s : Sq K) : act (cst c).l s = fun n => c * s n := by
  show act (tr [c]) s = _
  rw [act_tr]
  funext n
  show c * s n + 0 = _
  grind
def un : Sq K := fun n => if n = 0 then 1 else 0
theorem sh_un_mul (a : Sq K) : ∀ f : List K, act f un = cf f := by
  intro f
  have gen : ∀ (f : List K) (k : Nat) (s : Sq K), (∀ n, s n = if n = k then 1 else 0) → ∀ n, act f s n = if k ≤ n then cf f (n - k) else 0 := by
    intro f
    induction f with
    | nil => intro k s _ n; rw [cf_nil]; split <;> rfl
    | cons c f ih =>
      intro k s h n
      unfold act
      have hs : ∀ n, sh s n = if n = k + 1 then 1 else 0 := fun n => by
        cases n with
        | zero => rfl
        | succ n =>
          show tw 1 (s n) = _
          rw [h n]
          by_cases c : n = k
          · rw [if_pos c, if_pos (by omega), tw_1]
          · rw [if_neg c, if_neg (by omega), tw_0]
      rw [ih (k + 1) (sh s) hs n, h n]
      by_cases c1 : n = k
      · rw [if_pos c1, if_neg (by omega), if_pos (by omega), show n - k = 0 by omega, TP.cf_0]; grind
      · rw [if_neg c1]
        by_cases c2 : k ≤ n
        · rw [if_pos (by omega), if_pos c2, show n - k = (n - (k + 1)) + 1 by omega, cf_s]; grind
        · rw [if_neg (by omega), if_neg c2]; grind
  funext n
  rw [gen f 0 un (fun n => rfl) n, if_pos (Nat.zero_le n), Nat.sub_zero]
theorem act_un (f : List K) : act f un = cf f := sh_un_mul (fun _ => 0) f
theorem one_cf : cf (1 : P K).l = un := funext fun i => P.cf_1 i
theorem iK_neg (n : Int) : (iK (-n) : K) = -iK n := Lean.Grind.Ring.intCast_neg n
theorem iK_of (n : Nat) : (iK (OfNat.ofNat n : Int) : K) = OfNat.ofNat n := Lean.Grind.Ring.intCast_ofNat n
theorem iK_nat (n : Nat) : (iK (n : Int) : K) = nK n := Lean.Grind.Ring.intCast_natCast n
instance : Lean.Grind.Ring (P K) where
  add_zero a := P.ext fun i => by rw [P.cf_add, P.cf_0]; grind
  add_comm a b := P.ext fun i => by rw [P.cf_add, P.cf_add]; grind
  add_assoc a b c := P.ext fun i => by simp only [P.cf_add]; grind
  mul_assoc a b c := P.ext fun i => by
    rw [P.cf_mul, P.cf_mul, P.act_mul]
    have e : cf (b * c).l = act b.l (cf c.l) := funext fun j => P.cf_mul b c j
    rw [e]
  mul_one a := P.ext fun i => by rw [P.cf_mul, one_cf, act_un]
  one_mul a := P.ext fun i => by
    rw [P.cf_mul]
    show act (cst (OfNat.ofNat 1)).l _ i = _
    rw [act_cst]
    show (1 : K) * _ = _
    grind
  left_distrib a b c := P.ext fun i => by
    rw [P.cf_mul, P.cf_add, P.cf_mul, P.cf_mul]
    have e : cf (b + c).l = fun n => cf b.l n + cf c.l n := funext fun j => P.cf_add b c j
    rw [e, act_add]
  right_distrib a b c := P.ext fun i => by rw [P.cf_mul, P.cf_add, P.cf_mul, P.cf_mul, P.act_add']
  zero_mul a := P.ext fun i => by
    rw [P.cf_mul, P.cf_0]
    show act (cst (OfNat.ofNat 0)).l _ i = _
    rw [act_cst]
    show (0 : K) * _ = _
    grind
  mul_zero a := P.ext fun i => by
    rw [P.cf_mul, P.cf_0]
    have e : cf (0 : P K).l = fun _ => 0 := funext fun j => P.cf_0 j
    rw [e, act_0]
  pow_zero a := rfl
  pow_succ a n := rfl
  ofNat_succ n := P.ext fun i => by
    rw [P.cf_add]
    show (cst (OfNat.ofNat (n + 1))).cf i = (cst (OfNat.ofNat n)).cf i + (cst (OfNat.ofNat 1)).cf i
    rw [cst_cf, cst_cf, cst_cf]
    split
    · exact Lean.Grind.Semiring.ofNat_succ n
    · grind
  ofNat_eq_natCast n := P.ext fun i => by
    show (cst (OfNat.ofNat n)).cf i = (cst (nK n)).cf i
    rw [cst_cf, cst_cf]; exact congrArg (fun z => if i = 0 then z else 0) (Lean.Grind.Semiring.ofNat_eq_natCast n)
  nsmul_eq_natCast_mul n a := rfl
  neg_add_cancel a := P.ext fun i => by rw [P.cf_add, P.cf_neg, P.cf_0]; grind
  sub_eq_add_neg a b := rfl
  neg_zsmul n a := P.ext fun i => by
    show (((-n : Int) : P K) * a).cf i = (-((n : P K) * a)).cf i
    rw [P.cf_neg, P.cf_mul, P.cf_mul]
    show act (cst (iK (-n))).l _ i = -act (cst (iK n)).l _ i
    rw [act_cst, act_cst, iK_neg]; grind
  zsmul_natCast_eq_nsmul n a := P.ext fun i => by
    show (((n : Int) : P K) * a).cf i = ((n : P K) * a).cf i
    rw [P.cf_mul, P.cf_mul]
    show act (cst (iK (n : Nat))).l _ i = act (cst (nK n)).l _ i
    rw [act_cst, act_cst, iK_nat]
  intCast_ofNat n := P.ext fun i => by
    show (cst (iK (OfNat.ofNat n : Int))).cf i = (cst (OfNat.ofNat n : K)).cf i
    rw [cst_cf, cst_cf, iK_of]
  intCast_neg n := P.ext fun i => by
    rw [P.cf_neg]
    show (cst (iK (-n))).cf i = -(cst (iK n)).cf i
    rw [cst_cf, cst_cf, iK_neg]; split <;> grind
theorem P.zero_l : (0 : P K).l = [] := by
  have h : ∀ i, TP.cf (0 : P K).l i = 0 := P.cf_0
  rw [← (0 : P K).h]
  exact tr_nil_of h
end
end TP
/-! SKD -/
set_option maxHeartbeats 4000000
/-! # Turn sums: degrees, division, common parts, joints, worths -/
namespace TP
section
variable {K : Type} [TF K]
def P.len (a : P K) : Nat := a.l.length
def P.lead (a : P K) : K := a.cf (a.len - 1)
theorem P.cf_ge {a : P K} {i : Nat} (h : a.len ≤ i) : a.cf i = 0 := TP.cf_ge h
theorem P.len_0 : (0 : P K).len = 0 := by unfold P.len; rw [P.zero_l]; rfl
theorem P.len_eq_0 {a : P K} (h : a.len = 0) : a = 0 := P.ext fun i => by rw [P.cf_ge (by omega), P.cf_0]
theorem P.len_pos {a : P K} (h : a ≠ 0) : 0 < a.len := Nat.pos_of_ne_zero fun z => h (P.len_eq_0 z)
theorem P.lead_ne {a : P K} (h : a ≠ 0) : a.lead ≠ 0 := by
  have hl : a.l ≠ [] := fun z => by
    have := P.len_pos h
    unfold P.len at this
    rw [z] at this
    exact absurd this (Nat.lt_irrefl 0)
  have e := tr_last a.h hl
  unfold P.lead P.len P.cf
  rw [cf_last hl]; exact e
theorem P.len_le {a : P K} {n : Nat} (h : ∀ i, n ≤ i → a.cf i = 0) : a.len ≤ n := by
  by_cases z : a = 0
  · rw [z, P.len_0]; exact Nat.zero_le _
  · have p := P.len_pos z
    have l := P.lead_ne z
    rcases Nat.lt_or_ge n a.len with c | c
    · exact absurd (h (a.len - 1) (by omega)) l
    · exact c
theorem P.len_of {a : P K} {n : Nat} (h : ∀ i, n < i → a.cf i = 0) (l : a.cf n ≠ 0) : a.len = n + 1 := by
  have h1 := P.len_le (a := a) (n := n + 1) fun i hi => h i (by omega)
  rcases Nat.lt_or_ge n a.len with c | c
  · omega
  · exact absurd (P.cf_ge c) l
theorem mk_len (l : List K) : (mkP l).len ≤ l.length := tr_len l
theorem P.len_add (a b : P K) : (a + b).len ≤ max a.len b.len := P.len_le fun i hi => by
  rw [P.cf_add, P.cf_ge (by omega), P.cf_ge (a := b) (by omega)]; grind
theorem P.len_neg (a : P K) : (-a).len = a.len := by
  have h : ∀ a : P K, (-a).len ≤ a.len := fun a => P.len_le fun i hi => by rw [P.cf_neg, P.cf_ge hi]; grind
  have h1 := h a
  have h2 := h (-a)
  rw [show - -a = a by grind] at h2
  omega
theorem act_top : ∀ (f : List K) (s : Sq K) (b : Nat), (∀ n, b < n → s n = 0) → (∀ a, f.length = a + 1 → act f s (a + b) = cf f a * tw a (s b)) ∧ ∀ n, f.length + b ≤ n → act f s n = 0
  | [], s, b, h => ⟨fun a z => (by cases z), fun n _ => rfl⟩
  | c :: f, s, b, h => by
    have hs : ∀ n, b + 1 < n → sh s n = 0 := fun n hn => by
      cases n with
      | zero => rfl
      | succ n =>
        show tw 1 (s n) = 0
        rw [h n (by omega), tw_0]
    obtain ⟨i1, i2⟩ := act_top f (sh s) (b + 1) hs
    refine ⟨fun a z => ?_, fun n hn => ?_⟩
    · rw [List.length_cons] at z
      have za : f.length = a := by omega
      cases a with
      | zero =>
        have : f = [] := List.length_eq_zero_iff.mp za
        subst this
        show c * s (0 + b) + 0 = c * tw ((0 : Nat) : Int) (s b)
        rw [Nat.zero_add, show ((0 : Nat) : Int) = 0 from rfl, tw_z]; grind
      | succ a =>
        show c * s (a + 1 + b) + act f (sh s) (a + 1 + b) = _
        rw [show a + 1 + b = a + (b + 1) by omega, i1 a za, h (a + (b + 1)) (by omega), cf_s]
        show c * 0 + cf f a * tw a (tw 1 (s b)) = _
        rw [tw_tw, show ((a : Nat) : Int) + 1 = ((a + 1 : Nat) : Int) by omega]
        grind
    · rw [List.length_cons] at hn
      show c * s n + act f (sh s) n = 0
      rw [i2 n (by omega), h n (by omega)]; grind
theorem P.cf_mul_top {a b : P K} (ha : a ≠ 0) (hb : b ≠ 0) : (a * b).cf (a.len - 1 + (b.len - 1)) = a.lead * tw ((a.len - 1 : Nat) : Int) b.lead := by
  rw [P.cf_mul]
  exact (act_top a.l (TP.cf b.l) (b.len - 1) fun n hn => P.cf_ge (by omega)).1 (a.len - 1) (by have := P.len_pos ha; unfold P.len at *; omega)
theorem P.cf_mul_ge {a b : P K} {n : Nat} (h : a.len + b.len ≤ n + 1) : (a * b).cf n = 0 := by
  rw [P.cf_mul]
  by_cases z : b = 0
  · subst z
    have e : TP.cf (0 : P K).l = fun _ => 0 := funext fun j => P.cf_0 j
    rw [e, act_0]
  · have := P.len_pos z
    exact (act_top a.l (TP.cf b.l) (b.len - 1) fun n hn => P.cf_ge (by omega)).2 n (by unfold P.len at *; omega)
theorem P.len_mul {a b : P K} (ha : a ≠ 0) (hb : b ≠ 0) : (a * b).len = a.len + b.len - 1 := by
  have h1 := P.len_pos ha
  have h2 := P.len_pos hb
  have := P.len_of (a := a * b) (n := a.len - 1 + (b.len - 1)) (fun i hi => P.cf_mul_ge (by omega)) (by
    rw [P.cf_mul_top ha hb]
    exact mul_ne (P.lead_ne ha) (tw_ne (P.lead_ne hb)))
  omega
theorem P.mul_ne {a b : P K} (ha : a ≠ 0) (hb : b ≠ 0) : a * b ≠ 0 := fun z => by
  have h := P.len_mul ha hb
  rw [z, P.len_0] at h
  have h1 := P.len_pos ha
  have h2 := P.len_pos hb
  omega
theorem P.no_div {a b : P K} (h : a * b = 0) : a = 0 ∨ b = 0 := by
  by_cases c : a = 0
  · exact .inl c
  · by_cases d : b = 0
    · exact .inr d
    · exact absurd h (P.mul_ne c d)
theorem P.lead_mul {a b : P K} (ha : a ≠ 0) (hb : b ≠ 0) : (a * b).lead = a.lead * tw ((a.len - 1 : Nat) : Int) b.lead := by
  have h1 := P.len_pos ha
  have h2 := P.len_pos hb
  rw [← P.cf_mul_top ha hb]
  unfold P.lead
  rw [P.len_mul ha hb, show a.len + b.len - 1 - 1 = a.len - 1 + (b.len - 1) by omega]
theorem P.len_mul_ge {a b : P K} (ha : a ≠ 0) : b.len ≤ (a * b).len := by
  by_cases z : b = 0
  · rw [z, P.len_0]; exact Nat.zero_le _
  · rw [P.len_mul ha z]; have := P.len_pos ha; omega
theorem P.len_mul_ge' {a b : P K} (hb : b ≠ 0) : a.len ≤ (a * b).len := by
  by_cases z : a = 0
  · rw [z, P.len_0]; exact Nat.zero_le _
  · rw [P.len_mul z hb]; have := P.len_pos hb; omega
theorem P.len_mul_le (a b : P K) : (a * b).len ≤ a.len + b.len - 1 := P.len_le fun i hi => P.cf_mul_ge (by omega)
/-! monomials -/
def mon (c : K) (k : Nat) : P K := mkP (List.replicate k 0 ++ [c])
theorem cf_rep (k : Nat) (r : List K) (i : Nat) : cf (List.replicate k 0 ++ r) i = if i < k then 0 else cf r (i - k) := by
  unfold cf
  rw [List.getD_eq_getElem?_getD, List.getD_eq_getElem?_getD]
  by_cases c : i < k
  · rw [if_pos c, List.getElem?_append_left (by rw [List.length_replicate]; exact c), List.getElem?_replicate, if_pos c]; rfl
  · rw [if_neg c, List.getElem?_append_right (by rw [List.length_replicate]; omega), List.length_replicate]
theorem mon_cf (c : K) (k i : Nat) : (mon c k).cf i = if i = k then c else 0 := by
  unfold mon
  rw [mk_cf, cf_rep]
  by_cases h : i < k
  · rw [if_pos h, if_neg (by omega)]
  · rw [if_neg h]
    by_cases h2 : i = k
    · rw [if_pos h2, show i - k = 0 by omega]; rfl
    · rw [if_neg h2, show i - k = (i - k - 1) + 1 by omega, cf_s, cf_nil]
theorem mon_len {c : K} (h : c ≠ 0) (k : Nat) : (mon c k).len = k + 1 := P.len_of (fun i hi => by rw [mon_cf, if_neg (by omega)]) (by rw [mon_cf, if_pos rfl]; exact h)
theorem mon_ne {c : K} (h : c ≠ 0) (k : Nat) : mon c k ≠ 0 := fun z => by
  have := mon_len h k
  rw [z, P.len_0] at this
  omega
theorem mon_lead {c : K} (h : c ≠ 0) (k : Nat) : (mon c k).lead = c := by
  unfold P.lead
  rw [mon_len h, mon_cf, if_pos (by omega)]
theorem cst_mon (c : K) : cst c = mon c 0 := P.ext fun i => by rw [cst_cf, mon_cf]
theorem cst_ne {c : K} (h : c ≠ 0) : cst c ≠ 0 := by rw [cst_mon]; exact mon_ne h 0
theorem cst_len {c : K} (h : c ≠ 0) : (cst c).len = 1 := by rw [cst_mon, mon_len h]
theorem cst_lead (c : K) : (cst c).lead = c := by
  by_cases h : c = 0
  · unfold P.lead
    rw [cst_cf, h]; split <;> rfl
  · rw [cst_mon, mon_lead h]
theorem cst_mul (a b : K) : cst a * cst b = cst (a * b) := P.ext fun i => by
  rw [P.cf_mul, act_cst, cst_cf]
  show a * (cst b).cf i = _
  rw [cst_cf]; split <;> grind
theorem cst_1 : cst (1 : K) = 1 := rfl
theorem len_1_cst {a : P K} (h : a.len ≤ 1) : a = cst (a.cf 0) := P.ext fun i => by
  rw [cst_cf]
  by_cases c : i = 0
  · rw [if_pos c, c]
  · rw [if_neg c, P.cf_ge (by omega)]
theorem P.one_ne : (1 : P K) ≠ 0 := cst_ne TP.one_ne
/-! ### division -/
theorem P.less_len {f h : P K} (e : f.len = h.len) (n : f ≠ 0) (l : f.lead = h.lead) : (f - h).len < f.len := by
  have p := P.len_pos n
  have : (f - h).len ≤ f.len - 1 := P.len_le fun i hi => by
    rw [P.cf_sub]
    by_cases c : i = f.len - 1
    · rw [c]
      have : f.cf (f.len - 1) = h.cf (f.len - 1) := by
        have := l
        unfold P.lead at this
        rwa [← e] at this
      rw [this]; grind
    · rw [P.cf_ge (by omega), P.cf_ge (a := h) (by omega)]; grind
  omega
/-- the step of a division -/
def stIn (f g : P K) : P K := mon (f.lead * inv (tw ((f.len - g.len : Nat) : Int) g.lead)) (f.len - g.len)
def stOut (f g : P K) : P K := mon (tw (1 - (g.len : Int)) (f.lead * inv g.lead)) (f.len - g.len)
theorem stIn_less {f g : P K} (hg : g ≠ 0) (h : g.len ≤ f.len) : (f - stIn f g * g).len < f.len := by
  have pg := P.len_pos hg
  have hf : f ≠ 0 := fun z => by rw [z, P.len_0] at h; omega
  have n := P.lead_ne hf
  have m := tw_ne (k := ((f.len - g.len : Nat) : Int)) (P.lead_ne hg)
  have nc := TP.mul_ne n (inv_ne m)
  have hm := mon_ne nc (f.len - g.len)
  refine P.less_len ?_ hf ?_
  · unfold stIn
    rw [P.len_mul hm hg, mon_len nc]; omega
  · unfold stIn
    rw [P.lead_mul hm hg, mon_len nc, mon_lead nc, show f.len - g.len + 1 - 1 = f.len - g.len by omega]
    have := mul_inv m
    grind
theorem stOut_less {f g : P K} (hg : g ≠ 0) (h : g.len ≤ f.len) : (f - g * stOut f g).len < f.len := by
  have pg := P.len_pos hg
  have hf : f ≠ 0 := fun z => by rw [z, P.len_0] at h; omega
  have n := P.lead_ne hf
  have m := P.lead_ne hg
  have nc : tw (1 - (g.len : Int)) (f.lead * inv g.lead) ≠ 0 := tw_ne (TP.mul_ne n (inv_ne m))
  have hm := mon_ne nc (f.len - g.len)
  refine P.less_len ?_ hf ?_
  · unfold stOut
    rw [P.len_mul hg hm, mon_len nc]; omega
  · unfold stOut
    rw [P.lead_mul hg hm, mon_lead nc, tw_tw, show ((g.len - 1 : Nat) : Int) + (1 - (g.len : Int)) = 0 by omega, tw_z]
    have := mul_inv m
    grind
theorem div_in_ex {g : P K} (hg : g ≠ 0) : ∀ (n : Nat) (f : P K), f.len ≤ n → ∃ q r : P K, f = q * g + r ∧ r.len < g.len
  | 0, f, h => ⟨0, f, by grind, by have := P.len_pos hg; omega⟩
  | n + 1, f, h => by
    rcases Nat.lt_or_ge f.len g.len with c | c
    · exact ⟨0, f, by grind, c⟩
    · have := stIn_less hg c
      obtain ⟨q, r, e, hr⟩ := div_in_ex hg n (f - stIn f g * g) (by omega)
      refine ⟨q + stIn f g, r, ?_, hr⟩
      generalize stIn f g = s at e
      have t : f = (f - s * g) + s * g := by grind
      rw [e] at t
      rw [t]
      grind
theorem div_out_ex {g : P K} (hg : g ≠ 0) : ∀ (n : Nat) (f : P K), f.len ≤ n → ∃ q r : P K, f = g * q + r ∧ r.len < g.len
  | 0, f, h => ⟨0, f, by grind, by have := P.len_pos hg; omega⟩
  | n + 1, f, h => by
    rcases Nat.lt_or_ge f.len g.len with c | c
    · exact ⟨0, f, by grind, c⟩
    · have := stOut_less hg c
      obtain ⟨q, r, e, hr⟩ := div_out_ex hg n (f - g * stOut f g) (by omega)
      refine ⟨q + stOut f g, r, ?_, hr⟩
      generalize stOut f g = s at e
      have t : f = (f - g * s) + g * s := by grind
      rw [e] at t
      rw [t]
      grind
noncomputable def qI (f g : P K) : P K := if hg : g ≠ 0 then (div_in_ex hg _ f (Nat.le_refl _)).choose else 0
noncomputable def rI (f g : P K) : P K := f - qI f g * g
noncomputable def qO (f g : P K) : P K := if hg : g ≠ 0 then (div_out_ex hg _ f (Nat.le_refl _)).choose else 0
noncomputable def rO (f g : P K) : P K := f - g * qO f g
theorem divI (f g : P K) : f = qI f g * g + rI f g := by unfold rI; grind
theorem divO (f g : P K) : f = g * qO f g + rO f g := by unfold rO; grind
theorem rI_len (f : P K) {g : P K} (hg : g ≠ 0) : (rI f g).len < g.len := by
  obtain ⟨r, e, hr⟩ := (div_in_ex hg _ f (Nat.le_refl _)).choose_spec
  have q : qI f g = (div_in_ex hg _ f (Nat.le_refl _)).choose := by unfold qI; rw [dif_pos hg]
  rw [← q] at e
  have : rI f g = r := by unfold rI; rw (occs := .pos [1]) [e]; grind
  rw [this]; exact hr
theorem rO_len (f : P K) {g : P K} (hg : g ≠ 0) : (rO f g).len < g.len := by
  obtain ⟨r, e, hr⟩ := (div_out_ex hg _ f (Nat.le_refl _)).choose_spec
  have q : qO f g = (div_out_ex hg _ f (Nat.le_refl _)).choose := by unfold qO; rw [dif_pos hg]
  rw [← q] at e
  have : rO f g = r := by unfold rO; rw (occs := .pos [1]) [e]; grind
  rw [this]; exact hr
end
end TP
/-! SKG -/
set_option maxHeartbeats 4000000
/-! # Common parts, joints, worths -/
namespace TP
section
variable {K : Type} [TF K]
def nrm1 (d : P K) : Prop := d = 0 ∨ d.lead = 1
def hdI (d : P K) : P K := cst (inv d.lead) * d
def hdO (d : P K) : P K := d * cst (tw (1 - (d.len : Int)) (inv d.lead))
theorem hdI_0 : hdI (0 : P K) = 0 := by unfold hdI; grind
theorem hdO_0 : hdO (0 : P K) = 0 := by unfold hdO; grind
theorem cst_lead_mul {c : K} (hc : c ≠ 0) {d : P K} (hd : d ≠ 0) : (cst c * d).lead = c * d.lead := by
  rw [P.lead_mul (cst_ne hc) hd, cst_lead, cst_len hc, show ((1 - 1 : Nat) : Int) = 0 from rfl, tw_z]
theorem cst_len_mul {c : K} (hc : c ≠ 0) (d : P K) : (cst c * d).len = d.len := by
  by_cases z : d = 0
  · rw [z, show cst c * (0 : P K) = 0 by grind]
  · rw [P.len_mul (cst_ne hc) z, cst_len hc]; omega
theorem hdI_nrm (d : P K) : nrm1 (hdI d) := by
  by_cases z : d = 0
  · rw [z, hdI_0]; exact .inl rfl
  · refine .inr ?_
    unfold hdI
    have l := P.lead_ne z
    rw [cst_lead_mul (inv_ne l) z]
    have := mul_inv l
    grind
theorem hdI_back (d : P K) : ∃ c : K, d = cst c * hdI d := by
  by_cases z : d = 0
  · exact ⟨0, by rw [z, hdI_0]; grind⟩
  · refine ⟨d.lead, ?_⟩
    unfold hdI
    have e : cst d.lead * (cst (inv d.lead) * d) = (cst d.lead * cst (inv d.lead)) * d := by grind
    rw [e, cst_mul, mul_inv (P.lead_ne z), cst_1]; grind
theorem hdO_back (d : P K) : ∃ c : K, d = hdO d * cst c := by
  by_cases z : d = 0
  · exact ⟨0, by rw [z, hdO_0]; grind⟩
  · refine ⟨tw (1 - (d.len : Int)) d.lead, ?_⟩
    unfold hdO
    have e : ∀ a b : K, d * cst a * cst b = d * (cst a * cst b) := fun a b => by grind
    rw [e, cst_mul, ← tw_mul]
    have := mul_inv (P.lead_ne z)
    rw [show inv d.lead * d.lead = 1 by grind, tw_1, cst_1]; grind
theorem hdI_ne {d : P K} (h : d ≠ 0) : hdI d ≠ 0 := P.mul_ne (cst_ne (inv_ne (P.lead_ne h))) h
theorem hdI_len (d : P K) : (hdI d).len = d.len := by
  by_cases z : d = 0
  · rw [z, hdI_0]
  · exact cst_len_mul (inv_ne (P.lead_ne z)) d
/-- two that divide each other -/
theorem same_in {d e s w : P K} (h1 : d = s * e) (h2 : e = w * d) (nd : nrm1 d) (ne : nrm1 e) : d = e := by
  by_cases z : d = 0
  · rw [h2, z]; grind
  · have ze : e ≠ 0 := fun q => z (by rw [h1, q]; grind)
    have zs : s ≠ 0 := fun q => z (by rw [h1, q]; grind)
    have ld : d.lead = 1 := nd.resolve_left z
    have le : e.lead = 1 := ne.resolve_left ze
    have l1 : e.len ≤ d.len := by rw [h1]; exact P.len_mul_ge zs
    have zw : w ≠ 0 := fun q => ze (by rw [h2, q]; grind)
    have l2 : d.len ≤ e.len := by rw [h2]; exact P.len_mul_ge zw
    have l3 := P.len_mul zs ze
    rw [← h1] at l3
    have pe := P.len_pos ze
    have ps := P.len_pos zs
    have l4 : s.len = 1 := by omega
    have hs := len_1_cst (a := s) (by omega)
    have := P.lead_mul zs ze
    rw [← h1, ld, le, tw_1] at this
    have e1 : s.lead = s.cf 0 := by unfold P.lead; rw [l4]
    rw [h1, hs, ← e1, show s.lead = 1 by grind, cst_1]; grind
theorem same_out {d e s w : P K} (h1 : d = e * s) (h2 : e = d * w) (nd : nrm1 d) (ne : nrm1 e) : d = e := by
  by_cases z : d = 0
  · rw [h2, z]; grind
  · have ze : e ≠ 0 := fun q => z (by rw [h1, q]; grind)
    have zs : s ≠ 0 := fun q => z (by rw [h1, q]; grind)
    have ld : d.lead = 1 := nd.resolve_left z
    have le : e.lead = 1 := ne.resolve_left ze
    have zw : w ≠ 0 := fun q => ze (by rw [h2, q]; grind)
    have l1 : e.len ≤ d.len := by rw [h1]; exact P.len_mul_ge' zs
    have l2 : d.len ≤ e.len := by rw [h2]; exact P.len_mul_ge' zw
    have l3 := P.len_mul ze zs
    rw [← h1] at l3
    have pe := P.len_pos ze
    have ps := P.len_pos zs
    have l4 : s.len = 1 := by omega
    have hs := len_1_cst (a := s) (by omega)
    have := P.lead_mul ze zs
    rw [← h1, ld, le] at this
    have e1 : s.lead = s.cf 0 := by unfold P.lead; rw [l4]
    have e2 : tw ((e.len - 1 : Nat) : Int) s.lead = tw ((e.len - 1 : Nat) : Int) 1 := by rw [tw_1]; grind
    rw [h1, hs, ← e1, tw_inj e2, cst_1]; grind
/-! ### inner common parts -/
structure GIn (f g d : P K) : Prop where
  cb : ∃ a b : P K, d = a * f + b * g
  lf : ∃ u : P K, f = u * d
  lg : ∃ v : P K, g = v * d
theorem GIn.div {f g d h : P K} (G : GIn f g d) (hf : ∃ u : P K, f = u * h) (hg : ∃ v : P K, g = v * h) : ∃ w : P K, d = w * h := by
  obtain ⟨a, b, e⟩ := G.cb
  obtain ⟨u, hu⟩ := hf
  obtain ⟨v, hv⟩ := hg
  exact ⟨a * u + b * v, by rw [e, hu, hv]; grind⟩
theorem GIn.uq {f g d e : P K} (h1 : GIn f g d) (h2 : GIn f g e) (n1 : nrm1 d) (n2 : nrm1 e) : d = e := by
  obtain ⟨s, hs⟩ := h1.div h2.lf h2.lg
  obtain ⟨w, hw⟩ := h2.div h1.lf h1.lg
  exact same_in hs hw n1 n2
theorem GIn.hd {f g d : P K} (h : GIn f g d) : GIn f g (hdI d) := by
  obtain ⟨a, b, e⟩ := h.cb
  obtain ⟨u, hu⟩ := h.lf
  obtain ⟨v, hv⟩ := h.lg
  obtain ⟨c, hc⟩ := hdI_back d
  refine ⟨⟨cst (inv d.lead) * a, cst (inv d.lead) * b, ?_⟩, ⟨u * cst c, ?_⟩, ⟨v * cst c, ?_⟩⟩
  · have : hdI d = cst (inv d.lead) * d := rfl
    rw [this, e]; generalize cst (inv (a * f + b * g).lead) = z; grind
  · rw (occs := .pos [1]) [hu, hc]; grind
  · rw (occs := .pos [1]) [hv, hc]; grind
theorem GIn.self (f : P K) : GIn f 0 f := ⟨⟨1, 0, by grind⟩, ⟨1, by grind⟩, ⟨0, by grind⟩⟩
theorem GIn.sym {f g d : P K} (h : GIn f g d) : GIn g f d := by
  obtain ⟨a, b, e⟩ := h.cb
  exact ⟨⟨b, a, by rw [e]; grind⟩, h.lg, h.lf⟩
/-- a multiple of the one put to the other one -/
theorem GIn.more {f g d q : P K} (h : GIn f g d) : GIn f (g + q * f) d := by
  obtain ⟨a, b, e⟩ := h.cb
  obtain ⟨u, hu⟩ := h.lf
  obtain ⟨v, hv⟩ := h.lg
  refine ⟨⟨a - b * q, b, by rw [e]; grind⟩, h.lf, ⟨v + q * u, ?_⟩⟩
  have : g + q * f = v * d + q * (u * d) := by rw [← hu, ← hv]
  rw [this]; grind
theorem GIn.step {f g d q r : P K} (h : f = q * g + r) (G : GIn g r d) : GIn f g d := by
  have := (G.more (q := q)).sym
  rwa [show r + q * g = q * g + r by grind, ← h] at this
theorem GIn.step' {f g d q r : P K} (h : f = q * g + r) (G : GIn f g d) : GIn g r d := by
  have := (G.sym.more (q := -q))
  rwa [show f + -q * g = r by rw [h]; grind] at this
theorem gin_ex : ∀ (n : Nat) (f g : P K), g.len ≤ n → ∃ d, GIn f g d
  | 0, f, g, h => ⟨f, by rw [P.len_eq_0 (Nat.le_zero.mp h)]; exact GIn.self f⟩
  | n + 1, f, g, h => by
    by_cases z : g = 0
    · exact ⟨f, by rw [z]; exact GIn.self f⟩
    · have l := rI_len f z
      obtain ⟨d, hd⟩ := gin_ex n g (rI f g) (by omega)
      exact ⟨d, hd.step (divI f g)⟩
noncomputable def gcI (f g : P K) : P K := hdI (gin_ex _ f g (Nat.le_refl _)).choose
theorem gcI_ok (f g : P K) : GIn f g (gcI f g) := (gin_ex _ f g (Nat.le_refl _)).choose_spec.hd
theorem gcI_nrm (f g : P K) : nrm1 (gcI f g) := hdI_nrm _
theorem gcI_uq {f g d : P K} (h : GIn f g d) (n : nrm1 d) : gcI f g = d := (gcI_ok f g).uq h (gcI_nrm f g) n
theorem gcI_uh {f g d : P K} (h : GIn f g d) : gcI f g = hdI d := gcI_uq h.hd (hdI_nrm d)
theorem gcI_0 (f : P K) : gcI f 0 = hdI f := gcI_uh (GIn.self f)
/-! ### outer common parts -/
structure GOut (f g d : P K) : Prop where
  cb : ∃ a b : P K, d = f * a + g * b
  lf : ∃ u : P K, f = d * u
  lg : ∃ v : P K, g = d * v
theorem GOut.div {f g d h : P K} (G : GOut f g d) (hf : ∃ u : P K, f = h * u) (hg : ∃ v : P K, g = h * v) : ∃ w : P K, d = h * w := by
  obtain ⟨a, b, e⟩ := G.cb
  obtain ⟨u, hu⟩ := hf
  obtain ⟨v, hv⟩ := hg
  exact ⟨u * a + v * b, by rw [e, hu, hv]; grind⟩
theorem GOut.uq {f g d e : P K} (h1 : GOut f g d) (h2 : GOut f g e) (n1 : nrm1 d) (n2 : nrm1 e) : d = e := by
  obtain ⟨s, hs⟩ := h1.div h2.lf h2.lg
  obtain ⟨w, hw⟩ := h2.div h1.lf h1.lg
  exact same_out hs hw n1 n2
theorem GOut.hd {f g d : P K} (h : GOut f g d) : GOut f g (hdO d) := by
  obtain ⟨a, b, e⟩ := h.cb
  obtain ⟨u, hu⟩ := h.lf
  obtain ⟨v, hv⟩ := h.lg
  obtain ⟨c, hc⟩ := hdO_back d
  have k : hdO d = d * cst (tw (1 - (d.len : Int)) (inv d.lead)) := rfl
  generalize cst (tw (1 - (d.len : Int)) (inv d.lead)) = z at k
  refine ⟨⟨a * z, b * z, ?_⟩, ⟨cst c * u, ?_⟩, ⟨cst c * v, ?_⟩⟩
  · rw [k, e]; grind
  · rw (occs := .pos [1]) [hu, hc]; grind
  · rw (occs := .pos [1]) [hv, hc]; grind
theorem GOut.self (f : P K) : GOut f 0 f := ⟨⟨1, 0, by grind⟩, ⟨1, by grind⟩, ⟨0, by grind⟩⟩
theorem GOut.sym {f g d : P K} (h : GOut f g d) : GOut g f d := by
  obtain ⟨a, b, e⟩ := h.cb
  exact ⟨⟨b, a, by rw [e]; grind⟩, h.lg, h.lf⟩
theorem GOut.more {f g d q : P K} (h : GOut f g d) : GOut f (g + f * q) d := by
  obtain ⟨a, b, e⟩ := h.cb
  obtain ⟨u, hu⟩ := h.lf
  obtain ⟨v, hv⟩ := h.lg
  refine ⟨⟨a - q * b, b, by rw [e]; grind⟩, h.lf, ⟨v + u * q, ?_⟩⟩
  have : g + f * q = d * v + (d * u) * q := by rw [← hu, ← hv]
  rw [this]; grind
theorem GOut.step {f g d q r : P K} (h : f = g * q + r) (G : GOut g r d) : GOut f g d := by
  have := (G.more (q := q)).sym
  rwa [show r + g * q = g * q + r by grind, ← h] at this
theorem GOut.step' {f g d q r : P K} (h : f = g * q + r) (G : GOut f g d) : GOut g r d := by
  have := (G.sym.more (q := -q))
  rwa [show f + g * -q = r by rw [h]; grind] at this
theorem gout_ex : ∀ (n : Nat) (f g : P K), g.len ≤ n → ∃ d, GOut f g d
  | 0, f, g, h => ⟨f, by rw [P.len_eq_0 (Nat.le_zero.mp h)]; exact GOut.self f⟩
  | n + 1, f, g, h => by
    by_cases z : g = 0
    · exact ⟨f, by rw [z]; exact GOut.self f⟩
    · have l := rO_len f z
      obtain ⟨d, hd⟩ := gout_ex n g (rO f g) (by omega)
      exact ⟨d, hd.step (divO f g)⟩
noncomputable def gcO (f g : P K) : P K := hdO (gout_ex _ f g (Nat.le_refl _)).choose
/-! ### joints -/
structure LcI (f g m : P K) : Prop where
  lf : ∃ a : P K, m = a * f
  lg : ∃ b : P K, m = b * g
  ld : m.lead = 1
  lt : ∀ h : P K, (∃ a, h = a * f) → (∃ b, h = b * g) → ∃ c, h = c * m
  ne : m ≠ 0
theorem LcI.uq {f g m n : P K} (h1 : LcI f g m) (h2 : LcI f g n) : m = n := by
  obtain ⟨s, hs⟩ := h2.lt m h1.lf h1.lg
  obtain ⟨w, hw⟩ := h1.lt n h2.lf h2.lg
  exact same_in hs hw (.inr h1.ld) (.inr h2.ld)
/-- how far the making of a joint is: one, left; ahead, beside of f -/
structure Jo (f g one left ah be : P K) : Prop where
  mx : ∃ α β a b c d : P K, one = ah * f + α * g ∧ left = be * f + β * g ∧ a * ah + b * be = 1 ∧ a * α + b * β = 0 ∧ c * ah + d * be = 0 ∧ c * α + d * β = 1
  on : one ≠ 0
  gc : gcI one left = gcI f g
  st : (one = f ∧ left = g ∧ ah = 1 ∧ be = 0) ∨ (left.len < one.len ∧ ah.len < be.len ∧ be.len + one.len = g.len + 1 ∧ be ≠ 0)
theorem Jo.start {f g : P K} (hf : f ≠ 0) : Jo f g f g 1 0 := ⟨⟨0, 1, 1, 0, 0, 1, by grind, by grind, by grind, by grind, by grind, by grind⟩, hf, rfl, .inl ⟨rfl, rfl, rfl, rfl⟩⟩
theorem P.len_add_lt {a b : P K} (h : a.len < b.len) : (a - b).len = b.len := by
  have hb : b ≠ 0 := fun z => by rw [z, P.len_0] at h; omega
  have := P.len_of (a := a - b) (n := b.len - 1) (fun i hi => by rw [P.cf_sub, P.cf_ge (by omega), P.cf_ge (a := b) (by omega)]; grind) (by
    rw [P.cf_sub, P.cf_ge (by omega)]
    have : b.cf (b.len - 1) ≠ 0 := P.lead_ne hb
    grind)
  omega
theorem jo_rg (a b q be ah : P K) : (a * q + b) * be + a * (ah - q * be) = a * ah + b * be := by grind
theorem Jo.step {f g one left ah be : P K} (hg : g ≠ 0) (J : Jo f g one left ah be) (hl : left ≠ 0) : Jo f g left (rI one left) be (ah - qI one left * be) ∧ (qI one left * be).len ≤ g.len := by
  obtain ⟨⟨α, β, a, b, c, d, e1, e2, m1, m2, m3, m4⟩, on, gc, st⟩ := J
  have dv := divI one left
  have rl := rI_len one hl
  generalize hq : qI one left = q at dv ⊢
  generalize hr : rI one left = r at dv rl ⊢
  have key : be.len + one.len = g.len + 1 → be ≠ 0 → left.len < one.len → (q * be).len + left.len = g.len + 1 ∧ be.len < (q * be).len := fun k1 k2 k3 => by
    have zq : q ≠ 0 := fun z => by
      rw [z, show 0 * left + r = r by grind] at dv
      rw [dv] at k3
      omega
    have lq : (q * left).len = one.len := by
      have e : q * left = one - r := by rw [dv]; grind
      rw [e]
      have := P.len_add_lt (a := -r) (b := -one) (by rw [P.len_neg, P.len_neg]; omega)
      rw [show -r - -one = one - r by grind, P.len_neg] at this
      exact this
    have l1 := P.len_mul zq hl
    have l2 := P.len_mul zq k2
    have p1 := P.len_pos hl
    have p2 := P.len_pos k2
    have p3 := P.len_pos zq
    omega
  refine ⟨⟨⟨β, α - q * β, a * q + b, a, c * q + d, c, e2, ?_, ?_, ?_, ?_, ?_⟩, hl, ?_, .inr ?_⟩, ?_⟩
  · have : r = one - q * left := by rw [dv]; grind
    rw [this, e1, e2]; grind
  · rw [← m1]; exact jo_rg _ _ _ _ _
  · rw [← m2]; exact jo_rg _ _ _ _ _
  · rw [← m3]; exact jo_rg _ _ _ _ _
  · rw [← m4]; exact jo_rg _ _ _ _ _
  · rw [← gc]
    exact gcI_uq ((gcI_ok one left).step' dv) (gcI_nrm _ _)
  · rcases st with ⟨s1, s2, s3, s4⟩ | ⟨s1, s2, s3, s4⟩
    · subst s1; subst s2; subst s3; subst s4
      have e : (1 : P K) - q * 0 = 1 := by grind
      rw [e, P.len_0, ← cst_1, cst_len TP.one_ne]
      exact ⟨rl, by omega, by omega, cst_ne TP.one_ne⟩
    · obtain ⟨k1, k2⟩ := key s3 s4 s1
      have := P.len_add_lt (a := ah) (b := q * be) (by omega)
      refine ⟨rl, by omega, by omega, fun z => ?_⟩
      rw [z, P.len_0] at this
      omega
  · rcases st with ⟨s1, s2, s3, s4⟩ | ⟨s1, s2, s3, s4⟩
    · subst s4
      rw [show q * (0 : P K) = 0 by grind, P.len_0]; omega
    · obtain ⟨k1, k2⟩ := key s3 s4 s1
      have := P.len_pos hl
      omega
theorem jo_rh (a b c d ah be α β f g x y : P K) : (x * a - y * c) * (ah * f + α * g) + (x * b - y * d) * (be * f + β * g) = x * (a * ah + b * be) * f + x * (a * α + b * β) * g - y * (c * ah + d * be) * f - y * (c * α + d * β) * g := by grind
theorem jo_ri (a b : P K) : a + b * 0 = a := by grind
theorem jo_rj (x f g y : P K) : x * 1 * f + x * 0 * g - y * 0 * f - y * 1 * g = x * f - y * g := by grind
theorem jo_rk (x y a b c d ah be : P K) : x * (a * ah + b * be) - y * (c * ah + d * be) = (x * a - y * c) * ah + (x * b - y * d) * be := by grind
theorem Jo.stop {f g one ah be : P K} (hf : f ≠ 0) (hg : g ≠ 0) (J : Jo f g one 0 ah be) : LcI f g (hdI (be * f)) ∧ be ≠ 0 ∧ be.len + (gcI f g).len = g.len + 1 := by
  obtain ⟨⟨α, β, a, b, c, d, e1, e2, m1, m2, m3, m4⟩, on, gc, st⟩ := J
  rcases st with ⟨s1, s2, s3, s4⟩ | ⟨s1, s2, s3, s4⟩
  · exact absurd s2.symm hg
  · have nz := P.mul_ne s4 hf
    refine ⟨⟨⟨cst (inv (be * f).lead) * be, by unfold hdI; generalize cst (inv (be * f).lead) = z; grind⟩, ⟨cst (inv (be * f).lead) * -β, ?_⟩, (hdI_nrm _).resolve_left (hdI_ne nz), fun h ⟨x, hx⟩ ⟨y, hy⟩ => ?_, hdI_ne nz⟩, s4, ?_⟩
    · have : be * f = -β * g := by
        have : be * f = (be * f + β * g) - β * g := by grind
        rw [this, ← e2]; grind
      show cst (inv (be * f).lead) * (be * f) = _
      generalize cst (inv (be * f).lead) = z
      rw [this]; grind
    · -- (x, -y) is a pair that comes to nought
      have p0 : x * f - y * g = 0 := by rw [← hx, ← hy]; grind
      have hp : (x * a - y * c) * one = 0 := by
        have k : (x * a - y * c) * (ah * f + α * g) + (x * b - y * d) * (be * f + β * g) = x * (a * ah + b * be) * f + x * (a * α + b * β) * g - y * (c * ah + d * be) * f - y * (c * α + d * β) * g := jo_rh _ _ _ _ _ _ _ _ _ _ _ _
        rw [m1, m2, m3, m4, ← e2, ← e1, jo_ri, jo_rj] at k
        rw [k, p0]
      have p : x * a - y * c = 0 := (P.no_div hp).resolve_right on
      have hx2 : x = (x * b - y * d) * be := by
        have e := jo_rk x y a b c d ah be
        rw [m1, m3, p] at e
        have e1 : x * 1 - y * 0 = x := by grind
        have e2 : ∀ z w : P K, 0 * z + w = w := fun z w => by grind
        rwa [e1, e2] at e
      obtain ⟨k, hk⟩ := hdI_back (be * f)
      refine ⟨(x * b - y * d) * cst k, ?_⟩
      have e : (x * b - y * d) * cst k * hdI (be * f) = (x * b - y * d) * (cst k * hdI (be * f)) := by grind
      rw [e, ← hk, hx]
      generalize x * b - y * d = w at hx2
      have : w * (be * f) = w * be * f := by grind
      rw [this, ← hx2]
    · rw [← gc, gcI_0, hdI_len]; exact s3
theorem lc_ex {f g : P K} (hf : f ≠ 0) (hg : g ≠ 0) : ∀ (n : Nat) (one left ah be : P K), left.len ≤ n → Jo f g one left ah be → ∃ m, LcI f g m ∧ m.len + (gcI f g).len = f.len + g.len
  | n, one, left, ah, be, h, J => by
    by_cases z : left = 0
    · subst z
      obtain ⟨a, b, c⟩ := J.stop hf hg
      refine ⟨_, a, ?_⟩
      rw [hdI_len, P.len_mul b hf]
      have := P.len_pos hf
      have := P.len_pos b
      omega
    · have hp := P.len_pos z
      have hl := rI_len one z
      cases n with
      | zero => omega
      | succ n => exact lc_ex hf hg n _ _ _ _ (by omega) (J.step hg z).1
theorem lcI_ex {f g : P K} (hf : f ≠ 0) (hg : g ≠ 0) : ∃ m, LcI f g m ∧ m.len + (gcI f g).len = f.len + g.len := lc_ex hf hg _ _ _ _ _ (Nat.le_refl _) (Jo.start hf)
noncomputable def lcI (f g : P K) : P K := if h : f ≠ 0 ∧ g ≠ 0 then (lcI_ex h.1 h.2).choose else 0
theorem LcI.sym {f g m : P K} (h : LcI f g m) : LcI g f m := ⟨h.lg, h.lf, h.ld, fun x h1 h2 => h.lt x h2 h1, h.ne⟩
/-! ### worths -/
def wo : List K → K → K
  | [], _ => 0
  | c :: f, z => c * z + wo f (tw 1 z)
theorem wo_add : ∀ (f g : List K) (z : K), wo (addL f g) z = wo f z + wo g z
  | [], g, z => by show wo g z = 0 + wo g z; grind
  | c :: f, [], z => by rw [addL_nil]; show _ = _ + (0 : K); grind
  | c :: f, d :: g, z => by
    show (c + d) * z + wo (addL f g) (tw 1 z) = (c * z + wo f (tw 1 z)) + (d * z + wo g (tw 1 z))
    rw [wo_add f g]; grind
theorem wo_at : ∀ (f : List K) (y z : K), wo f (y + z) = wo f y + wo f z
  | [], y, z => by show (0 : K) = 0 + 0; grind
  | c :: f, y, z => by
    show c * (y + z) + wo f (tw 1 (y + z)) = (c * y + wo f (tw 1 y)) + (c * z + wo f (tw 1 z))
    rw [tw_add, wo_at f]; grind
theorem wo_z : ∀ f : List K, wo f 0 = 0
  | [] => rfl
  | c :: f => by
    show c * 0 + wo f (tw 1 0) = 0
    rw [tw_0, wo_z f]; grind
theorem wo_scal (c : K) : ∀ (f : List K) (z : K), wo (f.map (c * ·)) z = c * wo f z
  | [], z => by show (0 : K) = c * 0; grind
  | d :: f, z => by
    show c * d * z + wo (f.map (c * ·)) (tw 1 z) = c * (d * z + wo f (tw 1 z))
    rw [wo_scal c f]; grind
theorem tw_wo : ∀ (f : List K) (z : K), tw 1 (wo f z) = wo (f.map (tw 1)) (tw 1 z)
  | [], z => tw_0 1
  | d :: f, z => by
    show tw 1 (d * z + wo f (tw 1 z)) = tw 1 d * tw 1 z + wo (f.map (tw 1)) (tw 1 (tw 1 z))
    rw [tw_add, tw_mul, tw_wo f]
theorem wo_putL : ∀ (f g : List K) (z : K), wo (putL f g) z = wo f (wo g z)
  | [], g, z => rfl
  | c :: f, g, z => by
    unfold putL
    rw [wo_add, wo_scal, wo_putL f]
    have : wo (shL g) z = tw 1 (wo g z) := by
      rw [tw_wo]
      show 0 * z + wo (g.map (tw 1)) (tw 1 z) = _
      grind
    rw [this]; rfl
theorem wo_cfz : ∀ (f : List K) (z : K), (∀ i, cf f i = 0) → wo f z = 0
  | [], z, _ => rfl
  | c :: f, z, h => by
    have e : c = 0 := h 0
    show c * z + wo f (tw 1 z) = 0
    rw [wo_cfz f _ fun i => by rw [← cf_s c f i]; exact h (i + 1), e]; grind
theorem wo_cf : ∀ (f g : List K) (z : K), (∀ i, cf f i = cf g i) → wo f z = wo g z
  | [], g, z, h => (wo_cfz g z fun i => by rw [← h i, cf_nil]).symm
  | c :: f, [], z, h => wo_cfz _ z fun i => by rw [h i, cf_nil]
  | c :: f, d :: g, z, h => by
    have e : c = d := h 0
    show c * z + wo f (tw 1 z) = d * z + wo g (tw 1 z)
    rw [e, wo_cf f g (tw 1 z) fun i => by rw [← cf_s c f i, ← cf_s d g i]; exact h (i + 1)]
theorem wo_tr (f : List K) (z : K) : wo (tr f) z = wo f z := wo_cf _ _ z (cf_tr f)
def P.wo (a : P K) (z : K) : K := TP.wo a.l z
theorem mk_wo (l : List K) (z : K) : (mkP l).wo z = wo l z := wo_tr l z
theorem P.wo_add (a b : P K) (z : K) : (a + b).wo z = a.wo z + b.wo z := by
  show (mkP (addL a.l b.l)).wo z = _
  rw [mk_wo, TP.wo_add]; rfl
theorem P.wo_mul (a b : P K) (z : K) : (a * b).wo z = a.wo (b.wo z) := by
  show (mkP (putL a.l b.l)).wo z = _
  rw [mk_wo, wo_putL]; rfl
theorem P.wo_at (a : P K) (y z : K) : a.wo (y + z) = a.wo y + a.wo z := TP.wo_at a.l y z
theorem P.wo_z (a : P K) : a.wo 0 = 0 := TP.wo_z a.l
theorem cst_wo (c z : K) : (cst c).wo z = c * z := by
  show (mkP [c]).wo z = _
  rw [mk_wo]
  show c * z + 0 = _
  grind
theorem P.wo_1 (z : K) : (1 : P K).wo z = z := by rw [← cst_1, cst_wo]; grind
theorem wo_base {b : K} (h : tw 1 b = b) : ∀ (f : List K) (z : K), wo f (b * z) = b * wo f z
  | [], z => by show (0 : K) = b * 0; grind
  | c :: f, z => by
    show c * (b * z) + wo f (tw 1 (b * z)) = b * (c * z + wo f (tw 1 z))
    rw [tw_mul, h, wo_base h f]; grind
end
end TP
/-! PY -/
set_option maxHeartbeats 4000000
namespace TP
open PySem PySem.Spec PyProof.Rows L2
/-! # Turn sums as maps -/
def rowAdd (F : FD) (L : List Int) (i : Nat) (x : Int) : List Int := L.set (i % F.t) (addF F (L.getD (i % F.t) 0) x)
def amG (F : FD) : Nat → List Int → List Int → List Int
  | _, L, [] => L
  | i, L, x :: r => amG F (i + 1) (rowAdd F L i x) r
def noughts (n : Nat) : List Int := List.replicate n 0
def am (F : FD) (l : List Int) : List Int := amG F 0 (noughts F.t) l
def wG (F : FD) (z : Int) : Nat → Int → List Int → Int
  | _, s, [] => s
  | i, s, c :: r => wG F z (i + 1) (addF F s (mulF F c (turnF F z (i : Int)))) r
def worthF (F : FD) (l : List Int) (z : Int) : Int := wG F z 0 0 l
section
variable {F : FD}
theorem allIn_set (o : F.Ok) {L : List Int} (h : AllIn F L) {i : Nat} {x : Int} (hx : InF F x) : AllIn F (L.set i x) := fun y hy => by
  rcases List.mem_or_eq_of_mem_set hy with h1 | rfl
  · exact h y h1
  · exact hx
theorem row_in (o : F.Ok) {L : List Int} (h : AllIn F L) (i : Nat) (x : Int) : AllIn F (rowAdd F L i x) := allIn_set o h (addF_in o _ _)
theorem row_len (L : List Int) (i : Nat) (x : Int) : (rowAdd F L i x).length = L.length := List.length_set
theorem am_len : ∀ (r : List Int) (i : Nat) (L : List Int), (amG F i L r).length = L.length
  | [], _, _ => rfl
  | x :: r, i, L => by
    show (amG F (i + 1) (rowAdd F L i x) r).length = _
    rw [am_len r, row_len]
theorem amG_in (o : F.Ok) : ∀ (r : List Int) (i : Nat) {L : List Int}, AllIn F L → AllIn F (amG F i L r)
  | [], _, _, h => h
  | x :: r, i, L, h => amG_in o r (i + 1) (row_in o h i x)
theorem noughts_in (o : F.Ok) (n : Nat) : AllIn F (noughts n) := fun x hx => by rw [(List.mem_replicate.mp hx).2]; exact InF_zero o
theorem am_in (o : F.Ok) (l : List Int) : AllIn F (am F l) := amG_in o l 0 (noughts_in o _)
theorem am_length (l : List Int) : (am F l).length = F.t := by unfold am; rw [am_len]; exact List.length_replicate
theorem wn_cons (x : Int) (r : List Int) : wn (x :: r) = if wn r = [] then (if x = 0 then [] else [x]) else x :: wn r := by
  show (match wn r with | [] => if x = 0 then [] else [x] | y :: s => x :: y :: s) = _
  cases wn r with
  | nil => rfl
  | cons y s => rfl
/-! ## worths -/
theorem wG_add (o : F.Ok) (z : Int) : ∀ (r : List Int) (i : Nat) (s u : Int), wG F z i (addF F s u) r = addF F (wG F z i s r) u
  | [], _, _, _ => rfl
  | c :: r, i, s, u => by
    show wG F z (i + 1) (addF F (addF F s u) (mulF F c (turnF F z i))) r = addF F (wG F z (i + 1) (addF F s (mulF F c (turnF F z i))) r) u
    rw [← wG_add o z r (i + 1), add_assoc' o, add_assoc' o, add_comm' o u]
theorem wG_set (T : Tab F) {z : Int} {x : Int} (hx : InF F x) : ∀ (L : List Int) (i k : Nat) (s : Int), AllIn F L → k < L.length → wG F z i s (L.set k (addF F (L.getD k 0) x)) = addF F (wG F z i s L) (mulF F x (turnF F z ((i + k : Nat) : Int)))
  | [], i, k, s, _, h => absurd h (Nat.not_lt_zero k)
  | c :: r, i, 0, s, hL, _ => by
    have o := T.ok
    have hc := hL c List.mem_cons_self
    show wG F z (i + 1) (addF F s (mulF F (addF F c x) (turnF F z i))) r = addF F (wG F z (i + 1) (addF F s (mulF F c (turnF F z i))) r) _
    rw [distr T hc hx (turn_InF o _ _), ← add_assoc' o, wG_add o]
    rfl
  | c :: r, i, k + 1, s, hL, h => by
    show wG F z (i + 1) _ (r.set k (addF F (r.getD k 0) x)) = addF F (wG F z (i + 1) _ r) _
    rw [wG_set T hx r (i + 1) k _ (fun y hy => hL y (List.mem_cons_of_mem _ hy)) (Nat.lt_of_succ_lt_succ h), Nat.add_assoc, Nat.add_comm 1 k]
theorem wG_row (T : Tab F) {z x : Int} (hx : InF F x) {L : List Int} (hL : AllIn F L) (hl : L.length = F.t) (i : Nat) (s : Int) : wG F z 0 s (rowAdd F L i x) = addF F (wG F z 0 s L) (mulF F x (turnF F z (i : Int))) := by
  have ht : 0 < F.t := by have := T.ok.tb; omega
  unfold rowAdd
  rw [wG_set T hx L 0 (i % F.t) s hL (by rw [hl]; exact Nat.mod_lt _ ht), Nat.zero_add, turn_mod F z (a := ((i % F.t : Nat) : Int)) (b := (i : Int)) (by rw [Int.natCast_emod, Int.emod_emod_of_dvd _ (Int.dvd_refl _)])]
theorem wG_am (T : Tab F) {z : Int} : ∀ (r : List Int) (i : Nat) {L : List Int}, AllIn F r → AllIn F L → L.length = F.t → wG F z 0 0 (amG F i L r) = wG F z i (wG F z 0 0 L) r
  | [], _, _, _, _, _ => rfl
  | x :: r, i, L, hr, hL, hl => by
    show wG F z 0 0 (amG F (i + 1) (rowAdd F L i x) r) = wG F z (i + 1) (addF F (wG F z 0 0 L) (mulF F x (turnF F z i))) r
    rw [wG_am T r (i + 1) (fun y hy => hr y (List.mem_cons_of_mem _ hy)) (row_in T.ok hL i x) (by rw [row_len]; exact hl), wG_row T (hr x List.mem_cons_self) hL hl]
theorem wG_noughts (o : F.Ok) (z : Int) : ∀ (n i : Nat) {s : Int}, InF F s → wG F z i s (noughts n) = s
  | 0, _, _, _ => rfl
  | n + 1, i, s, h => by
    show wG F z (i + 1) (addF F s (mulF F 0 _)) (noughts n) = s
    rw [mulF_0x, add_0r o h, wG_noughts o z n (i + 1) h]
theorem wG_wn (o : F.Ok) (z : Int) : ∀ (r : List Int) (i : Nat) {s : Int}, InF F s → wG F z i s (wn r) = wG F z i s r
  | [], _, _, _ => rfl
  | x :: r, i, s, h => by
    have ih := wG_wn o z r (i + 1) (s := addF F s (mulF F x (turnF F z i))) (addF_in o _ _)
    rw [wn_cons]
    show _ = wG F z (i + 1) (addF F s (mulF F x (turnF F z i))) r
    split
    · rename_i e
      rw [e] at ih
      rw [← ih]
      split
      · rename_i e2
        subst e2
        show s = addF F s (mulF F 0 _)
        rw [mulF_0x, add_0r o h]
      · rfl
    · exact ih
/-- the worths stay -/
theorem worth_am (T : Tab F) {l : List Int} (hl : AllIn F l) (z : Int) : worthF F (wn (am F l)) z = worthF F l z := by
  have o := T.ok
  unfold worthF am
  rw [wG_wn o z _ 0 (InF_zero o), wG_am T l 0 hl (noughts_in o _) List.length_replicate, wG_noughts o z F.t 0 (InF_zero o)]
/-! ## differences -/
abbrev zsub (F : FD) (a b : List Int) : List Int := List.zipWith (subF F) a b
end
end TP
/-! EL -/
set_option maxHeartbeats 4000000
/-! # The elements of a field as a type: a field with turns -/
namespace TP
class Fi (F : FD) : Prop where
  mo : Mo F
  tn : ∀ x y, InF F x → InF F y → turnF F (addF F x y) 1 = addF F (turnF F x 1) (turnF F y 1)
  fx : ∀ x : Int, 0 ≤ x → x < F.p → turnF F x 1 = x
theorem fiT (F : FD) [h : Fi F] : Tab F := h.mo.tab
theorem fiO (F : FD) [h : Fi F] : F.Ok := h.mo.tab.ok
structure El (F : FD) where
  v : Int
  h : InF F v
theorem El.eq {F : FD} {a b : El F} (h : a.v = b.v) : a = b := by cases a; cases b; cases h; rfl
instance {F : FD} : DecidableEq (El F) := fun a b => if h : a.v = b.v then isTrue (El.eq h) else isFalse fun e => h (by rw [e])
section
variable {F : FD} [Fi F]
def eAdd (a b : El F) : El F := ⟨addF F a.v b.v, addF_in (fiO F) _ _⟩
def eMul (a b : El F) : El F := ⟨mulF F a.v b.v, mulF_InF (fiO F) _ _⟩
def eSub (a b : El F) : El F := ⟨subF F a.v b.v, subF_in (fiO F) _ _⟩
def e0 : El F := ⟨0, InF_zero (fiO F)⟩
def e1 : El F := ⟨1, one_InF (fiO F)⟩
def eNeg (a : El F) : El F := eSub e0 a
def natE : Nat → El F
  | 0 => e0
  | 1 => e1
  | n + 2 => eAdd (natE (n + 1)) e1
def intE : Int → El F
  | .ofNat n => natE n
  | .negSucc n => eNeg (natE (n + 1))
def powE (a : El F) : Nat → El F
  | 0 => e1
  | n + 1 => eMul (powE a n) a
theorem eAdd_0 (a : El F) : eAdd a e0 = a := El.eq (add_0r (fiO F) a.h)
theorem eAdd_comm (a b : El F) : eAdd a b = eAdd b a := El.eq (add_comm' (fiO F) _ _)
theorem eAdd_assoc (a b c : El F) : eAdd (eAdd a b) c = eAdd a (eAdd b c) := El.eq (add_assoc' (fiO F) _ _ _)
theorem eMul_comm (a b : El F) : eMul a b = eMul b a := El.eq (mul_comm' F _ _)
theorem eMul_assoc (a b c : El F) : eMul (eMul a b) c = eMul a (eMul b c) := El.eq (mul_assoc' (fiO F) _ _ _)
theorem eMul_1 (a : El F) : eMul a e1 = a := El.eq (mul_1 (fiT F) a.h)
theorem eMul_0 (a : El F) : eMul e0 a = e0 := El.eq (mulF_0x F a.v)
theorem eDist (a b c : El F) : eMul a (eAdd b c) = eAdd (eMul a b) (eMul a c) := El.eq (distrib (fiT F) a.h b.h c.h)
theorem eSub_add (a b : El F) : eAdd (eSub a b) b = a := El.eq (sub_add' (fiO F) _ a.h)
theorem eNeg_add (a : El F) : eAdd (eNeg a) a = e0 := eSub_add e0 a
theorem eCancel {a b c : El F} (h : eAdd a c = eAdd b c) : a = b := by
  have : eAdd (eAdd a c) (eNeg c) = eAdd (eAdd b c) (eNeg c) := by rw [h]
  have k : ∀ x : El F, eAdd (eAdd x c) (eNeg c) = x := fun x => by rw [eAdd_assoc, eAdd_comm c, eNeg_add, eAdd_0]
  rwa [k, k] at this
theorem eSub_eq (a b : El F) : eSub a b = eAdd a (eNeg b) := eCancel (c := b) (by rw [eSub_add, eAdd_assoc, eNeg_add, eAdd_0])
theorem eNeg_neg (a : El F) : eNeg (eNeg a) = a := eCancel (c := eNeg a) (by rw [eNeg_add, eAdd_comm, eNeg_add])
theorem eNeg_0 : eNeg (e0 : El F) = e0 := eCancel (c := e0) (by rw [eNeg_add, eAdd_0])
theorem eNeg_mul (a b : El F) : eMul (eNeg a) b = eNeg (eMul a b) := eCancel (c := eMul a b) (by
  rw [eNeg_add, eMul_comm, eMul_comm a, ← eDist, eNeg_add, eMul_comm, eMul_0])
theorem natE_succ (n : Nat) : (natE (n + 1) : El F) = eAdd (natE n) e1 := by
  cases n with
  | zero => show e1 = eAdd e0 e1; rw [eAdd_comm, eAdd_0]
  | succ n => rfl
theorem intE_neg (n : Int) : (intE (-n) : El F) = eNeg (intE n) := by
  cases n with
  | ofNat n =>
    cases n with
    | zero => show e0 = eNeg e0; rw [eNeg_0]
    | succ n => rfl
  | negSucc n => show natE (n + 1) = eNeg (eNeg (natE (n + 1))); rw [eNeg_neg]
instance : Add (El F) := ⟨eAdd⟩
instance : Mul (El F) := ⟨eMul⟩
instance : Neg (El F) := ⟨eNeg⟩
instance : _root_.Sub (El F) := ⟨eSub⟩
instance : NatCast (El F) := ⟨natE⟩
instance : IntCast (El F) := ⟨intE⟩
instance (n : Nat) : OfNat (El F) n := ⟨natE n⟩
instance : HPow (El F) Nat (El F) := ⟨powE⟩
instance : SMul Nat (El F) := ⟨fun n a => (n : El F) * a⟩
instance : SMul Int (El F) := ⟨fun n a => (n : El F) * a⟩
instance elR : Lean.Grind.CommRing (El F) where
  add_zero := eAdd_0
  add_comm := eAdd_comm
  add_assoc := eAdd_assoc
  mul_assoc := eMul_assoc
  mul_one := eMul_1
  one_mul a := (eMul_comm _ _).trans (eMul_1 a)
  left_distrib := eDist
  right_distrib a b c := by
    show eMul (eAdd a b) c = eAdd (eMul a c) (eMul b c)
    rw [eMul_comm, eDist, eMul_comm c, eMul_comm c]
  zero_mul := eMul_0
  mul_zero a := (eMul_comm _ _).trans (eMul_0 a)
  pow_zero a := rfl
  pow_succ a n := rfl
  ofNat_succ := natE_succ
  ofNat_eq_natCast n := rfl
  nsmul_eq_natCast_mul n a := rfl
  neg_add_cancel := eNeg_add
  sub_eq_add_neg := eSub_eq
  neg_zsmul n a := by
    show eMul (intE (-n)) a = eNeg (eMul (intE n) a)
    rw [intE_neg, eNeg_mul]
  zsmul_natCast_eq_nsmul n a := rfl
  intCast_ofNat n := rfl
  intCast_neg := intE_neg
  mul_comm := eMul_comm
def eTw (k : Int) (a : El F) : El F := ⟨turnF F a.v k, turn_InF (fiO F) _ _⟩
def eDiv (a b : El F) : El F := ⟨divF F a.v b.v, divF_in (fiO F) _ _⟩
theorem eTw_tw (a b : Int) (x : El F) : eTw a (eTw b x) = eTw (a + b) x := El.eq (by
  show turnF F (turnF F x.v b) a = _
  rw [turn_turn (fiO F), Int.add_comm]; rfl)
theorem eTw_add1 (a b : El F) : eTw 1 (eAdd a b) = eAdd (eTw 1 a) (eTw 1 b) := El.eq (Fi.tn _ _ a.h b.h)
theorem eTw_addN (a b : El F) : ∀ k : Nat, eTw (k : Int) (eAdd a b) = eAdd (eTw k a) (eTw k b)
  | 0 => by
    have e : ∀ x : El F, eTw ((0 : Nat) : Int) x = x := fun x => El.eq (turn_0 (fiO F) x.h)
    rw [e, e, e]
  | k + 1 => by
    have e : ∀ x : El F, eTw ((k + 1 : Nat) : Int) x = eTw 1 (eTw (k : Int) x) := fun x => by rw [eTw_tw, show (1 : Int) + (k : Int) = ((k + 1 : Nat) : Int) by omega]
    rw [e, e, e, eTw_addN a b k, eTw_add1]
theorem t_pos (F : FD) [Fi F] : 0 < F.t := by have := (fiO F).tb; omega
theorem eTw_mod (k : Int) (x : El F) : eTw k x = eTw ((k % F.t).toNat : Int) x := El.eq (turn_mod F _ (by
  have := t_pos F
  have h := Int.emod_nonneg k (show (F.t : Int) ≠ 0 by omega)
  rw [show (((k % F.t).toNat : Nat) : Int) = k % F.t by omega, Int.emod_emod]))
instance elT : TF (El F) where
  tw := eTw
  inv a := eDiv e1 a
  dec := inferInstance
  tw_add k a b := by
    show eTw k (eAdd a b) = eAdd (eTw k a) (eTw k b)
    rw [eTw_mod k, eTw_mod k, eTw_mod k, eTw_addN]
  tw_mul k a b := El.eq (turn_mul (fiO F) _ _ _)
  tw_tw := eTw_tw
  tw_z x := El.eq (turn_0 (fiO F) x.h)
  mul_inv a h := by
    show eMul a (eDiv e1 a) = e1
    rw [eMul_comm]
    exact El.eq (div_mul (fiO F) (one_InF (fiO F)) a.h fun z => h (El.eq z))
  one_ne h := by
    have : (1 : Int) = 0 := congrArg El.v h
    exact absurd this (by decide)
theorem v_add (a b : El F) : addF F a.v b.v = (a + b).v := rfl
theorem v_mul (a b : El F) : mulF F a.v b.v = (a * b).v := rfl
theorem v_sub (a b : El F) : subF F a.v b.v = (a - b).v := rfl
theorem v_tw (a : El F) (k : Int) : turnF F a.v k = (tw k a).v := rfl
theorem v_0 : (0 : El F).v = 0 := rfl
theorem v_eq0 {a : El F} : a.v = 0 ↔ a = 0 := ⟨fun h => El.eq h, fun h => by rw [h]; rfl⟩
theorem v_pow (a : El F) : ∀ n : Nat, raisF F a.v n = (a ^ n).v
  | 0 => rfl
  | n + 1 => by
    rw [← mul_step (fiO F) a.h n, v_pow a n]; rfl
theorem pow_tw (a : El F) : a ^ F.p.toNat = tw 1 a := El.eq (by
  rw [← v_pow, ← turn_1 (fiO F)]; rfl)
/-- an element by its number -/
def toE {x : Int} (h : InF F x) : El F := ⟨x, h⟩
def ofB (F : FD) [Fi F] (c : Int) : El F := ⟨c % F.p, md_InF (fiO F) c⟩
end
end TP
/-! PFi -/
set_option maxHeartbeats 0
namespace TP
open PySem PySem.Spec PyProof.Rows L2
end TP
/-! PFj -/
set_option maxHeartbeats 0
/-! # Fields: what turned once stays is a base figure -/
namespace TP
open PySem PySem.Spec PyProof.Rows L2
class Fj (F : FD) : Prop extends Fi F where
  bk : ∀ x : Int, InF F x → turnF F x 1 = x → x < F.p
def baseB (F : FD) (size : Nat) : Bool := (List.range size).all fun x => decide (turnF F (x : Int) 1 = (x : Int) → (x : Int) < F.p)
end TP
/-! GP1 -/
set_option maxHeartbeats 4000000
namespace TP
open PySem PySem.Spec PyProof.Rows L2
variable {K : Fr}
/-! end_of -/
def w_end_of : WS := (wRet (wCB fMax (wCons (wLc [2, 3] [2, 3] (wEnum (wCons (wMeth isFld c_Field_dot_figures_of (wVar 0) (wCons (wVar 1) wNil)) wNil)) (wTest (wOp fNeA (wVarB 3) (wC (.int 0)))) (wVar 2)) wNil)))
def c_end_of : WC := cD 2 4 w_end_of
def sp_end_of (K : Fr) : Sp := spD K .fz c_end_of
def t_end_of (K : Fr) : TS := (tRet (tCB (rMax K) (tCons (tLc (iEnumA K (tCons (tMeth (He.ga K "Field") "figures_of" (sp_Field_dot_figures_of K) [] E0 (tVar 0) (tCons (tVar 1) tNil)) tNil)) (gTup K 2 (gCons (gName 2) (gCons (gName 3) gNil))) (tTest (tOp (rNeA K) (tVar 3) (tC (.int 0)))) (tVar 2) [2, 3]) tNil)))
/-! cleared -/
def w_cleared : WS := (wSeq (wAsg 3 (wOp fIx (wMeth isFld c_Field_dot_figures_of (wVar 0) (wCons (wVar 1) wNil)) (wCall c_end_of (wCons (wVar 0) (wCons (wVar 2) wNil))))) (wRet (wMeth isFld c_Field_dot_taken (wVar 0) (wCons (wVar 1) (wCons (wMeth isFld c_Field_dot_multiplied (wVar 0) (wCons (wVar 3) (wCons (wVar 2) wNil))) wNil)))))
def c_cleared : WC := cD 3 4 w_cleared
def sp_cleared (K : Fr) : Sp := spD K .fz c_cleared
def t_cleared (K : Fr) : TS := (tSeq (tAsg (tOp (rIxA K) (tMeth (He.ga K "Field") "figures_of" (sp_Field_dot_figures_of K) [] E0 (tVar 0) (tCons (tVar 1) tNil)) (tCall (sp_end_of K) [] E0 (tCons (tVar 0) (tCons (tVar 2) tNil)))) (gName 3)) (tRet (tMeth (He.ga K "Field") "taken" (sp_Field_dot_taken K) [] E0 (tVar 0) (tCons (tVar 1) (tCons (tMeth (He.ga K "Field") "multiplied" (sp_Field_dot_multiplied K) [] E0 (tVar 0) (tCons (tVar 3) (tCons (tVar 2) tNil))) tNil)))))
/-! left_by -/
def w_left_by : WS := (wSeq (wFor [3] [3] (wEach (wVar 1)) (wAsg 2 (wCall c_cleared (wCons (wVar 0) (wCons (wVar 2) (wCons (wVar 3) wNil)))))) (wRet (wVar 2)))
def c_left_by : WC := cD 3 4 w_left_by
def sp_left_by (K : Fr) : Sp := spD K .fz c_left_by
def t_left_by (K : Fr) : TS := (tSeq (tFor (iSeq K (tVar 1)) (gName 3) (tAsg (tCall (sp_cleared K) [] E0 (tCons (tVar 0) (tCons (tVar 2) (tCons (tVar 3) tNil)))) (gName 2))) (tRet (tVar 2)))
/-! steps_of -/
def w_steps_of : WS := (wSeq (wAsg 2 (wLst wNil)) (wSeq (wFor [3] [3, 4, 5, 6] (wEach (wVar 1)) (wSeq (wAsg 4 (wCall c_left_by (wCons (wVar 0) (wCons (wVar 2) (wCons (wVar 3) wNil))))) (wIfS (wTest (wOp fNeA (wVarB 4) (wC (.int 0)))) (wSeq (wAsg 5 (wOp fIx (wMeth isFld c_Field_dot_figures_of (wVar 0) (wCons (wVar 4) wNil)) (wCall c_end_of (wCons (wVar 0) (wCons (wVar 4) wNil))))) (wSeq (wAsg 6 (wMeth isFld c_Field_dot_divided (wVar 0) (wCons (wVar 4) (wCons (wVar 5) wNil)))) (wAsg 2 (wOp fCat (wLc [7] [7] (wEach (wVar 2)) wYes (wCall c_cleared (wCons (wVar 0) (wCons (wVar 7) (wCons (wVar 6) wNil))))) (wLst (wCons (wVar 6) wNil)))))) wNext))) (wRet (wCB fSorted (wCons (wVarB 2) wNil)))))
def c_steps_of : WC := cN 2 8 w_steps_of
def sp_steps_of (K : Fr) : Sp := spD K .nw c_steps_of
def t_steps_of (K : Fr) : TS := (tSeq (tAsg (tLst tNil) (gName 2)) (tSeq (tFor (iSeq K (tVar 1)) (gName 3) (tSeq (tAsg (tCall (sp_left_by K) [] E0 (tCons (tVar 0) (tCons (tVar 2) (tCons (tVar 3) tNil)))) (gName 4)) (tIfS (tTest (tOp (rNeA K) (tVar 4) (tC (.int 0)))) (tSeq (tAsg (tOp (rIxA K) (tMeth (He.ga K "Field") "figures_of" (sp_Field_dot_figures_of K) [] E0 (tVar 0) (tCons (tVar 4) tNil)) (tCall (sp_end_of K) [] E0 (tCons (tVar 0) (tCons (tVar 4) tNil)))) (gName 5)) (tSeq (tAsg (tMeth (He.ga K "Field") "divided" (sp_Field_dot_divided K) [] E0 (tVar 0) (tCons (tVar 4) (tCons (tVar 5) tNil))) (gName 6)) (tAsg (tOp rCat (tLc (iSeq K (tVar 2)) (gName 7) tYes (tCall (sp_cleared K) [] E0 (tCons (tVar 0) (tCons (tVar 7) (tCons (tVar 6) tNil)))) [7]) (tLst (tCons (tVar 6) tNil))) (gName 2)))) tNext))) (tRet (tCB (rSortedI K) (tCons (tVar 2) tNil)))))
/-! are_some_of -/
def w_are_some_of : WS := (wRet (wAndV (wCall c_are_below (wCons (wVar 1) (wCons (wProp isFld c_Field_dot_size (wVar 0)) wNil))) (wOp fLe (wCB fLen (wCons (wVarB 1) wNil)) (wVarB 2))))
def c_are_some_of : WC := cD 3 3 w_are_some_of
def sp_are_some_of (K : Fr) : Sp := spD K .fz c_are_some_of
def t_are_some_of (K : Fr) : TS := (tRet (tAndV (tCall (sp_are_below K) [] E0 (tCons (tVar 1) (tCons (tProp (He.ga K "Field") (sp_Field_dot_size K) [] E0 (tVar 0)) tNil))) (tOp rLeI (tCB (rLenA K) (tCons (tVar 1) tNil)) (tVar 2))))
/-! check_some -/
def w_check_some : WS := (wIfS (wNot (wTest (wCall c_are_some_of (wCons (wVar 0) (wCons (wVar 1) (wCons (wC (.int 12)) wNil)))))) wNever wNext)
def c_check_some : WC := cD 2 2 w_check_some
def sp_check_some (K : Fr) : Sp := spD K .fz c_check_some
def t_check_some (K : Fr) : TS := (tIfS (tNot (tB (tCall (sp_are_some_of K) [] E0 (tCons (tVar 0) (tCons (tVar 1) (tCons (tC (.int 12)) tNil)))))) tNever tNext)
/-! rank -/
def w_rank : WS := (wSeq (wDrop (wCall c_check_field (wCons (wVar 0) wNil))) (wSeq (wDrop (wCall c_check_some (wCons (wVar 0) (wCons (wVar 1) wNil)))) (wRet (wCB fLen (wCons (wCall c_steps_of (wCons (wVar 0) (wCons (wVar 1) wNil))) wNil)))))
def c_rank : WC := cD 2 2 w_rank
def sp_rank (K : Fr) : Sp := spD K .fz c_rank
def t_rank (K : Fr) : TS := (tSeq (tDrop (tCall (sp_check_field K) [] E0 (tCons (tVar 0) tNil))) (tSeq (tDrop (tCall (sp_check_some K) [] E0 (tCons (tVar 0) (tCons (tVar 1) tNil)))) (tRet (tCB (rLenA K) (tCons (tCall (sp_steps_of K) [] E0 (tCons (tVar 0) (tCons (tVar 1) tNil))) tNil)))))
/-! are_free -/
def w_are_free : WS := (wRet (wOp fEqA (wCall c_rank (wCons (wVar 0) (wCons (wVar 1) wNil))) (wCB fLen (wCons (wVarB 1) wNil))))
def c_are_free : WC := cD 2 2 w_are_free
def sp_are_free (K : Fr) : Sp := spD K .fz c_are_free
def t_are_free (K : Fr) : TS := (tRet (tOp (rEqA K) (tCall (sp_rank K) [] E0 (tCons (tVar 0) (tCons (tVar 1) tNil))) (tCB (rLenA K) (tCons (tVar 1) tNil))))
/-! check_figures -/
def w_check_figures : WS := (wIfS (wOr (wNot (wTest (wCall c_are_below (wCons (wVar 1) (wCons (wProp isFld c_Field_dot_prime (wVar 0)) wNil))))) (wTest (wOp fNeA (wCB fLen (wCons (wVarB 1) wNil)) (wVarB 2)))) wNever wNext)
def c_check_figures : WC := cD 3 3 w_check_figures
def sp_check_figures (K : Fr) : Sp := spD K .fz c_check_figures
def t_check_figures (K : Fr) : TS := (tIfS (tOr (tNot (tB (tCall (sp_are_below K) [] E0 (tCons (tVar 1) (tCons (tProp (He.ga K "Field") (sp_Field_dot_prime K) [] E0 (tVar 0)) tNil))))) (tTest (tOp (rNeA K) (tCB (rLenA K) (tCons (tVar 1) tNil)) (tVar 2)))) tNever tNext)
/-! mixed -/
def w_mixed : WS := (wSeq (wAsg 3 (wC (.int 0))) (wSeq (wFor [4, 5] [4, 5] (wZip (wCons (wVar 1) (wCons (wVar 2) wNil))) (wAsg 3 (wMeth isFld c_Field_dot_added (wVar 0) (wCons (wVar 3) (wCons (wMeth isFld c_Field_dot_multiplied (wVar 0) (wCons (wVar 5) (wCons (wVar 4) wNil))) wNil))))) (wRet (wVar 3))))
def c_mixed : WC := cD 3 6 w_mixed
def sp_mixed (K : Fr) : Sp := spD K .fz c_mixed
def t_mixed (K : Fr) : TS := (tSeq (tAsg (tC (.int 0)) (gName 3)) (tSeq (tFor (iZipM K (tCons (tVar 1) (tCons (tVar 2) tNil))) (gTup K 2 (gCons (gName 4) (gCons (gName 5) gNil))) (tAsg (tMeth (He.ga K "Field") "added" (sp_Field_dot_added K) [] E0 (tVar 0) (tCons (tVar 3) (tCons (tMeth (He.ga K "Field") "multiplied" (sp_Field_dot_multiplied K) [] E0 (tVar 0) (tCons (tVar 5) (tCons (tVar 4) tNil))) tNil))) (gName 3))) (tRet (tVar 3))))
/-! mixture -/
def w_mixture : WS := (wSeq (wDrop (wCall c_check_field (wCons (wVar 0) wNil))) (wSeq (wDrop (wCall c_check_some (wCons (wVar 0) (wCons (wVar 1) wNil)))) (wSeq (wDrop (wCall c_check_figures (wCons (wVar 0) (wCons (wVar 2) (wCons (wCB fLen (wCons (wVarB 1) wNil)) wNil))))) (wRet (wCall c_mixed (wCons (wVar 0) (wCons (wVar 1) (wCons (wVar 2) wNil))))))))
def c_mixture : WC := cD 3 3 w_mixture
def sp_mixture (K : Fr) : Sp := spD K .fz c_mixture
def t_mixture (K : Fr) : TS := (tSeq (tDrop (tCall (sp_check_field K) [] E0 (tCons (tVar 0) tNil))) (tSeq (tDrop (tCall (sp_check_some K) [] E0 (tCons (tVar 0) (tCons (tVar 1) tNil)))) (tSeq (tDrop (tCall (sp_check_figures K) [] E0 (tCons (tVar 0) (tCons (tVar 2) (tCons (tCB (rLenA K) (tCons (tVar 1) tNil)) tNil))))) (tRet (tCall (sp_mixed K) [] E0 (tCons (tVar 0) (tCons (tVar 1) (tCons (tVar 2) tNil))))))))
end TP
/-! GP2 -/
set_option maxHeartbeats 4000000
namespace TP
open PySem PySem.Spec PyProof.Rows L2
variable {K : Fr}
/-! check_turner -/
def w_check_turner : WS := (wIfS (wNot (wTest (wCall c_are_some_of (wCons (wVar 0) (wCons (wVar 1) (wCons (wC (.int 13)) wNil)))))) wNever wNext)
def c_check_turner : WC := cD 2 2 w_check_turner
def sp_check_turner (K : Fr) : Sp := spD K .fz c_check_turner
def t_check_turner (K : Fr) : TS := (tIfS (tNot (tB (tCall (sp_are_some_of K) [] E0 (tCons (tVar 0) (tCons (tVar 1) (tCons (tC (.int 13)) tNil)))))) tNever tNext)
/-! check_turners -/
def w_check_turners : WS := (wSeq (wDrop (wCall c_check_field (wCons (wVar 0) wNil))) (wSeq (wDrop (wCall c_check_turner (wCons (wVar 0) (wCons (wVar 1) wNil)))) (wDrop (wCall c_check_turner (wCons (wVar 0) (wCons (wVar 2) wNil))))))
def c_check_turners : WC := cD 3 3 w_check_turners
def sp_check_turners (K : Fr) : Sp := spD K .fz c_check_turners
def t_check_turners (K : Fr) : TS := (tSeq (tDrop (tCall (sp_check_field K) [] E0 (tCons (tVar 0) tNil))) (tSeq (tDrop (tCall (sp_check_turner K) [] E0 (tCons (tVar 0) (tCons (tVar 1) tNil)))) (tDrop (tCall (sp_check_turner K) [] E0 (tCons (tVar 0) (tCons (tVar 2) tNil))))))
/-! told -/
def w_told : WS := (wSeq (wDrop (wCall c_check_field (wCons (wVar 0) wNil))) (wSeq (wDrop (wCall c_check_turner (wCons (wVar 0) (wCons (wVar 1) wNil)))) (wRet (wCall c_without_noughts (wCons (wVar 1) wNil)))))
def c_told : WC := cN 2 2 w_told
def sp_told (K : Fr) : Sp := spD K .nw c_told
def t_told (K : Fr) : TS := (tSeq (tDrop (tCall (sp_check_field K) [] E0 (tCons (tVar 0) tNil))) (tSeq (tDrop (tCall (sp_check_turner K) [] E0 (tCons (tVar 0) (tCons (tVar 1) tNil)))) (tRet (tCall (sp_without_noughts K) [] E0 (tCons (tVar 1) tNil)))))
/-! filled -/
def w_filled : WS := (wRet (wOp fCat (wCB fList (wCons (wVarB 0) wNil)) (wOp fRep (wLst (wCons (wC (.int 0)) wNil)) (wOp fSub (wVarB 1) (wCB fLen (wCons (wVarB 0) wNil))))))
def c_filled : WC := cN 2 2 w_filled
def sp_filled (K : Fr) : Sp := spD K .nw c_filled
def t_filled (K : Fr) : TS := (tRet (tOp rCat (tCB (rListA K) (tCons (tVar 0) tNil)) (tOp rRep (tLst (tCons (tC (.int 0)) tNil)) (tOp rSubI (tVar 1) (tCB (rLenA K) (tCons (tVar 0) tNil))))))
/-! pairs_of -/
def w_pairs_of : WS := (wSeq (wAsg 2 (wCB fMax2 (wCons (wCB fLen (wCons (wVarB 0) wNil)) (wCons (wCB fLen (wCons (wVarB 1) wNil)) wNil)))) (wRet (wListZp (wCons (wCall c_filled (wCons (wVar 0) (wCons (wVar 2) wNil))) (wCons (wCall c_filled (wCons (wVar 1) (wCons (wVar 2) wNil))) wNil)))))
def c_pairs_of : WC := cD 2 3 w_pairs_of
def sp_pairs_of (K : Fr) : Sp := spD K .fz c_pairs_of
def t_pairs_of (K : Fr) : TS := (tSeq (tAsg (tCB (rMax2) (tCons (tCB (rLenA K) (tCons (tVar 0) tNil)) (tCons (tCB (rLenA K) (tCons (tVar 1) tNil)) tNil))) (gName 2)) (tRet (tListZip K (tCons (tCall (sp_filled K) [] E0 (tCons (tVar 0) (tCons (tVar 2) tNil))) (tCons (tCall (sp_filled K) [] E0 (tCons (tVar 1) (tCons (tVar 2) tNil))) tNil)))))
/-! less -/
def w_less : WS := (wSeq (wDrop (wCall c_check_turners (wCons (wVar 0) (wCons (wVar 1) (wCons (wVar 2) wNil))))) (wRet (wCall c_without_noughts (wCons (wLc [3, 4] [3, 4] (wEachN 2 (wCall c_pairs_of (wCons (wVar 1) (wCons (wVar 2) wNil)))) wYes (wMeth isFld c_Field_dot_taken (wVar 0) (wCons (wVar 3) (wCons (wVar 4) wNil)))) wNil))))
def c_less : WC := cN 3 5 w_less
def sp_less (K : Fr) : Sp := spD K .nw c_less
def t_less (K : Fr) : TS := (tSeq (tDrop (tCall (sp_check_turners K) [] E0 (tCons (tVar 0) (tCons (tVar 1) (tCons (tVar 2) tNil))))) (tRet (tCall (sp_without_noughts K) [] E0 (tCons (tLc (iSeq K (tCall (sp_pairs_of K) [] E0 (tCons (tVar 1) (tCons (tVar 2) tNil)))) (gTup K 2 (gCons (gName 3) (gCons (gName 4) gNil))) tYes (tMeth (He.ga K "Field") "taken" (sp_Field_dot_taken K) [] E0 (tVar 0) (tCons (tVar 3) (tCons (tVar 4) tNil))) [3, 4]) tNil))))
/-! worth -/
def w_worth : WS := (wSeq (wDrop (wCall c_check_field (wCons (wVar 0) wNil))) (wSeq (wDrop (wCall c_check_turner (wCons (wVar 0) (wCons (wVar 1) wNil)))) (wSeq (wDrop (wCall c_check_one (wCons (wVar 0) (wCons (wVar 2) wNil)))) (wSeq (wAsg 3 (wC (.int 0))) (wSeq (wFor [4, 5] [4, 5] (wEnum (wCons (wVar 1) wNil)) (wAsg 3 (wMeth isFld c_Field_dot_added (wVar 0) (wCons (wVar 3) (wCons (wMeth isFld c_Field_dot_multiplied (wVar 0) (wCons (wVar 5) (wCons (wMeth isFld c_Field_dot_turned (wVar 0) (wCons (wVar 2) (wCons (wVar 4) wNil))) wNil))) wNil))))) (wRet (wVar 3)))))))
def c_worth : WC := cD 3 6 w_worth
def sp_worth (K : Fr) : Sp := spD K .fz c_worth
def t_worth (K : Fr) : TS := (tSeq (tDrop (tCall (sp_check_field K) [] E0 (tCons (tVar 0) tNil))) (tSeq (tDrop (tCall (sp_check_turner K) [] E0 (tCons (tVar 0) (tCons (tVar 1) tNil)))) (tSeq (tDrop (tCall (sp_check_one K) [] E0 (tCons (tVar 0) (tCons (tVar 2) tNil)))) (tSeq (tAsg (tC (.int 0)) (gName 3)) (tSeq (tFor (iEnumA K (tCons (tVar 1) tNil)) (gTup K 2 (gCons (gName 4) (gCons (gName 5) gNil))) (tAsg (tMeth (He.ga K "Field") "added" (sp_Field_dot_added K) [] E0 (tVar 0) (tCons (tVar 3) (tCons (tMeth (He.ga K "Field") "multiplied" (sp_Field_dot_multiplied K) [] E0 (tVar 0) (tCons (tVar 5) (tCons (tMeth (He.ga K "Field") "turned" (sp_Field_dot_turned K) [] E0 (tVar 0) (tCons (tVar 2) (tCons (tVar 4) tNil))) tNil))) tNil))) (gName 3))) (tRet (tVar 3)))))))
end TP
/-! GP3 -/
set_option maxHeartbeats 4000000
namespace TP
open PySem PySem.Spec PyProof.Rows L2
variable {K : Fr}
/-! full_row -/
def w_full_row : WS := (wSeq (wAsg 2 (wCall c_told (wCons (wVar 0) (wCons (wVar 1) wNil)))) (wSeq (wAsgO 3 (wOp fRep (wLst (wCons (wC (.int 0)) wNil)) (wProp isFld c_Field_dot_turns (wVar 0)))) (wSeq (wFor [4, 5] [4, 5] (wEnum (wCons (wVar 2) wNil)) (wPut 3 (wMeth isFld c_Field_dot_added (wVar 0) (wCons (wOp fIx (wVarB 3) (wOp fMod (wVarB 4) (wProp isFld c_Field_dot_turns (wVar 0)))) (wCons (wVar 5) wNil))) (wOp fMod (wVarB 4) (wProp isFld c_Field_dot_turns (wVar 0))))) (wRetO 3))))
def c_full_row : WC := cN 2 6 w_full_row
def sp_full_row (K : Fr) : Sp := spD K .nw c_full_row
def t_full_row (K : Fr) : TS := (tSeq (tAsg (tCall (sp_told K) [] E0 (tCons (tVar 0) (tCons (tVar 1) tNil))) (gName 2)) (tSeq (tAsg (tOp rRep (tLst (tCons (tC (.int 0)) tNil)) (tProp (He.ga K "Field") (sp_Field_dot_turns K) [] E0 (tVar 0))) (gName 3)) (tSeq (tFor (iEnumA K (tCons (tVar 2) tNil)) (gTup K 2 (gCons (gName 4) (gCons (gName 5) gNil))) (tAsg (tMeth (He.ga K "Field") "added" (sp_Field_dot_added K) [] E0 (tVar 0) (tCons (tOp (rIxA K) (tVar 3) (tOp rModI (tVar 4) (tProp (He.ga K "Field") (sp_Field_dot_turns K) [] E0 (tVar 0)))) (tCons (tVar 5) tNil))) (gSub (tVar 3) (tOp rModI (tVar 4) (tProp (He.ga K "Field") (sp_Field_dot_turns K) [] E0 (tVar 0))) rSetL))) (tRet (tVar 3)))))
/-! as_map -/
def w_as_map : WS := (wRet (wCall c_without_noughts (wCons (wCall c_full_row (wCons (wVar 0) (wCons (wVar 1) wNil))) wNil)))
def c_as_map : WC := cN 2 2 w_as_map
def sp_as_map (K : Fr) : Sp := spD K .nw c_as_map
def t_as_map (K : Fr) : TS := (tRet (tCall (sp_without_noughts K) [] E0 (tCons (tCall (sp_full_row K) [] E0 (tCons (tVar 0) (tCons (tVar 1) tNil))) tNil)))
/-! are_one_map -/
def w_are_one_map : WS := (wRet (wOp fEqA (wCall c_as_map (wCons (wVar 0) (wCons (wVar 1) wNil))) (wCall c_as_map (wCons (wVar 0) (wCons (wVar 2) wNil)))))
def c_are_one_map : WC := cD 3 3 w_are_one_map
def sp_are_one_map (K : Fr) : Sp := spD K .fz c_are_one_map
def t_are_one_map (K : Fr) : TS := (tRet (tOp (rEqA K) (tCall (sp_as_map K) [] E0 (tCons (tVar 0) (tCons (tVar 1) tNil))) (tCall (sp_as_map K) [] E0 (tCons (tVar 0) (tCons (tVar 2) tNil)))))
end TP
/-! PS1 -/
set_option maxHeartbeats 4000000
namespace TP
open PySem PySem.Spec PyProof.Rows L2
local macro_rules | `(tactic| walk_at "w") => `(tactic| try simp only [wSeq, wNext, wRet, wRetO, wDrop, wAsg, wAsgO, wFz, wPar, wParO, wParO2, wPar3, wUnp, wAug, wApp, wExt, wPop, wPopD, wPut, wIfS, wFor, wC, wVar, wVarB, wOp, wUn, wCons, wNil, wLst, wTup, wCB, wCall, wCallB, wCallBN, wCallN, wCallNB, wCallNBN, wMeth, wProp, wEach, wEachN, wEnum, wZip, wRng1, wRng2, wDown, wLc, wTest, wAnd, wOr, wNot, wAndV, wOrV, wNotV, wIf, wChain, wSl, wPart, wNoPart,
  fI0, fII, fNeg, fCat, fRep, fIx, fLen_lst, fLen_tup, fAbs, fInt, fMax2, fMin2, fDivmod, fList, fTuple, fRev, D.seq_lst, D.seq_tup, setsG, wipeG, List.getElem?_cons_succ, List.getElem?_cons_zero, List.set_cons_succ, List.set_cons_zero, List.length_map, List.length_cons, List.length_nil,
  fEqA_int, fNeA_int, fEqA_li, fNeA_li, fEqA_str, fNeA_str, fIn_li, atI_li, isFld, true_and, enum_li, zip_li, each_li, D.ints_map, D.bls_map, fInts_li, li_app, li_snoc, li_set, li_rev,
  c_Field_dot_size, c_Field_dot_turns, c_Field_dot_figures_of, cII, cAny, cIN, cI, c_check_field, c_check_one, c_check_many, c_Field_dot_prime, c_Field_dot_divided, c_law_draw, D.flat, D.flatL, and_true])
variable {F : FD} {Q : D → Prop}

/-- a list of elements, or a tuple -/
def DI (d : D) (l : List Int) : Prop := d = .lst (l.map .int) ∨ d = .tup (l.map .int)
theorem DI.ints {d : D} {l : List Int} (h : DI d l) : d.intsA = some l := by
  rcases h with rfl | rfl <;> exact D.ints_map l
theorem s_are_below {d : D} {l : List Int} {n : Int} (h : DI d l) (hl : l.length ≤ 100000) (q : Q (.bl (l.all (belowI n)))) : c_are_below [d, .int n] Q := by
  unfold c_are_below
  simp only [h.ints]
  exact ⟨hl, q⟩
def mixF (F : FD) (l cs : List Int) : Int := (l.zip cs).foldl (fun t z => addF F t (mulF F z.2 z.1)) 0
/-- figures -/
def Fgs (F : FD) (cs : List Int) : Prop := ∀ c ∈ cs, 0 ≤ c ∧ c < F.p
end TP
/-! PS2 -/
set_option maxHeartbeats 4000000
namespace TP
open PySem PySem.Spec PyProof.Rows L2
theorem c_wnl (l : List Int) (Q : D → Prop) : c_without_noughts [.lst (l.map D.int)] Q = (l.length ≤ 100000 ∧ Q (Li (wn l))) := by
  unfold c_without_noughts
  simp only [D.ints_map]
theorem c_wnt (l : List Int) (Q : D → Prop) : c_without_noughts [.tup (l.map D.int)] Q = (l.length ≤ 100000 ∧ Q (Li (wn l))) := by
  unfold c_without_noughts
  simp only [D.ints_map]
local macro_rules | `(tactic| walk_at "w") => `(tactic| try simp only [wSeq, wNext, wRet, wRetO, wDrop, wAsg, wAsgO, wFz, wPar, wParO, wParO2, wPar3, wUnp, wAug, wApp, wExt, wPop, wPopD, wPut, wIfS, wFor, wC, wVar, wVarB, wOp, wUn, wCons, wNil, wLst, wTup, wCB, wCall, wCallB, wCallBN, wCallN, wCallNB, wCallNBN, wMeth, wProp, wEach, wEachN, wEnum, wZip, wRng1, wRng2, wDown, wLc, wTest, wAnd, wOr, wNot, wAndV, wOrV, wNotV, wIf, wChain, wSl, wPart, wNoPart,
  fI0, fII, fNeg, fCat, fRep, fIx, fLen_lst, fLen_tup, fAbs, fInt, fMax2, fMin2, fDivmod, fList, fTuple, fRev, fRepr, fIsB, fMake, wListRg1, wListZp, c_wnl, c_wnt, D.seq_lst, D.seq_tup, setsG, wipeG, List.getElem?_cons_succ, List.getElem?_cons_zero, List.set_cons_succ, List.set_cons_zero, List.length_map, List.length_cons, List.length_nil,
  fEqA_int, fNeA_int, fEqA_li, fNeA_li, fEqA_str, fNeA_str, fIn_li, atI_li, isFld, true_and, enum_li, zip_li, each_li, D.ints_map, D.bls_map, fInts_li, li_app, li_snoc, li_set, li_rev,
  c_Field_dot_size, c_Field_dot_turns, c_Field_dot_figures_of, cII, cAny, cIN, cI, c_check_field, c_check_one, c_check_many, c_Field_dot_prime, c_Field_dot_divided, c_law_draw, D.flat, D.flatL, and_true])
variable {F : FD} {Q : D → Prop}
def mx (a b : List Int) : Nat := if a.length < b.length then b.length else a.length
end TP
/-! EQ -/
set_option maxHeartbeats 4000000
namespace TP
open PySem PySem.Spec PyProof.Rows L2
/-! # Rows of elements as data -/
section
variable {F : FD}
def vs (a : List (El F)) : List Int := a.map El.v
theorem vs_len (a : List (El F)) : (vs a).length = a.length := List.length_map _
theorem vs_in (a : List (El F)) : AllIn F (vs a) := fun x hx => by
  obtain ⟨e, _, rfl⟩ := List.mem_map.mp hx
  exact e.h
theorem vs_inj {a b : List (El F)} (h : vs a = vs b) : a = b := by
  induction a generalizing b with
  | nil =>
    cases b with
    | nil => rfl
    | cons y s => cases h
  | cons x r ih =>
    cases b with
    | nil => cases h
    | cons y s =>
      have := List.cons.inj h
      rw [El.eq this.1, ih this.2]
theorem vs_map0 (a : List (El F)) : a.map El.v = vs a := rfl
theorem vs_nil : vs ([] : List (El F)) = [] := rfl
theorem vs_of {l : List Int} (h : AllIn F l) : ∃ a : List (El F), l = vs a := by
  induction l with
  | nil => exact ⟨[], rfl⟩
  | cons x r ih =>
    obtain ⟨a, e⟩ := ih fun y hy => h y (List.mem_cons_of_mem _ hy)
    exact ⟨⟨x, h x List.mem_cons_self⟩ :: a, congrArg (x :: ·) e⟩
abbrev LE (a : List (El F)) : D := .lst ((vs a).map D.int)
theorem fEqA_le (a b : List (El F)) (Q : D → Prop) : fEqA (.lst ((vs a).map D.int)) (.lst ((vs b).map D.int)) Q = Q (.bl (decide (a = b))) := by
  rw [fEqA_li]
  have : decide (vs a = vs b) = decide (a = b) := by
    by_cases c : a = b
    · rw [decide_eq_true c, c, decide_eq_true rfl]
    · rw [decide_eq_false c, decide_eq_false fun h => c (vs_inj h)]
  rw [this]
theorem fNeA_le (a b : List (El F)) (Q : D → Prop) : fNeA (.lst ((vs a).map D.int)) (.lst ((vs b).map D.int)) Q = Q (.bl (!decide (a = b))) := by
  rw [fNeA_li]
  have : decide (vs a = vs b) = decide (a = b) := by
    by_cases c : a = b
    · rw [decide_eq_true c, c, decide_eq_true rfl]
    · rw [decide_eq_false c, decide_eq_false fun h => c (vs_inj h)]
  rw [this]
theorem fEqA_nl (l : List Int) (Q : D → Prop) : fEqA (.lst (l.map D.int)) (.lst []) Q = Q (.bl (decide (l = []))) := fEqA_li l [] Q
theorem fNeA_nl (l : List Int) (Q : D → Prop) : fNeA (.lst (l.map D.int)) (.lst []) Q = Q (.bl (!decide (l = []))) := fNeA_li l [] Q
theorem vs_eq_nil (a : List (El F)) : (vs a = []) = (a = []) := by
  cases a with
  | nil => simp [vs]
  | cons x r => simp [vs]
theorem flat_li (l : List Int) : (l.map D.int).all D.flat = true := by
  rw [List.all_map]
  exact List.all_eq_true.mpr fun _ _ => rfl
theorem at2_0 (a b : D) : atI [a, b] 0 = some a := rfl
theorem at2_1 (a b : D) : atI [a, b] 1 = some b := rfl
theorem at3_0 (a b c : D) : atI [a, b, c] 0 = some a := rfl
theorem at3_1 (a b c : D) : atI [a, b, c] 1 = some b := rfl
theorem at3_2 (a b c : D) : atI [a, b, c] 2 = some c := rfl
variable [Fi F]
theorem vs_cf (a : List (El F)) (i : Nat) : (vs a).getD i 0 = (cf a i).v := by
  unfold cf vs
  rw [List.getD_eq_getElem?_getD, List.getD_eq_getElem?_getD, List.getElem?_map]
  cases a[i]? <;> rfl
theorem vs_tr : ∀ a : List (El F), wn (vs a) = vs (tr a)
  | [] => rfl
  | x :: r => by
    show wn (x.v :: vs r) = vs (if tr r = [] ∧ x = 0 then [] else x :: tr r)
    rw [wn_cons, vs_tr r]
    generalize tr r = t
    by_cases c : t = []
    · subst c
      rw [if_pos vs_nil]
      by_cases d : x = 0
      · rw [if_pos (v_eq0.mpr d), if_pos ⟨rfl, d⟩]; rfl
      · rw [if_neg fun z => d (v_eq0.mp z), if_neg fun z => d z.2]; rfl
    · rw [if_neg (by rw [vs_eq_nil]; exact c), if_neg fun z => c z.1]; rfl
/-- told -/
abbrev LP (f : P (El F)) : D := .lst ((vs f.l).map D.int)
theorem LP_mk (a : List (El F)) : vs (tr a) = vs (mkP a).l := rfl
theorem worth_wo : ∀ (a : List (El F)) (z : El F) (i : Nat) (s : El F), wG F z.v i s.v (vs a) = (s + wo a (tw (i : Int) z)).v
  | [], z, i, s => by
    show s.v = (s + (0 : El F)).v
    rw [show s + (0 : El F) = s by grind]
  | x :: r, z, i, s => by
    show wG F z.v (i + 1) (addF F s.v (mulF F x.v (turnF F z.v (i : Int)))) (vs r) = _
    rw [v_tw, v_mul, v_add, worth_wo r z (i + 1)]
    congr 1
    show _ = s + (x * tw (i : Int) z + wo r (tw 1 (tw (i : Int) z)))
    rw [tw_tw, show (1 : Int) + (i : Int) = ((i + 1 : Nat) : Int) by omega]
    grind
theorem worth_P (a : List (El F)) (z : El F) : worthF F (vs a) z.v = ((mkP a).wo z).v := by
  unfold worthF
  have := worth_wo a z 0 0
  rw [mk_wo]
  rw [v_0, show ((0 : Nat) : Int) = 0 from rfl, tw_z, show (0 : El F) + wo a z = wo a z by grind] at this
  exact this
/-! loops: what changes of the environment alone is told -/
theorem for_rngE {js junk : List Nat} {body : WS} {E : WEnds} {S : Type} {ρ0 : GE} (f : S → GE → GE) (item : Nat → List D) (P : Nat → S → Prop) {n : Nat}
    (hb : ∀ i, i < n → ∀ s, P i s → ∀ (N B : GE → Prop) (R : D → Prop), (∀ s', P (i + 1) s' → N (f s' ρ0)) → body { nx := fun ρ' => N (wipeG ρ' junk), rt := R, ct := fun ρ' => N (wipeG ρ' junk), bk := B } (setsG (f s ρ0) js (item i)))
    (hq : ∀ s, P n s → E.nx (f s ρ0)) (s : S) (h : P 0 s) (e : f s ρ0 = ρ0 := by rfl) : wForGo js junk body E ((List.range n).map item) ρ0 := by
  rw [← e]
  exact for_rng (fun s => f s ρ0) item P hb hq s h
theorem while_invE {junk : List Nat} {body : WS} {E : WEnds} {wt : WT} {S : Type} {ρ : GE} (f : S → GE → GE) (P : S → Prop) (μ : S → Nat) (s0 : S) (p0 : P s0)
    (h : ∀ s, P s → ∀ (N B : GE → Prop) (R : D → Prop), (∀ s', P s' → μ s' < μ s → N (f s' (wipeG ρ junk))) → wt (f s (wipeG ρ junk)) fun b => if b = true then body { nx := fun ρ' => N (wipeG ρ' junk), rt := E.rt, ct := fun ρ' => N (wipeG ρ' junk), bk := E.nx } (f s (wipeG ρ junk)) else E.nx (f s (wipeG ρ junk)))
    (e : f s0 (wipeG ρ junk) = wipeG ρ junk := by rfl) : wWhile junk wt body E ρ := by
  refine while_inv (fun s => f s (wipeG ρ junk)) P μ s0 e.symm p0 fun s hs => ?_
  exact h s hs (fun ρ' => ∃ s', P s' ∧ μ s' < μ s ∧ ρ' = f s' (wipeG ρ junk)) (fun _ => True) (fun _ => True) fun s' p' m' => ⟨s', p', m', rfl⟩
end
end TP
/-! GP4 -/
set_option maxHeartbeats 4000000
namespace TP
open PySem PySem.Spec PyProof.Rows L2
variable {K : Fr}
/-! degree -/
def w_degree : WS := (wRet (wOp fSub (wCB fLen (wCons (wCall c_told (wCons (wVar 0) (wCons (wVar 1) wNil))) wNil)) (wC (.int 1))))
def c_degree : WC := cD 2 2 w_degree
def sp_degree (K : Fr) : Sp := spD K .fz c_degree
def t_degree (K : Fr) : TS := (tRet (tOp rSubI (tCB (rLenA K) (tCons (tCall (sp_told K) [] E0 (tCons (tVar 0) (tCons (tVar 1) tNil))) tNil)) (tC (.int 1))))
/-! sum_of -/
def w_sum_of : WS := (wSeq (wDrop (wCall c_check_turners (wCons (wVar 0) (wCons (wVar 1) (wCons (wVar 2) wNil))))) (wRet (wCall c_without_noughts (wCons (wLc [3, 4] [3, 4] (wEachN 2 (wCall c_pairs_of (wCons (wVar 1) (wCons (wVar 2) wNil)))) wYes (wMeth isFld c_Field_dot_added (wVar 0) (wCons (wVar 3) (wCons (wVar 4) wNil)))) wNil))))
def c_sum_of : WC := cN 3 5 w_sum_of
def sp_sum_of (K : Fr) : Sp := spD K .nw c_sum_of
def t_sum_of (K : Fr) : TS := (tSeq (tDrop (tCall (sp_check_turners K) [] E0 (tCons (tVar 0) (tCons (tVar 1) (tCons (tVar 2) tNil))))) (tRet (tCall (sp_without_noughts K) [] E0 (tCons (tLc (iSeq K (tCall (sp_pairs_of K) [] E0 (tCons (tVar 1) (tCons (tVar 2) tNil)))) (gTup K 2 (gCons (gName 3) (gCons (gName 4) gNil))) tYes (tMeth (He.ga K "Field") "added" (sp_Field_dot_added K) [] E0 (tVar 0) (tCons (tVar 3) (tCons (tVar 4) tNil))) [3, 4]) tNil))))
/-! scaled -/
def w_scaled : WS := (wSeq (wDrop (wCall c_check_field (wCons (wVar 0) wNil))) (wSeq (wDrop (wCall c_check_turner (wCons (wVar 0) (wCons (wVar 1) wNil)))) (wSeq (wDrop (wCall c_check_one (wCons (wVar 0) (wCons (wVar 2) wNil)))) (wRet (wCall c_without_noughts (wCons (wLc [3] [3] (wEach (wVar 1)) wYes (wMeth isFld c_Field_dot_multiplied (wVar 0) (wCons (wVar 2) (wCons (wVar 3) wNil)))) wNil))))))
def c_scaled : WC := cN 3 4 w_scaled
def sp_scaled (K : Fr) : Sp := spD K .nw c_scaled
def t_scaled (K : Fr) : TS := (tSeq (tDrop (tCall (sp_check_field K) [] E0 (tCons (tVar 0) tNil))) (tSeq (tDrop (tCall (sp_check_turner K) [] E0 (tCons (tVar 0) (tCons (tVar 1) tNil)))) (tSeq (tDrop (tCall (sp_check_one K) [] E0 (tCons (tVar 0) (tCons (tVar 2) tNil)))) (tRet (tCall (sp_without_noughts K) [] E0 (tCons (tLc (iSeq K (tVar 1)) (gName 3) tYes (tMeth (He.ga K "Field") "multiplied" (sp_Field_dot_multiplied K) [] E0 (tVar 0) (tCons (tVar 2) (tCons (tVar 3) tNil))) [3]) tNil))))))
/-! put_together -/
def w_put_together : WS := (wSeq (wAsgO 3 (wOp fRep (wLst (wCons (wC (.int 0)) wNil)) (wOp fSub (wOp fAdd (wCB fLen (wCons (wVarB 1) wNil)) (wCB fLen (wCons (wVarB 2) wNil))) (wC (.int 1))))) (wSeq (wFor [4, 5] [4, 5, 6, 7, 8] (wEnum (wCons (wVar 1) wNil)) (wFor [6, 7] [6, 7, 8] (wEnum (wCons (wVar 2) wNil)) (wSeq (wAsg 8 (wMeth isFld c_Field_dot_multiplied (wVar 0) (wCons (wVar 5) (wCons (wMeth isFld c_Field_dot_turned (wVar 0) (wCons (wVar 7) (wCons (wVar 4) wNil))) wNil)))) (wPut 3 (wMeth isFld c_Field_dot_added (wVar 0) (wCons (wOp fIx (wVarB 3) (wOp fAdd (wVarB 4) (wVarB 6))) (wCons (wVar 8) wNil))) (wOp fAdd (wVarB 4) (wVarB 6)))))) (wRetO 3)))
def c_put_together : WC := cN 3 9 w_put_together
def sp_put_together (K : Fr) : Sp := spD K .nw c_put_together
def t_put_together (K : Fr) : TS := (tSeq (tAsg (tOp rRep (tLst (tCons (tC (.int 0)) tNil)) (tOp rSubI (tOp rAddI (tCB (rLenA K) (tCons (tVar 1) tNil)) (tCB (rLenA K) (tCons (tVar 2) tNil))) (tC (.int 1)))) (gName 3)) (tSeq (tFor (iEnumA K (tCons (tVar 1) tNil)) (gTup K 2 (gCons (gName 4) (gCons (gName 5) gNil))) (tFor (iEnumA K (tCons (tVar 2) tNil)) (gTup K 2 (gCons (gName 6) (gCons (gName 7) gNil))) (tSeq (tAsg (tMeth (He.ga K "Field") "multiplied" (sp_Field_dot_multiplied K) [] E0 (tVar 0) (tCons (tVar 5) (tCons (tMeth (He.ga K "Field") "turned" (sp_Field_dot_turned K) [] E0 (tVar 0) (tCons (tVar 7) (tCons (tVar 4) tNil))) tNil))) (gName 8)) (tAsg (tMeth (He.ga K "Field") "added" (sp_Field_dot_added K) [] E0 (tVar 0) (tCons (tOp (rIxA K) (tVar 3) (tOp rAddI (tVar 4) (tVar 6))) (tCons (tVar 8) tNil))) (gSub (tVar 3) (tOp rAddI (tVar 4) (tVar 6)) rSetL))))) (tRet (tVar 3))))
/-! put -/
def w_put : WS := (wSeq (wDrop (wCall c_check_turners (wCons (wVar 0) (wCons (wVar 1) (wCons (wVar 2) wNil))))) (wSeq (wPar 3 4 (wCall c_without_noughts (wCons (wVar 1) wNil)) (wCall c_without_noughts (wCons (wVar 2) wNil))) (wSeq (wIfS (wOr (wTest (wOp fEqA (wVarB 3) (wLst wNil))) (wTest (wOp fEqA (wVarB 4) (wLst wNil)))) (wRet (wLst wNil)) wNext) (wSeq (wIfS (wTest (wOp fGt (wOp fSub (wOp fAdd (wOp fSub (wCB fLen (wCons (wVarB 3) wNil)) (wC (.int 1))) (wCB fLen (wCons (wVarB 4) wNil))) (wC (.int 1))) (wC (.int 12)))) wNever wNext) (wRet (wCall c_put_together (wCons (wVar 0) (wCons (wVar 3) (wCons (wVar 4) wNil)))))))))
def c_put : WC := cN 3 5 w_put
def sp_put (K : Fr) : Sp := spD K .nw c_put
def t_put (K : Fr) : TS := (tSeq (tDrop (tCall (sp_check_turners K) [] E0 (tCons (tVar 0) (tCons (tVar 1) (tCons (tVar 2) tNil))))) (tSeq (tPar 3 4 (tCons (tCall (sp_without_noughts K) [] E0 (tCons (tVar 1) tNil)) (tCons (tCall (sp_without_noughts K) [] E0 (tCons (tVar 2) tNil)) tNil))) (tSeq (tIfS (tOr (tTest (tOp (rEqA K) (tVar 3) (tLst tNil))) (tTest (tOp (rEqA K) (tVar 4) (tLst tNil)))) (tRet (tLst tNil)) tNext) (tSeq (tIfS (tTest (tOp rGtI (tOp rSubI (tOp rAddI (tOp rSubI (tCB (rLenA K) (tCons (tVar 3) tNil)) (tC (.int 1))) (tCB (rLenA K) (tCons (tVar 4) tNil))) (tC (.int 1))) (tC (.int 12)))) tNever tNext) (tRet (tCall (sp_put_together K) [] E0 (tCons (tVar 0) (tCons (tVar 3) (tCons (tVar 4) tNil)))))))))
end TP
/-! PS4 -/
set_option maxHeartbeats 4000000
namespace TP
open PySem PySem.Spec PyProof.Rows L2
local macro_rules | `(tactic| walk_at "w") => `(tactic| try simp only [wSeq, wNext, wRet, wRetO, wDrop, wAsg, wAsgO, wFz, wPar, wParO, wParO2, wPar3, wUnp, wAug, wApp, wExt, wPop, wPopD, wPut, wIfS, wFor, wC, wVar, wVarB, wOp, wUn, wCons, wNil, wLst, wTup, wCB, wCall, wCallB, wCallBN, wCallN, wCallNB, wCallNBN, wMeth, wProp, wEach, wEachN, wEnum, wZip, wRng1, wRng2, wDown, wLc, wTest, wAnd, wOr, wNot, wAndV, wOrV, wNotV, wIf, wChain, wSl, wPart, wNoPart,
  fI0, fII, fNeg, fCat, fRep, fIx, fLen_lst, fLen_tup, fAbs, fInt, fMax2, fMin2, fDivmod, fList, fTuple, fRev, fRepr, fIsB, fMake, wListRg1, wListZp, c_wnl, c_wnt, D.seq_lst, D.seq_tup, setsG, wipeG, List.getElem?_cons_succ, List.getElem?_cons_zero, List.set_cons_succ, List.set_cons_zero, List.length_map, List.length_cons, List.length_nil,
  fEqA_int, fNeA_int, fEqA_li, fNeA_li, fEqA_le, fNeA_le, fEqA_nl, fNeA_nl, fEqA_str, fNeA_str, fIn_li, atI_li, isFld, true_and, enum_li, zip_li, each_li, D.ints_map, D.bls_map, fInts_li, li_app, li_snoc, li_set, li_rev, vs_len, vs_cf, vs_map0, flat_li, at2_0, at2_1, at3_0, at3_1, at3_2,
  c_Field_dot_size, c_Field_dot_turns, c_Field_dot_figures_of, cII, cAny, cIN, cI, c_check_field, c_check_one, c_check_many, c_Field_dot_prime, c_Field_dot_divided, c_law_draw, D.flat, D.flatL, and_true, v_add, v_mul, v_sub, v_tw])
variable {F : FD} [Fi F] {Q : D → Prop}
/-- a row of elements, as a list or a tuple -/
abbrev DE (d : D) (a : List (El F)) : Prop := DI d (vs a)
theorem DE.l (a : List (El F)) : DE (LE a) a := .inl rfl
theorem DE.p (f : P (El F)) : DE (LP f) f.l := .inl rfl
/-- one beside the other one, filled up -/
def pad (a : List (El F)) (n : Nat) : List (El F) := a ++ List.replicate (n - a.length) 0
/-- the pairs of two rows -/
def prs (a b : List (El F)) : D := .lst ((a.zip b).map fun z => .tup [.int z.1.v, .int z.2.v])
/-- a sequence turned and moved -/
def shn (i : Nat) (s : Sq (El F)) (m : Nat) : El F := if m < i then 0 else tw (i : Int) (s (m - i))
theorem LP_0 : LP (0 : P (El F)) = .lst [] := by rw [show LP (0 : P (El F)) = .lst ((vs (0 : P (El F)).l).map D.int) from rfl, P.zero_l]; rfl
end TP
/-! PS5 -/
set_option maxHeartbeats 4000000
namespace TP
open PySem PySem.Spec PyProof.Rows L2
local macro_rules | `(tactic| walk_at "w") => `(tactic| try simp only [wSeq, wNext, wRet, wRetO, wDrop, wAsg, wAsgO, wFz, wPar, wParO, wParO2, wPar3, wUnp, wAug, wApp, wExt, wPop, wPopD, wPut, wIfS, wFor, wC, wVar, wVarB, wOp, wUn, wCons, wNil, wLst, wTup, wCB, wCall, wCallB, wCallBN, wCallN, wCallNB, wCallNBN, wMeth, wProp, wEach, wEachN, wEnum, wZip, wRng1, wRng2, wDown, wLc, wTest, wAnd, wOr, wNot, wAndV, wOrV, wNotV, wIf, wChain, wSl, wPart, wNoPart,
  fI0, fII, fNeg, fCat, fRep, fIx, fLen_lst, fLen_tup, fAbs, fInt, fMax2, fMin2, fDivmod, fList, fTuple, fRev, fRepr, fIsB, fMake, wListRg1, wListZp, c_wnl, c_wnt, D.seq_lst, D.seq_tup, setsG, wipeG, List.getElem?_cons_succ, List.getElem?_cons_zero, List.set_cons_succ, List.set_cons_zero, List.length_map, List.length_cons, List.length_nil,
  fEqA_int, fNeA_int, fEqA_li, fNeA_li, fEqA_le, fNeA_le, fEqA_nl, fNeA_nl, fEqA_str, fNeA_str, fIn_li, atI_li, isFld, true_and, enum_li, zip_li, each_li, D.ints_map, D.bls_map, fInts_li, li_app, li_snoc, li_set, li_rev, vs_len, vs_cf, vs_map0, flat_li, at2_0, at2_1, at3_0, at3_1, at3_2,
  c_Field_dot_size, c_Field_dot_turns, c_Field_dot_figures_of, cII, cAny, cIN, cI, c_check_field, c_check_one, c_check_many, c_Field_dot_prime, c_Field_dot_divided, c_law_draw, D.flat, D.flatL, and_true, v_add, v_mul, v_sub, v_tw])
variable {F : FD} [Fi F] {Q : D → Prop}
/-- what is passed for a turn sum: a row, a tuple, with noughts behind -/
def GV (d : D) (f : P (El F)) : Prop := ∃ a : List (El F), DE d a ∧ a.length ≤ 13 ∧ mkP a = f
/-! texts -/
def Sm (d : D) : Prop := d.data 8 = true ∧ d.tame = true ∧ d.cost ≤ 20000
/-- x, turned -/
def X1 : P (El F) := mon 1 1
end TP
/-! GP5 -/
set_option maxHeartbeats 4000000
namespace TP
open PySem PySem.Spec PyProof.Rows L2
variable {K : Fr}
/-! alone_at -/
def w_alone_at : WS := (wRet (wOp fCat (wOp fRep (wLst (wCons (wC (.int 0)) wNil)) (wVarB 0)) (wLst (wCons (wVar 1) wNil))))
def c_alone_at : WC := cN 2 2 w_alone_at
def sp_alone_at (K : Fr) : Sp := spD K .nw c_alone_at
def t_alone_at (K : Fr) : TS := (tRet (tOp rCat (tOp rRep (tLst (tCons (tC (.int 0)) tNil)) (tVar 0)) (tLst (tCons (tVar 1) tNil))))
/-! step_in -/
def w_step_in : WS := (wSeq (wAsg 3 (wOp fSub (wCB fLen (wCons (wVarB 1) wNil)) (wCB fLen (wCons (wVarB 2) wNil)))) (wRet (wCall c_alone_at (wCons (wVar 3) (wCons (wMeth isFld c_Field_dot_divided (wVar 0) (wCons (wOp fIx (wVarB 1) (wUn fNeg (wC (.int 1)))) (wCons (wMeth isFld c_Field_dot_turned (wVar 0) (wCons (wOp fIx (wVarB 2) (wUn fNeg (wC (.int 1)))) (wCons (wVar 3) wNil))) wNil))) wNil)))))
def c_step_in : WC := cN 3 4 w_step_in
def sp_step_in (K : Fr) : Sp := spD K .nw c_step_in
def t_step_in (K : Fr) : TS := (tSeq (tAsg (tOp rSubI (tCB (rLenA K) (tCons (tVar 1) tNil)) (tCB (rLenA K) (tCons (tVar 2) tNil))) (gName 3)) (tRet (tCall (sp_alone_at K) [] E0 (tCons (tVar 3) (tCons (tMeth (He.ga K "Field") "divided" (sp_Field_dot_divided K) [] E0 (tVar 0) (tCons (tOp (rIxA K) (tVar 1) (tUn rNeg (tC (.int 1)))) (tCons (tMeth (He.ga K "Field") "turned" (sp_Field_dot_turned K) [] E0 (tVar 0) (tCons (tOp (rIxA K) (tVar 2) (tUn rNeg (tC (.int 1)))) (tCons (tVar 3) tNil))) tNil))) tNil)))))
/-! split_in -/
def w_split_in : WS := (wSeq (wParOO 3 4 (wLst wNil) (wCall c_told (wCons (wVar 0) (wCons (wVar 1) wNil)))) (wSeq (wWhile [5] (wTest (wOp fGe (wCB fLen (wCons (wVarB 4) wNil)) (wCB fLen (wCons (wVarB 2) wNil)))) (wSeq (wAsg 5 (wCallBN c_step_in (wCons (wVarB 0) (wCons (wVarB 4) (wCons (wVarB 2) wNil))))) (wSeq (wAsgO 3 (wCallBN c_sum_of (wCons (wVarB 0) (wCons (wVarB 3) (wCons (wVarB 5) wNil))))) (wAsgO 4 (wCallBN c_less (wCons (wVarB 0) (wCons (wVarB 4) (wCons (wCall c_put (wCons (wVar 0) (wCons (wVar 5) (wCons (wVar 2) wNil)))) wNil)))))))) (wRetT 3 4)))
def c_split_in : WC := cN 3 6 w_split_in
def sp_split_in (K : Fr) : Sp := spD K .nd c_split_in
def t_split_in (K : Fr) : TS := (tSeq (tPar 3 4 (tCons (tLst tNil) (tCons (tCall (sp_told K) [] E0 (tCons (tVar 0) (tCons (tVar 1) tNil))) tNil))) (tSeq (tWhile (tTest (tOp rGeI (tCB (rLenA K) (tCons (tVar 4) tNil)) (tCB (rLenA K) (tCons (tVar 2) tNil)))) (tSeq (tAsg (tCall (sp_step_in K) [] E0 (tCons (tVar 0) (tCons (tVar 4) (tCons (tVar 2) tNil)))) (gName 5)) (tSeq (tAsg (tCall (sp_sum_of K) [] E0 (tCons (tVar 0) (tCons (tVar 3) (tCons (tVar 5) tNil)))) (gName 3)) (tAsg (tCall (sp_less K) [] E0 (tCons (tVar 0) (tCons (tVar 4) (tCons (tCall (sp_put K) [] E0 (tCons (tVar 0) (tCons (tVar 5) (tCons (tVar 2) tNil)))) tNil)))) (gName 4))))) (tRet (tTup (tCons (tVar 3) (tCons (tVar 4) tNil))))))
/-! told_divisor -/
def w_told_divisor : WS := (wSeq (wDrop (wCall c_check_turners (wCons (wVar 0) (wCons (wVar 1) (wCons (wVar 2) wNil))))) (wSeq (wAsg 3 (wCall c_told (wCons (wVar 0) (wCons (wVar 2) wNil)))) (wSeq (wIfS (wTest (wOp fEqA (wVarB 3) (wLst wNil))) wNever wNext) (wRet (wVar 3)))))
def c_told_divisor : WC := cD 3 4 w_told_divisor
def sp_told_divisor (K : Fr) : Sp := spD K .fz c_told_divisor
def t_told_divisor (K : Fr) : TS := (tSeq (tDrop (tCall (sp_check_turners K) [] E0 (tCons (tVar 0) (tCons (tVar 1) (tCons (tVar 2) tNil))))) (tSeq (tAsg (tCall (sp_told K) [] E0 (tCons (tVar 0) (tCons (tVar 2) tNil))) (gName 3)) (tSeq (tIfS (tTest (tOp (rEqA K) (tVar 3) (tLst tNil))) tNever tNext) (tRet (tVar 3)))))
/-! divided_in -/
def w_divided_in : WS := (wRet (wCall c_split_in (wCons (wVar 0) (wCons (wVar 1) (wCons (wCall c_told_divisor (wCons (wVar 0) (wCons (wVar 1) (wCons (wVar 2) wNil)))) wNil)))))
def c_divided_in : WC := cN 3 3 w_divided_in
def sp_divided_in (K : Fr) : Sp := spD K .nd c_divided_in
def t_divided_in (K : Fr) : TS := (tRet (tCall (sp_split_in K) [] E0 (tCons (tVar 0) (tCons (tVar 1) (tCons (tCall (sp_told_divisor K) [] E0 (tCons (tVar 0) (tCons (tVar 1) (tCons (tVar 2) tNil)))) tNil)))))
/-! is_inner -/
def w_is_inner : WS := (wSeq (wUnp [3, 4] (wCall c_divided_in (wCons (wVar 0) (wCons (wVar 1) (wCons (wVar 2) wNil))))) (wRet (wOp fEqA (wVarB 4) (wLst wNil))))
def c_is_inner : WC := cD 3 5 w_is_inner
def sp_is_inner (K : Fr) : Sp := spD K .fz c_is_inner
def t_is_inner (K : Fr) : TS := (tSeq (tAsg (tCall (sp_divided_in K) [] E0 (tCons (tVar 0) (tCons (tVar 1) (tCons (tVar 2) tNil)))) (gTup K 2 (gCons (gName 3) (gCons (gName 4) gNil)))) (tRet (tOp (rEqA K) (tVar 4) (tLst tNil))))
/-! with_head_one -/
def w_with_head_one : WS := (wSeq (wIfS (wTest (wOp fEqA (wVarB 1) (wLst wNil))) (wRet (wLst wNil)) wNext) (wRet (wCall c_scaled (wCons (wVar 0) (wCons (wVar 1) (wCons (wMeth isFld c_Field_dot_divided (wVar 0) (wCons (wC (.int 1)) (wCons (wOp fIx (wVarB 1) (wUn fNeg (wC (.int 1)))) wNil))) wNil))))))
def c_with_head_one : WC := cN 2 2 w_with_head_one
def sp_with_head_one (K : Fr) : Sp := spD K .nw c_with_head_one
def t_with_head_one (K : Fr) : TS := (tSeq (tIfS (tTest (tOp (rEqA K) (tVar 1) (tLst tNil))) (tRet (tLst tNil)) tNext) (tRet (tCall (sp_scaled K) [] E0 (tCons (tVar 0) (tCons (tVar 1) (tCons (tMeth (He.ga K "Field") "divided" (sp_Field_dot_divided K) [] E0 (tVar 0) (tCons (tC (.int 1)) (tCons (tOp (rIxA K) (tVar 1) (tUn rNeg (tC (.int 1)))) tNil))) tNil))))))
/-! joint -/
def w_joint : WS := (wSeq (wPar 3 4 (wCall c_told (wCons (wVar 0) (wCons (wVar 1) wNil))) (wCall c_told (wCons (wVar 0) (wCons (wVar 2) wNil)))) (wSeq (wIfS (wOr (wTest (wOp fEqA (wVarB 3) (wLst wNil))) (wTest (wOp fEqA (wVarB 4) (wLst wNil)))) wNever wNext) (wSeq (wPar 5 6 (wLst (wCons (wC (.int 1)) wNil)) (wLst wNil)) (wSeq (wWhile [7, 8] (wTest (wOp fNeA (wVarB 4) (wLst wNil))) (wSeq (wUnp [7, 8] (wCall c_split_in (wCons (wVar 0) (wCons (wVar 3) (wCons (wVar 4) wNil))))) (wSeq (wPar 3 4 (wVar 4) (wVar 8)) (wPar 5 6 (wVar 6) (wCall c_less (wCons (wVar 0) (wCons (wVar 5) (wCons (wCall c_put (wCons (wVar 0) (wCons (wVar 7) (wCons (wVar 6) wNil)))) wNil)))))))) (wRet (wCall c_with_head_one (wCons (wVar 0) (wCons (wCall c_put (wCons (wVar 0) (wCons (wVar 6) (wCons (wVar 1) wNil)))) wNil))))))))
def c_joint : WC := cN 3 9 w_joint
def sp_joint (K : Fr) : Sp := spD K .nw c_joint
def t_joint (K : Fr) : TS := (tSeq (tPar 3 4 (tCons (tCall (sp_told K) [] E0 (tCons (tVar 0) (tCons (tVar 1) tNil))) (tCons (tCall (sp_told K) [] E0 (tCons (tVar 0) (tCons (tVar 2) tNil))) tNil))) (tSeq (tIfS (tOr (tTest (tOp (rEqA K) (tVar 3) (tLst tNil))) (tTest (tOp (rEqA K) (tVar 4) (tLst tNil)))) tNever tNext) (tSeq (tPar 5 6 (tCons (tLst (tCons (tC (.int 1)) tNil)) (tCons (tLst tNil) tNil))) (tSeq (tWhile (tTest (tOp (rNeA K) (tVar 4) (tLst tNil))) (tSeq (tAsg (tCall (sp_split_in K) [] E0 (tCons (tVar 0) (tCons (tVar 3) (tCons (tVar 4) tNil)))) (gTup K 2 (gCons (gName 7) (gCons (gName 8) gNil)))) (tSeq (tPar 3 4 (tCons (tVar 4) (tCons (tVar 8) tNil))) (tPar 5 6 (tCons (tVar 6) (tCons (tCall (sp_less K) [] E0 (tCons (tVar 0) (tCons (tVar 5) (tCons (tCall (sp_put K) [] E0 (tCons (tVar 0) (tCons (tVar 7) (tCons (tVar 6) tNil)))) tNil)))) tNil)))))) (tRet (tCall (sp_with_head_one K) [] E0 (tCons (tVar 0) (tCons (tCall (sp_put K) [] E0 (tCons (tVar 0) (tCons (tVar 6) (tCons (tVar 1) tNil)))) tNil))))))))
end TP
/-! GP6 -/
set_option maxHeartbeats 4000000
namespace TP
open PySem PySem.Spec PyProof.Rows L2
variable {K : Fr}
/-! step_out -/
def w_step_out : WS := (wSeq (wAsg 3 (wOp fSub (wCB fLen (wCons (wVarB 1) wNil)) (wCB fLen (wCons (wVarB 2) wNil)))) (wRet (wCall c_alone_at (wCons (wVar 3) (wCons (wMeth isFld c_Field_dot_turned (wVar 0) (wCons (wMeth isFld c_Field_dot_divided (wVar 0) (wCons (wOp fIx (wVarB 1) (wUn fNeg (wC (.int 1)))) (wCons (wOp fIx (wVarB 2) (wUn fNeg (wC (.int 1)))) wNil))) (wCons (wOp fSub (wC (.int 1)) (wCB fLen (wCons (wVarB 2) wNil))) wNil))) wNil)))))
def c_step_out : WC := cN 3 4 w_step_out
def sp_step_out (K : Fr) : Sp := spD K .nw c_step_out
def t_step_out (K : Fr) : TS := (tSeq (tAsg (tOp rSubI (tCB (rLenA K) (tCons (tVar 1) tNil)) (tCB (rLenA K) (tCons (tVar 2) tNil))) (gName 3)) (tRet (tCall (sp_alone_at K) [] E0 (tCons (tVar 3) (tCons (tMeth (He.ga K "Field") "turned" (sp_Field_dot_turned K) [] E0 (tVar 0) (tCons (tMeth (He.ga K "Field") "divided" (sp_Field_dot_divided K) [] E0 (tVar 0) (tCons (tOp (rIxA K) (tVar 1) (tUn rNeg (tC (.int 1)))) (tCons (tOp (rIxA K) (tVar 2) (tUn rNeg (tC (.int 1)))) tNil))) (tCons (tOp rSubI (tC (.int 1)) (tCB (rLenA K) (tCons (tVar 2) tNil))) tNil))) tNil)))))
/-! split_out -/
def w_split_out : WS := (wSeq (wParOO 3 4 (wLst wNil) (wCall c_told (wCons (wVar 0) (wCons (wVar 1) wNil)))) (wSeq (wWhile [5] (wTest (wOp fGe (wCB fLen (wCons (wVarB 4) wNil)) (wCB fLen (wCons (wVarB 2) wNil)))) (wSeq (wAsg 5 (wCallBN c_step_out (wCons (wVarB 0) (wCons (wVarB 4) (wCons (wVarB 2) wNil))))) (wSeq (wAsgO 3 (wCallBN c_sum_of (wCons (wVarB 0) (wCons (wVarB 3) (wCons (wVarB 5) wNil))))) (wAsgO 4 (wCallBN c_less (wCons (wVarB 0) (wCons (wVarB 4) (wCons (wCall c_put (wCons (wVar 0) (wCons (wVar 2) (wCons (wVar 5) wNil)))) wNil)))))))) (wRetT 3 4)))
def c_split_out : WC := cN 3 6 w_split_out
def sp_split_out (K : Fr) : Sp := spD K .nd c_split_out
def t_split_out (K : Fr) : TS := (tSeq (tPar 3 4 (tCons (tLst tNil) (tCons (tCall (sp_told K) [] E0 (tCons (tVar 0) (tCons (tVar 1) tNil))) tNil))) (tSeq (tWhile (tTest (tOp rGeI (tCB (rLenA K) (tCons (tVar 4) tNil)) (tCB (rLenA K) (tCons (tVar 2) tNil)))) (tSeq (tAsg (tCall (sp_step_out K) [] E0 (tCons (tVar 0) (tCons (tVar 4) (tCons (tVar 2) tNil)))) (gName 5)) (tSeq (tAsg (tCall (sp_sum_of K) [] E0 (tCons (tVar 0) (tCons (tVar 3) (tCons (tVar 5) tNil)))) (gName 3)) (tAsg (tCall (sp_less K) [] E0 (tCons (tVar 0) (tCons (tVar 4) (tCons (tCall (sp_put K) [] E0 (tCons (tVar 0) (tCons (tVar 2) (tCons (tVar 5) tNil)))) tNil)))) (gName 4))))) (tRet (tTup (tCons (tVar 3) (tCons (tVar 4) tNil))))))
/-! divided_out -/
def w_divided_out : WS := (wRet (wCall c_split_out (wCons (wVar 0) (wCons (wVar 1) (wCons (wCall c_told_divisor (wCons (wVar 0) (wCons (wVar 1) (wCons (wVar 2) wNil)))) wNil)))))
def c_divided_out : WC := cN 3 3 w_divided_out
def sp_divided_out (K : Fr) : Sp := spD K .nd c_divided_out
def t_divided_out (K : Fr) : TS := (tRet (tCall (sp_split_out K) [] E0 (tCons (tVar 0) (tCons (tVar 1) (tCons (tCall (sp_told_divisor K) [] E0 (tCons (tVar 0) (tCons (tVar 1) (tCons (tVar 2) tNil)))) tNil)))))
end TP
/-! PS6 -/
set_option maxHeartbeats 4000000
namespace TP
open PySem PySem.Spec PyProof.Rows L2
local macro_rules | `(tactic| walk_at "w") => `(tactic| try simp only [wSeq, wNext, wRet, wRetO, wDrop, wAsg, wAsgO, wFz, wPar, wParO, wParO2, wPar3, wUnp, wAug, wApp, wExt, wPop, wPopD, wPut, wIfS, wFor, wC, wVar, wVarB, wOp, wUn, wCons, wNil, wLst, wTup, wCB, wCall, wCallB, wCallBN, wCallN, wCallNB, wCallNBN, wMeth, wCallF, eq_self, wProp, wEach, wEachN, wEnum, wZip, wRng1, wRng2, wDown, wLc, wTest, wAnd, wOr, wNot, wAndV, wOrV, wNotV, wIf, wChain, wSl, wPart, wNoPart,
  fI0, fII, fNeg, fCat, fRep, fIx, fLen_lst, fLen_tup, fAbs, fInt, fMax2, fMin2, fDivmod, fList, fTuple, fRev, fRepr, fIsB, fMake, wListRg1, wListZp, c_wnl, c_wnt, D.seq_lst, D.seq_tup, setsG, wipeG, List.getElem?_cons_succ, List.getElem?_cons_zero, List.set_cons_succ, List.set_cons_zero, List.length_map, List.length_cons, List.length_nil,
  fEqA_int, fNeA_int, fEqA_li, fNeA_li, fEqA_le, fNeA_le, fEqA_nl, fNeA_nl, fEqA_str, fNeA_str, fIn_li, atI_li, isFld, true_and, enum_li, zip_li, each_li, D.ints_map, D.bls_map, fInts_li, li_app, li_snoc, li_set, li_rev, vs_len, vs_cf, vs_map0, flat_li, at2_0, at2_1, at3_0, at3_1, at3_2,
  c_Field_dot_size, c_Field_dot_turns, c_Field_dot_figures_of, cII, cAny, cIN, cI, c_check_field, c_check_one, c_check_many, c_Field_dot_prime, c_Field_dot_divided, c_law_draw, D.flat, D.flatL, and_true, v_add, v_mul, v_sub, v_tw])
variable {F : FD} [Fi F] {Q : D → Prop}
theorem fEqA_nn (Q : D → Prop) : fEqA (.lst []) (.lst []) Q = Q (.bl true) := (fEqA_li [] [] Q).trans (by rw [decide_eq_true rfl])
theorem fNeA_nn (Q : D → Prop) : fNeA (.lst []) (.lst []) Q = Q (.bl false) := (fNeA_li [] [] Q).trans (by rw [decide_eq_true rfl]; rfl)
end TP
/-! PS7 -/
set_option maxHeartbeats 4000000
namespace TP
open PySem PySem.Spec PyProof.Rows L2
local macro_rules | `(tactic| walk_at "w") => `(tactic| try simp only [wSeq, wNext, wRet, wRetO, wDrop, wAsg, wAsgO, wFz, wPar, wParO, wParO2, wPar3, wUnp, wAug, wApp, wExt, wPop, wPopD, wPut, wIfS, wFor, wC, wVar, wVarB, wOp, wUn, wCons, wNil, wLst, wTup, wCB, wCall, wCallB, wCallBN, wCallN, wCallNB, wCallNBN, wMeth, wCallF, eq_self, wProp, wEach, wEachN, wEnum, wZip, wRng1, wRng2, wDown, wLc, wTest, wAnd, wOr, wNot, wAndV, wOrV, wNotV, wIf, wChain, wSl, wPart, wNoPart,
  fI0, fII, fNeg, fCat, fRep, fIx, fLen_lst, fLen_tup, fAbs, fInt, fMax2, fMin2, fDivmod, fList, fTuple, fRev, fRepr, fIsB, fMake, wListRg1, wListZp, c_wnl, c_wnt, D.seq_lst, D.seq_tup, setsG, wipeG, List.getElem?_cons_succ, List.getElem?_cons_zero, List.set_cons_succ, List.set_cons_zero, List.length_map, List.length_cons, List.length_nil,
  fEqA_int, fNeA_int, fEqA_li, fNeA_li, fEqA_le, fNeA_le, fEqA_nl, fNeA_nl, fEqA_str, fNeA_str, fIn_li, atI_li, isFld, true_and, enum_li, zip_li, each_li, D.ints_map, D.bls_map, fInts_li, li_app, li_snoc, li_set, li_rev, vs_len, vs_cf, vs_map0, flat_li, at2_0, at2_1, at3_0, at3_1, at3_2,
  c_Field_dot_size, c_Field_dot_turns, c_Field_dot_figures_of, cII, cAny, cIN, cI, c_check_field, c_check_one, c_check_many, c_Field_dot_prime, c_Field_dot_divided, c_law_draw, D.flat, D.flatL, and_true, v_add, v_mul, v_sub, v_tw])
section
variable {F : FD} {Q : D → Prop}
end
end TP
/-! PS8 -/
set_option maxHeartbeats 4000000
namespace TP
open PySem PySem.Spec PyProof.Rows L2
local macro_rules | `(tactic| walk_at "w") => `(tactic| try simp only [wSeq, wNext, wRet, wRetO, wDrop, wAsg, wAsgO, wFz, wPar, wParO, wParO2, wPar3, wUnp, wAug, wApp, wExt, wPop, wPopD, wPut, wIfS, wFor, wC, wVar, wVarB, wOp, wUn, wCons, wNil, wLst, wTup, wCB, wCall, wCallB, wCallBN, wCallN, wCallNB, wCallNBN, wMeth, wCallF, eq_self, wProp, wEach, wEachN, wEnum, wZip, wRng1, wRng2, wDown, wLc, wTest, wAnd, wOr, wNot, wAndV, wOrV, wNotV, wIf, wChain, wSl, wPart, wNoPart,
  fI0, fII, fNeg, fCat, fRep, fIx, fLen_lst, fLen_tup, fAbs, fInt, fMax2, fMin2, fDivmod, fList, fTuple, fRev, fRepr, fIsB, fMake, wListRg1, wListZp, c_wnl, c_wnt, D.seq_lst, D.seq_tup, setsG, wipeG, List.getElem?_cons_succ, List.getElem?_cons_zero, List.set_cons_succ, List.set_cons_zero, List.length_map, List.length_cons, List.length_nil,
  fEqA_int, fNeA_int, fEqA_li, fNeA_li, fEqA_le, fNeA_le, fEqA_nl, fNeA_nl, fEqA_str, fNeA_str, fIn_li, atI_li, isFld, true_and, enum_li, zip_li, each_li, D.ints_map, D.bls_map, fInts_li, li_app, li_snoc, li_set, li_rev, vs_len, vs_cf, vs_map0, flat_li, at2_0, at2_1, at3_0, at3_1, at3_2,
  c_Field_dot_size, c_Field_dot_turns, c_Field_dot_figures_of, cII, cAny, cIN, cI, c_check_field, c_check_one, c_check_many, c_Field_dot_prime, c_Field_dot_divided, c_law_draw, D.flat, D.flatL, and_true, v_add, v_mul, v_sub, v_tw])
section
mutual
theorem eqv_self : ∀ d : D, PyData.eqv d.py d.py = true
  | .non => by unfold D.py PyData.eqv; rfl
  | .bl b => by unfold D.py PyData.eqv; exact beq_self_eq_true b
  | .int i => by unfold D.py PyData.eqv; exact beq_self_eq_true i
  | .str s => by unfold D.py PyData.eqv; exact beq_self_eq_true s
  | .lst xs => by unfold D.py PyData.eqv; exact eqvs_self xs
  | .tup xs => by unfold D.py PyData.eqv; exact eqvs_self xs
  | .fld _ => by unfold D.py PyData.eqv; rfl
  | .obj _ _ _ => by unfold D.py PyData.eqv; rfl
  | .fn _ => by unfold D.py PyData.eqv; rfl
  | .dct _ _ => by unfold D.py PyData.eqv; rfl
  | .dci _ _ => by unfold D.py PyData.eqv; rfl
  | .pot => by unfold D.py PyData.eqv; rfl
theorem eqvs_self : ∀ ds : List D, PyData.eqvAll (D.pys ds) (D.pys ds) = true
  | [] => by unfold D.pys PyData.eqvAll; rfl
  | d :: ds => by unfold D.pys PyData.eqvAll; rw [eqv_self d, eqvs_self ds]; rfl
end
end
end TP
/-! SM -/
set_option maxHeartbeats 4000000
/-! # Free elements, and the turn sums that have given worths at them -/
namespace TP
open PySem PySem.Spec PyProof.Rows L2
section
variable {F : FD} [Fi F]
/-! what is left by x less a -/
def line (a : El F) : List (El F) → El F → Nat → El F
  | [], _, _ => 0
  | c :: r, h, i => c * h + line a r (h * tw (i : Int) a) (i + 1)
def Lf (a : El F) : P (El F) := mkP [0 - a, 1]
theorem Lf_l (a : El F) : (Lf a).l = [0 - a, 1] := tr_self fun _ => TP.one_ne
theorem Lf_len (a : El F) : (Lf a).len = 2 := by unfold P.len; rw [Lf_l]; rfl
theorem Lf_ne (a : El F) : Lf a ≠ 0 := fun z => by
  have := Lf_len a
  rw [z, P.len_0] at this
  omega
theorem Lf_wo (a z : El F) : (Lf a).wo z = tw 1 z - a * z := by
  show (mkP [0 - a, 1]).wo z = _
  rw [mk_wo]
  show (0 - a) * z + (1 * tw 1 z + 0) = _
  grind
def lv (v : El F) : El F := v ^ (F.p.toNat - 1)
theorem lv_mul (v : El F) : lv v * v = tw 1 v := by
  have hp := (fiO F).two
  rw [← pow_tw, show F.p.toNat = F.p.toNat - 1 + 1 by omega, Lean.Grind.Semiring.pow_succ]
  rfl
def Lv (v : El F) : P (El F) := Lf (lv v)
theorem Lv_wo (v z : El F) : (Lv v).wo z = tw 1 z - lv v * z := Lf_wo _ _
theorem Lv_self (v : El F) : (Lv v).wo v = 0 := by rw [Lv_wo, lv_mul]; grind
theorem Lv_len (v : El F) : (Lv v).len = 2 := Lf_len _
theorem Lv_ne (v : El F) : Lv v ≠ 0 := Lf_ne _
/-- base figures -/
abbrev Bs1 (c : El F) : Prop := tw 1 c = c
theorem bs_0 : Bs1 (0 : El F) := tw_0 1
theorem bs_1 : Bs1 (1 : El F) := tw_1 1
theorem bs_neg {c : El F} (h : Bs1 c) : Bs1 (-c) := by show tw 1 (-c) = -c; rw [tw_neg, h]
theorem Lv_ker {v z : El F} (h : v ≠ 0) (e : (Lv v).wo z = 0) : ∃ c : El F, Bs1 c ∧ z = c * v := by
  rw [Lv_wo] at e
  have e1 : tw 1 z = lv v * z := by grind
  have m := mul_inv h
  refine ⟨z * inv v, ?_, by grind⟩
  show tw 1 (z * inv v) = z * inv v
  rw [tw_mul, tw_inv 1 h, e1]
  have h1 : tw 1 v ≠ 0 := tw_ne h
  have m1 := mul_inv h1
  rw [← lv_mul v] at m1 ⊢
  have : lv v * z * inv (lv v * v) = (z * inv v) * (lv v * v * inv (lv v * v)) := by grind
  rw [this, m1]; grind
def dot : List (El F) → List (El F) → El F
  | c :: cs, x :: xs => c * x + dot cs xs
  | _, _ => 0
def Ind (l : List (El F)) : Prop := ∀ cs : List (El F), cs.length = l.length → (∀ c ∈ cs, Bs1 c) → dot cs l = 0 → ∀ c ∈ cs, c = 0
theorem dot_wo (f : P (El F)) : ∀ (cs l : List (El F)), (∀ c ∈ cs, Bs1 c) → dot cs (l.map f.wo) = f.wo (dot cs l)
  | [], l, _ => by
    show (0 : El F) = f.wo 0
    rw [P.wo_z]
  | c :: cs, [], _ => by
    show (0 : El F) = f.wo 0
    rw [P.wo_z]
  | c :: cs, x :: xs, h => by
    show c * f.wo x + dot cs (xs.map f.wo) = f.wo (c * x + dot cs xs)
    rw [P.wo_at, dot_wo f cs xs fun d hd => h d (List.mem_cons_of_mem _ hd)]
    rw [show f.wo (c * x) = c * f.wo x from wo_base (h c List.mem_cons_self) f.l x]
theorem dot_0 : ∀ (n : Nat) (l : List (El F)), dot (List.replicate n 0) l = 0
  | 0, _ => rfl
  | n + 1, [] => rfl
  | n + 1, x :: xs => by
    show 0 * x + dot (List.replicate n 0) xs = 0
    rw [dot_0 n xs]; grind
theorem Ind.head {v : El F} {r : List (El F)} (h : Ind (v :: r)) : v ≠ 0 := fun z => by
  refine one_ne (K := El F) (h (1 :: List.replicate r.length 0) (by simp) (fun c hc => ?_) ?_ 1 List.mem_cons_self)
  · rcases List.mem_cons.mp hc with rfl | hc
    · exact bs_1
    · rw [(List.mem_replicate.mp hc).2]; exact bs_0
  · show 1 * v + dot (List.replicate r.length 0) r = 0
    rw [dot_0, z]; grind
theorem Ind.step {v : El F} {r : List (El F)} (h : Ind (v :: r)) : Ind (r.map (Lv v).wo) := fun cs hl hb e => by
  rw [dot_wo _ _ _ hb] at e
  obtain ⟨c, hc, ec⟩ := Lv_ker h.head e
  have := h (-c :: cs) (by rw [List.length_cons, hl, List.length_map, List.length_cons]) (fun d hd => by
    rcases List.mem_cons.mp hd with rfl | hd
    · exact bs_neg hc
    · exact hb d hd) (by
    show -c * v + dot cs r = 0
    rw [ec]; grind)
  exact fun d hd => this d (List.mem_cons_of_mem _ hd)
end
end TP
/-! SM2 -/
set_option maxHeartbeats 4000000
/-! # Free ones, by steps and by mixtures -/
namespace TP
open PySem PySem.Spec PyProof.Rows L2
section
variable {F : FD} [Fj F]
end
end TP
/-! SM3 -/
set_option maxHeartbeats 4000000
/-! # The elements with one figure 1; maps as turn sums of a low degree -/
namespace TP
open PySem PySem.Spec PyProof.Rows L2
section
variable {F : FD} [Fj F]
def unE (i : Nat) : El F := ⟨pX F i, pX_in (fiO F) i⟩
def uns (F : FD) [Fj F] (n : Nat) : List (El F) := (List.range n).map unE
theorem fgE_in (x : Int) : ∀ y ∈ figs F.p F.t x, InF F y ∧ y < F.p := fun y hy => by
  have o := fiO F
  obtain ⟨i, hi, rfl⟩ := List.getElem_of_mem hy
  have := figs_in o x i
  rw [List.getD_eq_getElem?_getD, List.getElem?_eq_getElem hi] at this
  exact ⟨base_in o this.1 this.2, this.2⟩
/-- an element's figures, as elements -/
def fgE (x : El F) : List (El F) := (figs F.p F.t x.v).pmap (fun y h => ⟨y, h⟩) fun y hy => (fgE_in x.v y hy).1
/-- the turn sum of low degree that does the same -/
theorem mp_ex (f : P (El F)) : ∃ g : P (El F), vs g.l = wn (am F (vs f.l)) ∧ g.len ≤ F.t ∧ ∀ x, g.wo x = f.wo x := by
  have T := fiT F
  have hin := am_in T.ok (vs f.l)
  obtain ⟨a, ea⟩ := vs_of hin
  have la : a.length = F.t := by rw [← vs_len, ← ea, am_length]
  refine ⟨mkP a, ?_, by have := mk_len a; omega, fun x => El.eq ?_⟩
  · rw [← LP_mk, ← vs_tr, ea]
  · have h1 := worth_P a x
    have h2 := worth_P f.l x
    rw [mk_l] at h2
    rw [← h1, ← h2, ← ea, ← worth_am T (vs_in f.l) x.v]
    have : worthF F (am F (vs f.l)) x.v = worthF F (wn (am F (vs f.l))) x.v := (wG_wn T.ok x.v _ 0 (InF_zero T.ok)).symm
    exact this
noncomputable def mp (f : P (El F)) : P (El F) := (mp_ex f).choose
end
end TP
/-! GP9 -/
set_option maxHeartbeats 4000000
namespace TP
open PySem PySem.Spec PyProof.Rows L2
variable {K : Fr}
/-! lengthened -/
def w_lengthened : WS := (wSeq (wAsg 3 (wMeth isFld c_Field_dot_raised (wVar 0) (wCons (wCall c_worth (wCons (wVar 0) (wCons (wVar 1) (wCons (wVar 2) wNil)))) (wCons (wOp fSub (wProp isFld c_Field_dot_prime (wVar 0)) (wC (.int 1))) wNil)))) (wRet (wCall c_put (wCons (wVar 0) (wCons (wLst (wCons (wMeth isFld c_Field_dot_taken (wVar 0) (wCons (wC (.int 0)) (wCons (wVar 3) wNil))) (wCons (wC (.int 1)) wNil))) (wCons (wVar 1) wNil))))))
def c_lengthened : WC := cN 3 4 w_lengthened
def sp_lengthened (K : Fr) : Sp := spD K .nw c_lengthened
def t_lengthened (K : Fr) : TS := (tSeq (tAsg (tMeth (He.ga K "Field") "raised" (sp_Field_dot_raised K) [] E0 (tVar 0) (tCons (tCall (sp_worth K) [] E0 (tCons (tVar 0) (tCons (tVar 1) (tCons (tVar 2) tNil)))) (tCons (tOp rSubI (tProp (He.ga K "Field") (sp_Field_dot_prime K) [] E0 (tVar 0)) (tC (.int 1))) tNil))) (gName 3)) (tRet (tCall (sp_put K) [] E0 (tCons (tVar 0) (tCons (tLst (tCons (tMeth (He.ga K "Field") "taken" (sp_Field_dot_taken K) [] E0 (tVar 0) (tCons (tC (.int 0)) (tCons (tVar 3) tNil))) (tCons (tC (.int 1)) tNil))) (tCons (tVar 1) tNil))))))
/-! check_points -/
def w_check_points : WS := (wIfS (wOr (wNot (wTest (wCall c_are_some_of (wCons (wVar 0) (wCons (wVar 1) (wCons (wProp isFld c_Field_dot_turns (wVar 0)) wNil)))))) (wOr (wTest (wOp fEqA (wCB fLen (wCons (wVarB 1) wNil)) (wC (.int 0)))) (wNot (wTest (wCall c_are_free (wCons (wVar 0) (wCons (wVar 1) wNil))))))) wNever wNext)
def c_check_points : WC := cD 2 2 w_check_points
def sp_check_points (K : Fr) : Sp := spD K .fz c_check_points
def t_check_points (K : Fr) : TS := (tIfS (tOr (tNot (tB (tCall (sp_are_some_of K) [] E0 (tCons (tVar 0) (tCons (tVar 1) (tCons (tProp (He.ga K "Field") (sp_Field_dot_turns K) [] E0 (tVar 0)) tNil)))))) (tOr (tTest (tOp (rEqA K) (tCB (rLenA K) (tCons (tVar 1) tNil)) (tC (.int 0)))) (tNot (tB (tCall (sp_are_free K) [] E0 (tCons (tVar 0) (tCons (tVar 1) tNil))))))) tNever tNext)
/-! through -/
def w_through : WS := (wSeq (wDrop (wCall c_check_field (wCons (wVar 0) wNil))) (wSeq (wDrop (wCall c_check_points (wCons (wVar 0) (wCons (wVar 1) wNil)))) (wSeq (wIfS (wOr (wNot (wTest (wCall c_are_some_of (wCons (wVar 0) (wCons (wVar 2) (wCons (wCB fLen (wCons (wVarB 1) wNil)) wNil)))))) (wTest (wOp fNeA (wCB fLen (wCons (wVarB 2) wNil)) (wCB fLen (wCons (wVarB 1) wNil))))) wNever wNext) (wSeq (wPar 3 4 (wLst wNil) (wLst (wCons (wC (.int 1)) wNil))) (wSeq (wFor [5, 6] [5, 6, 7, 8] (wZip (wCons (wVar 1) (wCons (wVar 2) wNil))) (wSeq (wAsg 7 (wMeth isFld c_Field_dot_taken (wVar 0) (wCons (wVar 6) (wCons (wCall c_worth (wCons (wVar 0) (wCons (wVar 3) (wCons (wVar 5) wNil)))) wNil)))) (wSeq (wAsg 8 (wMeth isFld c_Field_dot_divided (wVar 0) (wCons (wVar 7) (wCons (wCall c_worth (wCons (wVar 0) (wCons (wVar 4) (wCons (wVar 5) wNil)))) wNil)))) (wSeq (wAsg 3 (wCall c_sum_of (wCons (wVar 0) (wCons (wVar 3) (wCons (wCall c_scaled (wCons (wVar 0) (wCons (wVar 4) (wCons (wVar 8) wNil)))) wNil))))) (wAsg 4 (wCall c_lengthened (wCons (wVar 0) (wCons (wVar 4) (wCons (wVar 5) wNil))))))))) (wRet (wVar 3)))))))
def c_through : WC := cD 3 9 w_through
def sp_through (K : Fr) : Sp := spD K .fz c_through
def t_through (K : Fr) : TS := (tSeq (tDrop (tCall (sp_check_field K) [] E0 (tCons (tVar 0) tNil))) (tSeq (tDrop (tCall (sp_check_points K) [] E0 (tCons (tVar 0) (tCons (tVar 1) tNil)))) (tSeq (tIfS (tOr (tNot (tB (tCall (sp_are_some_of K) [] E0 (tCons (tVar 0) (tCons (tVar 2) (tCons (tCB (rLenA K) (tCons (tVar 1) tNil)) tNil)))))) (tTest (tOp (rNeA K) (tCB (rLenA K) (tCons (tVar 2) tNil)) (tCB (rLenA K) (tCons (tVar 1) tNil))))) tNever tNext) (tSeq (tPar 3 4 (tCons (tLst tNil) (tCons (tLst (tCons (tC (.int 1)) tNil)) tNil))) (tSeq (tFor (iZipM K (tCons (tVar 1) (tCons (tVar 2) tNil))) (gTup K 2 (gCons (gName 5) (gCons (gName 6) gNil))) (tSeq (tAsg (tMeth (He.ga K "Field") "taken" (sp_Field_dot_taken K) [] E0 (tVar 0) (tCons (tVar 6) (tCons (tCall (sp_worth K) [] E0 (tCons (tVar 0) (tCons (tVar 3) (tCons (tVar 5) tNil)))) tNil))) (gName 7)) (tSeq (tAsg (tMeth (He.ga K "Field") "divided" (sp_Field_dot_divided K) [] E0 (tVar 0) (tCons (tVar 7) (tCons (tCall (sp_worth K) [] E0 (tCons (tVar 0) (tCons (tVar 4) (tCons (tVar 5) tNil)))) tNil))) (gName 8)) (tSeq (tAsg (tCall (sp_sum_of K) [] E0 (tCons (tVar 0) (tCons (tVar 3) (tCons (tCall (sp_scaled K) [] E0 (tCons (tVar 0) (tCons (tVar 4) (tCons (tVar 8) tNil)))) tNil)))) (gName 3)) (tAsg (tCall (sp_lengthened K) [] E0 (tCons (tVar 0) (tCons (tVar 4) (tCons (tVar 5) tNil)))) (gName 4)))))) (tRet (tVar 3)))))))
end TP
/-! PS9 -/
set_option maxHeartbeats 4000000
namespace TP
open PySem PySem.Spec PyProof.Rows L2
local macro_rules | `(tactic| walk_at "w") => `(tactic| try simp only [wSeq, wNext, wRet, wRetO, wDrop, wAsg, wAsgO, wFz, wPar, wParO, wParO2, wPar3, wUnp, wAug, wApp, wExt, wPop, wPopD, wPut, wIfS, wFor, wC, wVar, wVarB, wOp, wUn, wCons, wNil, wLst, wTup, wCB, wCall, wCallB, wCallBN, wCallN, wCallNB, wCallNBN, wMeth, wCallF, eq_self, wProp, wEach, wEachN, wEnum, wZip, wRng1, wRng2, wDown, wLc, wScT, cList_l, cList_t, wNest, noc_fz, noc_ow, noc_any, noc_nil, inL_lst, inL_tup, isi_tup, isi_lst, lis_nil, lis_cons, wSc, tell_fz, tell_ow, tell_any, tlc, tln, wTest, wAnd, wOr, wNot, wAndV, wOrV, wNotV, wIf, wChain, wSl, wPart, wNoPart,
  fI0, fII, fNeg, fCat, fRep, fIx, fLen_lst, fLen_tup, fAbs, fInt, fMax2, fMin2, fDivmod, fList, fTuple, fRev, fRepr, fIsB, fMake, wListRg1, wListZp, c_wnl, c_wnt, D.seq_lst, D.seq_tup, setsG, wipeG, List.getElem?_cons_succ, List.getElem?_cons_zero, List.set_cons_succ, List.set_cons_zero, List.length_map, List.length_cons, List.length_nil,
  fEqA_nn, fNeA_nn, LP_0, fEqA_int, fNeA_int, fEqA_li, fNeA_li, fEqA_le, fNeA_le, fEqA_nl, fNeA_nl, fEqA_str, fNeA_str, fIn_li, atI_li, isFld, true_and, enum_li, zip_li, each_li, D.ints_map, D.bls_map, fInts_li, li_app, li_snoc, li_set, li_rev, vs_len, vs_cf, vs_map0, flat_li, at2_0, at2_1, at3_0, at3_1, at3_2,
  c_Field_dot_size, c_Field_dot_turns, c_Field_dot_figures_of, cII, cAny, cIN, cI, c_check_field, c_check_one, c_check_many, c_Field_dot_prime, c_Field_dot_divided, c_law_draw, D.flat, D.flatL, and_true, v_add, v_mul, v_sub, v_tw])
local macro_rules | `(tactic| walk_at "t") => `(tactic| try simp only [decide_true, decide_false, Bool.not_true, Bool.not_false, Bool.false_eq_true, if_false, if_true])
section
variable {F : FD} [Fi F] {Q : D → Prop}
theorem zip_fst : ∀ (l ws : List (El F)), l.length = ws.length → (l.zip ws).map (·.1) = l
  | [], [], _ => rfl
  | [], _ :: _, h => nomatch h
  | _ :: _, [], h => nomatch h
  | x :: l, y :: ws, h => by
    rw [List.zip_cons_cons, List.map_cons, zip_fst l ws (by simpa using h)]
structure Thr (l ws : List (El F)) (r : List (El F × El F)) (s : P (El F) × P (El F)) : Prop where
  sp : ∃ done, l.zip ws = done ++ r ∧ (∀ z ∈ done, s.1.wo z.1 = z.2 ∧ s.2.wo z.1 = 0) ∧ s.2.len = done.length + 1 ∧ s.1.len ≤ done.length
  ind : Ind ((r.map (·.1)).map s.2.wo)
theorem Thr.start {l ws : List (El F)} (h : Ind l) (hl : l.length = ws.length) : Thr l ws (l.zip ws) (0, 1) := by
  refine ⟨⟨[], rfl, fun z hz => by simp at hz, by
    show (1 : P (El F)).len = 1
    exact cst_len one_ne, by
    show (0 : P (El F)).len ≤ 0
    rw [P.len_0]; exact Nat.le_refl _⟩, ?_⟩
  rw [zip_fst l ws hl]
  have e : ((0, 1) : P (El F) × P (El F)).2.wo = (id : El F → El F) := funext fun z => P.wo_1 z
  rw [e, List.map_id]
  exact h
theorem Thr.ne {l ws : List (El F)} {z : El F × El F} {r : List (El F × El F)} {s : P (El F) × P (El F)} (h : Thr l ws (z :: r) s) : s.2.wo z.1 ≠ 0 := by
  have := h.ind
  rw [List.map_cons, List.map_cons] at this
  exact this.head
theorem Thr.next {l ws : List (El F)} {z : El F × El F} {r : List (El F × El F)} {s : P (El F) × P (El F)} (h : Thr l ws (z :: r) s) : Thr l ws r (s.1 + cst ((z.2 - s.1.wo z.1) * inv (s.2.wo z.1)) * s.2, Lv (s.2.wo z.1) * s.2) := by
  have hn := h.ne
  have m := mul_inv hn
  obtain ⟨done, e, h1, h2, h3⟩ := h.sp
  have s0 : s.2 ≠ 0 := fun c => by rw [c, P.len_0] at h2; omega
  refine ⟨⟨done ++ [z], by rw [e, List.append_assoc]; rfl, fun y hy => ?_, ?_, ?_⟩, ?_⟩
  · dsimp only
    rw [P.wo_add, P.wo_mul, P.wo_mul, cst_wo]
    rcases List.mem_append.mp hy with hy | hy
    · obtain ⟨k1, k2⟩ := h1 y hy
      rw [k1, k2, P.wo_z]
      exact ⟨by grind, rfl⟩
    · rw [List.mem_singleton.mp hy, Lv_self]
      refine ⟨?_, rfl⟩
      have : (z.2 - s.1.wo z.1) * inv (s.2.wo z.1) * s.2.wo z.1 = (z.2 - s.1.wo z.1) * (s.2.wo z.1 * inv (s.2.wo z.1)) := by grind
      rw [this, m]; grind
  · dsimp only
    rw [P.len_mul (Lv_ne _) s0, Lv_len, h2, List.length_append]
    simp only [List.length_singleton]; omega
  · dsimp only
    have a1 := P.len_add s.1 (cst ((z.2 - s.1.wo z.1) * inv (s.2.wo z.1)) * s.2)
    have a2 := P.len_mul_le (cst ((z.2 - s.1.wo z.1) * inv (s.2.wo z.1))) s.2
    have a3 : (cst ((z.2 - s.1.wo z.1) * inv (s.2.wo z.1))).len ≤ 1 := mk_len [_]
    rw [List.length_append, List.length_singleton]; omega
  · have hi := h.ind
    rw [List.map_cons, List.map_cons] at hi
    have st := hi.step
    rw [List.map_map] at st
    have ef : (Lv (s.2.wo z.1)).wo ∘ s.2.wo = (Lv (s.2.wo z.1) * s.2).wo := funext fun x => (P.wo_mul _ _ x).symm
    rw [ef] at st
    exact st
end
section
variable {F : FD} [Fj F] {Q : D → Prop}
end
end TP
/-! GP8 -/
set_option maxHeartbeats 4000000
namespace TP
open PySem PySem.Spec PyProof.Rows L2
variable {K : Fr}
/-! units_in -/
def w_units_in : WS := (wRet (wCall c_units_of (wCons (wProp isFld c_Field_dot_prime (wVar 0)) (wCons (wOp fSub (wProp isFld c_Field_dot_turns (wVar 0)) (wC (.int 1))) wNil))))
def c_units_in : WC := cN 1 1 w_units_in
def sp_units_in (K : Fr) : Sp := spD K .nw c_units_in
def t_units_in (K : Fr) : TS := (tRet (tCall (sp_units_of K) [] E0 (tCons (tProp (He.ga K "Field") (sp_Field_dot_prime K) [] E0 (tVar 0)) (tCons (tOp rSubI (tProp (He.ga K "Field") (sp_Field_dot_turns K) [] E0 (tVar 0)) (tC (.int 1))) tNil))))
/-! worths_of -/
def w_worths_of : WS := (wSeq (wAsg 2 (wCall c_told (wCons (wVar 0) (wCons (wVar 1) wNil)))) (wRet (wLc [3] [3] (wEach (wCall c_units_in (wCons (wVar 0) wNil))) wYes (wCall c_worth (wCons (wVar 0) (wCons (wVar 2) (wCons (wVar 3) wNil)))))))
def c_worths_of : WC := cN 2 4 w_worths_of
def sp_worths_of (K : Fr) : Sp := spD K .nw c_worths_of
def t_worths_of (K : Fr) : TS := (tSeq (tAsg (tCall (sp_told K) [] E0 (tCons (tVar 0) (tCons (tVar 1) tNil))) (gName 2)) (tRet (tLc (iSeq K (tCall (sp_units_in K) [] E0 (tCons (tVar 0) tNil))) (gName 3) tYes (tCall (sp_worth K) [] E0 (tCons (tVar 0) (tCons (tVar 2) (tCons (tVar 3) tNil)))) [3])))
/-! map_rank -/
def w_map_rank : WS := (wRet (wCB fLen (wCons (wCall c_steps_of (wCons (wVar 0) (wCons (wCall c_worths_of (wCons (wVar 0) (wCons (wVar 1) wNil))) wNil))) wNil)))
def c_map_rank : WC := cD 2 2 w_map_rank
def sp_map_rank (K : Fr) : Sp := spD K .fz c_map_rank
def t_map_rank (K : Fr) : TS := (tRet (tCB (rLenA K) (tCons (tCall (sp_steps_of K) [] E0 (tCons (tVar 0) (tCons (tCall (sp_worths_of K) [] E0 (tCons (tVar 0) (tCons (tVar 1) tNil))) tNil))) tNil)))
end TP
/-! GP10 -/
set_option maxHeartbeats 4000000
namespace TP
open PySem PySem.Spec PyProof.Rows L2
variable {K : Fr}
/-! table_of -/
def w_table_of : WS := (wRet (wLc [2] [2] (wEach (wCall c_worths_of (wCons (wVar 0) (wCons (wVar 1) wNil)))) wYes (wMeth isFld c_Field_dot_figures_of (wVar 0) (wCons (wVar 2) wNil))))
def c_table_of : WC := cN 2 3 w_table_of
def sp_table_of (K : Fr) : Sp := spD K .nn c_table_of
def t_table_of (K : Fr) : TS := (tRet (tLc (iSeq K (tCall (sp_worths_of K) [] E0 (tCons (tVar 0) (tCons (tVar 1) tNil)))) (gName 2) tYes (tMeth (He.ga K "Field") "figures_of" (sp_Field_dot_figures_of K) [] E0 (tVar 0) (tCons (tVar 2) tNil)) [2]))
/-! is_map_table -/
def w_is_map_table : WS := (wSeq (wIfS (wOr (wNot (wTest (wCall c_is_list (wCons (wVar 1) wNil)))) (wTest (wOp fNeA (wCB fLen (wCons (wVarB 1) wNil)) (wProp isFld c_Field_dot_turns (wVar 0))))) (wRet (wC (.bl false))) wNext) (wRet (wCB fAll (wCons (wLc [2] [2] (wEach (wVar 1)) wYes (wAndV (wCall c_are_below (wCons (wVar 2) (wCons (wProp isFld c_Field_dot_prime (wVar 0)) wNil))) (wOp fEqA (wCB fLen (wCons (wVarB 2) wNil)) (wProp isFld c_Field_dot_turns (wVar 0))))) wNil))))
def c_is_map_table : WC := cD 2 3 w_is_map_table
def sp_is_map_table (K : Fr) : Sp := spD K .fz c_is_map_table
def t_is_map_table (K : Fr) : TS := (tSeq (tIfS (tOr (tNot (tB (tCall (sp_is_list K) [] E0 (tCons (tVar 1) tNil)))) (tTest (tOp (rNeA K) (tCB (rLenA K) (tCons (tVar 1) tNil)) (tProp (He.ga K "Field") (sp_Field_dot_turns K) [] E0 (tVar 0))))) (tRet (tC (.bl false))) tNext) (tRet (tCB (L2.rAll K) (tCons (tLc (iSeq K (tVar 1)) (gName 2) tYes (tAndV (tCall (sp_are_below K) [] E0 (tCons (tVar 2) (tCons (tProp (He.ga K "Field") (sp_Field_dot_prime K) [] E0 (tVar 0)) tNil))) (tOp (rEqA K) (tCB (rLenA K) (tCons (tVar 2) tNil)) (tProp (He.ga K "Field") (sp_Field_dot_turns K) [] E0 (tVar 0)))) [2]) tNil))))
/-! turner_by -/
def w_turner_by : WS := (wSeq (wDrop (wCall c_check_field (wCons (wVar 0) wNil))) (wSeq (wIfS (wNot (wTest (wCall c_is_map_table (wCons (wVar 0) (wCons (wVar 1) wNil))))) wNever wNext) (wRet (wCall c_through (wCons (wVar 0) (wCons (wCall c_units_in (wCons (wVar 0) wNil)) (wCons (wLc [2] [2] (wEach (wVar 1)) wYes (wMeth isFld c_Field_dot_with_figures (wVar 0) (wCons (wVar 2) wNil))) wNil)))))))
def c_turner_by : WC := cD 2 3 w_turner_by
def sp_turner_by (K : Fr) : Sp := spD K .fz c_turner_by
def t_turner_by (K : Fr) : TS := (tSeq (tDrop (tCall (sp_check_field K) [] E0 (tCons (tVar 0) tNil))) (tSeq (tIfS (tNot (tB (tCall (sp_is_map_table K) [] E0 (tCons (tVar 0) (tCons (tVar 1) tNil))))) tNever tNext) (tRet (tCall (sp_through K) [] E0 (tCons (tVar 0) (tCons (tCall (sp_units_in K) [] E0 (tCons (tVar 0) tNil)) (tCons (tLc (iSeq K (tVar 1)) (gName 2) tYes (tMeth (He.ga K "Field") "with_figures" (sp_Field_dot_with_figures K) [] E0 (tVar 0) (tCons (tVar 2) tNil)) [2]) tNil)))))))
end TP
/-! PS10 -/
set_option maxHeartbeats 4000000
namespace TP
open PySem PySem.Spec PyProof.Rows L2
local macro_rules | `(tactic| walk_at "w") => `(tactic| try simp only [wSeq, wNext, wRet, wRetO, wDrop, wAsg, wAsgO, wFz, wPar, wParO, wParO2, wPar3, wUnp, wAug, wApp, wExt, wPop, wPopD, wPut, wIfS, wFor, wC, wVar, wVarB, wOp, wUn, wCons, wNil, wLst, wTup, wCB, wCall, wCallB, wCallBN, wCallN, wCallNB, wCallNBN, wMeth, wCallF, eq_self, wProp, wEach, wEachN, wEnum, wZip, wRng1, wRng2, wDown, wLc, wScT, cList_l, cList_t, wNest, noc_fz, noc_ow, noc_any, noc_nil, inL_lst, inL_tup, isi_tup, isi_lst, lis_nil, lis_cons, wSc, tell_fz, tell_ow, tell_any, tlc, tln, wTest, wAnd, wOr, wNot, wAndV, wOrV, wNotV, wIf, wChain, wSl, wPart, wNoPart,
  fI0, fII, fNeg, fCat, fRep, fIx, fLen_lst, fLen_tup, fAbs, fInt, fMax2, fMin2, fDivmod, fList, fTuple, fRev, fRepr, fIsB, fMake, wListRg1, wListZp, c_wnl, c_wnt, D.seq_lst, D.seq_tup, setsG, wipeG, List.getElem?_cons_succ, List.getElem?_cons_zero, List.set_cons_succ, List.set_cons_zero, List.length_map, List.length_cons, List.length_nil,
  fEqA_nn, fNeA_nn, LP_0, fEqA_int, fNeA_int, fEqA_li, fNeA_li, fEqA_le, fNeA_le, fEqA_nl, fNeA_nl, fEqA_str, fNeA_str, fIn_li, atI_li, isFld, true_and, enum_li, zip_li, each_li, D.ints_map, D.bls_map, fInts_li, li_app, li_snoc, li_set, li_rev, vs_len, vs_cf, vs_map0, flat_li, at2_0, at2_1, at3_0, at3_1, at3_2,
  c_Field_dot_size, c_Field_dot_turns, c_Field_dot_figures_of, cII, cAny, cIN, cI, c_check_field, c_check_one, c_check_many, c_Field_dot_prime, c_Field_dot_divided, c_law_draw, D.flat, D.flatL, and_true, v_add, v_mul, v_sub, v_tw])
local macro_rules | `(tactic| walk_at "t") => `(tactic| try simp only [decide_true, decide_false, Bool.not_true, Bool.not_false, Bool.false_eq_true, if_false, if_true])
section
variable {F : FD} [Fj F] {Q : D → Prop}
/-- a table of figures of these elements -/
abbrev TB (ys : List (El F)) : D := .lst (ys.map fun y => Li (figs F.p F.t y.v))
/-- the same as lists or as tuples -/
def TBs (d : D) (ys : List (El F)) : Prop := d = TB ys ∨ d = .tup (ys.map fun y => .tup ((figs F.p F.t y.v).map D.int))
theorem fAll_bls (ns : List Bool) (Q : D → Prop) : fAll [.lst (ns.map D.bl)] Q = Q (.bl (ns.all id)) := by
  unfold fAll
  simp only [D.bls_map]
end
end TP
/-! PIr -/
set_option maxHeartbeats 4000000
/-! # products of lists of figures are parted: sequences that a part kills -/
namespace TP
/-- alike but for multiples of p -/
def Cg (p a b : Int) : Prop := p ∣ a - b
theorem Cg.rfl {p a : Int} : Cg p a a := ⟨0, by omega⟩
theorem Cg.of_eq {p a b : Int} (h : a = b) : Cg p a b := h ▸ Cg.rfl
theorem Cg.symm {p a b : Int} (h : Cg p a b) : Cg p b a := by
  obtain ⟨k, e⟩ := h
  exact ⟨-k, by rw [Int.mul_neg]; omega⟩
theorem Cg.trans {p a b c : Int} (h : Cg p a b) (h' : Cg p b c) : Cg p a c := by
  obtain ⟨k, e⟩ := h
  obtain ⟨k', e'⟩ := h'
  exact ⟨k + k', by rw [Int.mul_add]; omega⟩
theorem Cg.add {p a b c d : Int} (h : Cg p a b) (h' : Cg p c d) : Cg p (a + c) (b + d) := by
  obtain ⟨k, e⟩ := h
  obtain ⟨k', e'⟩ := h'
  exact ⟨k + k', by rw [Int.mul_add]; omega⟩
theorem Cg.sub {p a b c d : Int} (h : Cg p a b) (h' : Cg p c d) : Cg p (a - c) (b - d) := by
  obtain ⟨k, e⟩ := h
  obtain ⟨k', e'⟩ := h'
  exact ⟨k - k', by rw [Int.mul_sub]; omega⟩
theorem Cg.mul {p a b : Int} (h : Cg p a b) (c : Int) : Cg p (c * a) (c * b) := by
  obtain ⟨k, e⟩ := h
  exact ⟨c * k, by rw [← Int.mul_sub, e, ← Int.mul_assoc, ← Int.mul_assoc, Int.mul_comm c p]⟩
theorem Cg.mulr {p a b : Int} (h : Cg p a b) (c : Int) : Cg p (a * c) (b * c) := by
  rw [Int.mul_comm a c, Int.mul_comm b c]; exact h.mul c
theorem Cg.mod (p a : Int) : Cg p (a % p) a := ⟨-(a / p), by rw [Int.mul_neg, Int.emod_def]; omega⟩
theorem Cg.emod {p a b : Int} (h : Cg p a b) : a % p = b % p := Int.emod_eq_emod_iff_emod_sub_eq_zero.mpr (Int.emod_eq_zero_of_dvd h)
/-- a list of figures upon a sequence -/
def act1 : List Int → (Nat → Int) → Nat → Int
  | [], _, _ => 0
  | c :: L, s, n => c * s n + act1 L s (n + 1)
theorem act1_set (s : Nat → Int) (v : Int) : ∀ (l : List Int) (k n : Nat), k < l.length → act1 (l.set k v) s n = act1 l s n + (v - l.getD k 0) * s (n + k)
  | [], _, _, h => absurd h (by simp)
  | c :: L, 0, n, _ => by
    show v * s n + act1 L s (n + 1) = c * s n + act1 L s (n + 1) + (v - c) * s n
    rw [Int.sub_mul]; omega
  | c :: L, k + 1, n, h => by
    show c * s n + act1 (L.set k v) s (n + 1) = c * s n + act1 L s (n + 1) + (v - L.getD k 0) * s (n + (k + 1))
    rw [act1_set s v L k (n + 1) (by rw [List.length_cons] at h; omega), show n + 1 + k = n + (k + 1) by omega]; omega
theorem act1_wn (s : Nat → Int) : ∀ (l : List Int) (n : Nat), act1 (wn l) s n = act1 l s n
  | [], _ => rfl
  | x :: r, n => by
    have ih := act1_wn s r (n + 1)
    unfold wn
    cases e : wn r with
    | nil =>
      rw [e] at ih
      have i0 : act1 r s (n + 1) = 0 := ih.symm
      dsimp only
      split
      · rename_i h
        show (0 : Int) = x * s n + act1 r s (n + 1)
        rw [h, i0]; omega
      · show x * s n + 0 = x * s n + act1 r s (n + 1)
        rw [i0]
    | cons y t =>
      rw [e] at ih
      show x * s n + act1 (y :: t) s (n + 1) = x * s n + act1 r s (n + 1)
      rw [ih]
theorem act1_cg {p : Int} {s t : Nat → Int} (h : ∀ n, Cg p (s n) (t n)) : ∀ (l : List Int) (n : Nat), Cg p (act1 l s n) (act1 l t n)
  | [], _ => Cg.rfl
  | c :: L, n => ((h n).mul c).add (act1_cg h L (n + 1))
theorem act1_sh (s : Nat → Int) (u : Nat) : ∀ (l : List Int) (n : Nat), act1 l (fun m => s (m + u)) n = act1 l s (n + u)
  | [], _ => rfl
  | c :: L, n => by
    show c * s (n + u) + act1 L _ (n + 1) = c * s (n + u) + act1 L s (n + u + 1)
    rw [act1_sh s u L (n + 1), show n + 1 + u = n + u + 1 by omega]
theorem act1_rep (s : Nat → Int) : ∀ (k n : Nat), act1 (List.replicate k 0) s n = 0
  | 0, _ => rfl
  | k + 1, n => by
    show 0 * s n + act1 (List.replicate k 0) s (n + 1) = 0
    rw [act1_rep s k]; omega
theorem act1_app (s : Nat → Int) : ∀ (a b : List Int) (n : Nat), act1 (a ++ b) s n = act1 a s n + act1 b s (n + a.length)
  | [], b, n => by show act1 b s n = 0 + act1 b s (n + 0); rw [Nat.add_zero]; omega
  | c :: a, b, n => by
    show c * s n + act1 (a ++ b) s (n + 1) = c * s n + act1 a s (n + 1) + act1 b s (n + (a.length + 1))
    rw [act1_app s a b (n + 1), show n + 1 + a.length = n + (a.length + 1) by omega]; omega
variable {p : Int} {s : Nat → Int}
theorem act1_sub (f : Int) (st : Nat) : ∀ (ys : List Int) (j : Nat) (l : List Int) (n : Nat), st + j + ys.length ≤ l.length → Cg p (act1 (subRow p f st ys j l) s n) (act1 l s n - f * act1 ys s (n + st + j))
  | [], j, l, n, _ => Cg.of_eq (by show act1 l s n = act1 l s n - f * 0; omega)
  | y :: ys, j, l, n, h => by
    rw [List.length_cons] at h
    have ih := act1_sub f st ys (j + 1) (l.set (st + j) ((l.getD (st + j) 0 - f * y) % p)) n (by rw [List.length_set]; omega)
    rw [subRow_cons]
    refine ih.trans ?_
    rw [act1_set s _ l (st + j) n (by omega)]
    show Cg p _ (act1 l s n - f * (y * s (n + st + j) + act1 ys s (n + st + j + 1)))
    rw [show n + st + (j + 1) = n + st + j + 1 by omega, show n + (st + j) = n + st + j by omega]
    have m := ((Cg.mod p (l.getD (st + j) 0 - f * y)).sub (Cg.rfl (p := p) (a := l.getD (st + j) 0))).mulr (s (n + st + j))
    have m2 := ((Cg.rfl (p := p) (a := act1 l s n)).add m).sub (Cg.rfl (p := p) (a := f * act1 ys s (n + st + j + 1)))
    refine m2.trans (Cg.of_eq ?_)
    rw [Int.mul_add, ← Int.mul_assoc, show l.getD (st + j) 0 - f * y - l.getD (st + j) 0 = -(f * y) by omega, Int.neg_mul]
    omega
/-- told as nought -/
def Zs (p : Int) (s : Nat → Int) (f : List Int) : Prop := ∀ n, Cg p (act1 f s n) 0
theorem act1_restGo {o : List Int} (z : Zs p s o) (inv : Int) : ∀ (k : Nat) (l : List Int) (n : Nat), Cg p (act1 (restGo p inv o k l) s n) (act1 l s n)
  | 0, _, _ => Cg.rfl
  | k + 1, l, n => by
    unfold restGo
    split
    · exact Cg.rfl
    · rename_i h
      refine (act1_restGo z inv k _ n).trans ?_
      rw [act1_wn]
      refine (act1_sub _ _ o 0 l n (by omega)).trans ?_
      have := (Cg.rfl (p := p) (a := act1 l s n)).sub ((z (n + (l.length - o.length) + 0)).mul (l.getLastD 0 * inv % p))
      rw [Int.mul_zero, Int.sub_zero] at this
      exact this
theorem act1_rest {o : List Int} (z : Zs p s o) (l : List Int) (n : Nat) : Cg p (act1 (restP p l o) s n) (act1 l s n) := act1_restGo z _ _ _ _
theorem act1_pRow (i : Nat) (x : Int) : ∀ (ys : List Int) (j : Nat) (l : List Int) (n : Nat), i + j + ys.length ≤ l.length → Cg p (act1 (pRow p i x ys j l) s n) (act1 l s n + x * act1 ys s (n + i + j))
  | [], j, l, n, _ => Cg.of_eq (by show act1 l s n = act1 l s n + x * 0; omega)
  | y :: ys, j, l, n, h => by
    rw [List.length_cons] at h
    have ih := act1_pRow i x ys (j + 1) (l.set (i + j) ((l.getD (i + j) 0 + x * y) % p)) n (by rw [List.length_set]; omega)
    rw [pRow_cons]
    refine ih.trans ?_
    rw [act1_set s _ l (i + j) n (by omega)]
    show Cg p _ (act1 l s n + x * (y * s (n + i + j) + act1 ys s (n + i + j + 1)))
    rw [show n + i + (j + 1) = n + i + j + 1 by omega, show n + (i + j) = n + i + j by omega]
    have m := ((Cg.mod p (l.getD (i + j) 0 + x * y)).sub (Cg.rfl (p := p) (a := l.getD (i + j) 0))).mulr (s (n + i + j))
    have m2 := ((Cg.rfl (p := p) (a := act1 l s n)).add m).add (Cg.rfl (p := p) (a := x * act1 ys s (n + i + j + 1)))
    refine m2.trans (Cg.of_eq ?_)
    rw [Int.mul_add, ← Int.mul_assoc, show l.getD (i + j) 0 + x * y - l.getD (i + j) 0 = x * y by omega]
    omega
theorem act1_pAll (ys : List Int) : ∀ (xs : List Int) (i : Nat) (l : List Int) (n : Nat), i + xs.length + ys.length ≤ l.length + 1 → Cg p (act1 (pAll p ys xs i l) s n) (act1 l s n + act1 xs (act1 ys s) (n + i))
  | [], i, l, n, _ => Cg.of_eq (by show act1 l s n = act1 l s n + 0; omega)
  | x :: xs, i, l, n, h => by
    rw [List.length_cons] at h
    have ih := act1_pAll ys xs (i + 1) (pRow p i x ys 0 l) n (by rw [pRow_len]; omega)
    unfold pAll
    refine ih.trans ?_
    refine ((act1_pRow i x ys 0 l n (by omega)).add (Cg.rfl (a := act1 xs (act1 ys s) (n + (i + 1))))).trans (Cg.of_eq ?_)
    show _ = act1 l s n + (x * act1 ys s (n + i) + act1 xs (act1 ys s) (n + i + 1))
    rw [show n + (i + 1) = n + i + 1 by omega, Nat.add_zero]; omega
theorem act1_prod (xs ys : List Int) (n : Nat) : Cg p (act1 (prodP p xs ys) s n) (act1 xs (act1 ys s) n) := by
  unfold prodP
  rw [act1_wn]
  refine (act1_pAll ys xs 0 _ n (by rw [List.length_replicate]; omega)).trans (Cg.of_eq ?_)
  rw [act1_rep, Nat.add_zero]; omega
/-- told as x turned so far -/
def Sh (p : Int) (s : Nat → Int) (u : Nat) (f : List Int) : Prop := ∀ n, Cg p (act1 f s n) (s (n + u))
theorem sh_prod {f t : List Int} {u m : Nat} (hf : Sh p s u f) (ht : Sh p s m t) : Sh p s (u + m) (prodP p f t) := fun n => by
  refine (act1_prod f t n).trans ?_
  refine (act1_cg ht f n).trans ?_
  rw [act1_sh s m f n, show n + (u + m) = n + m + u by omega]
  exact hf (n + m)
theorem sh_rest {o f : List Int} {u : Nat} (z : Zs p s o) (h : Sh p s u f) : Sh p s u (restP p f o) := fun n => (act1_rest z f n).trans (h n)
theorem sh_prGo {md t : List Int} (z : Zs p s md) {m : Nat} (ht : Sh p s m t) : ∀ (k : Nat) (f : List Int) (u : Nat), Sh p s u f → Sh p s (u + k * m) (prGo p t md k f)
  | 0, f, u, h => by rw [Nat.zero_mul]; exact h
  | k + 1, f, u, h => by
    have := sh_prGo z ht k (restP p (prodP p f t) md) (u + m) (sh_rest z (sh_prod h ht))
    rw [show u + (k + 1) * m = u + m + k * m by rw [Nat.add_mul]; omega]
    exact this
theorem sh_pow {md t : List Int} (z : Zs p s md) {m : Nat} (ht : Sh p s m t) (k : Nat) : Sh p s (k * m) (powRest p t k md) := by
  have h1 : Sh p s 0 (restP p [1] md) := sh_rest z fun n => Cg.of_eq (by show 1 * s n + 0 = s (n + 0); rw [Nat.add_zero]; omega)
  have := sh_prGo z ht k _ 0 h1
  rw [Nat.zero_add] at this
  exact this
theorem act1_lessX (f : List Int) (n : Nat) : Cg p (act1 (lessX p f) s n) (act1 f s n - s (n + 1)) := by
  unfold lessX
  have hl : 1 < (f ++ List.replicate (2 - f.length) 0).length := by simp; omega
  rw [act1_wn, act1_set s _ _ 1 n hl]
  have e : act1 (f ++ List.replicate (2 - f.length) 0) s n = act1 f s n := by rw [act1_app, act1_rep]; omega
  rw [e]
  generalize (f ++ List.replicate (2 - f.length) 0).getD 1 0 = g
  have m := ((Cg.mod p (g - 1)).sub (Cg.rfl (p := p) (a := g))).mulr (s (n + 1))
  refine ((Cg.rfl (p := p) (a := act1 f s n)).add m).trans (Cg.of_eq ?_)
  rw [show g - 1 - g = -1 by omega]; omega
theorem z_com : ∀ (k : Nat) (a b : List Int), Zs p s a → Zs p s b → Zs p s (comGo p k a b)
  | 0, _, _, h, _ => h
  | k + 1, a, b, h, h' => by
    unfold comGo
    split
    · exact h
    · exact z_com k b _ h' fun n => (act1_rest h' a n).trans (h n)
theorem com_facts (hp : Prm p) : ∀ (k : Nat) (a b : List Int), a ≠ [] → Cf p a → Told a → Cf p b → Told b → comGo p k a b ≠ [] ∧ Cf p (comGo p k a b) ∧ Told (comGo p k a b)
  | 0, _, _, h, c, t, _, _ => ⟨h, c, t⟩
  | k + 1, a, b, h, c, t, c', t' => by
    unfold comGo
    split
    · exact ⟨h, c, t⟩
    · rename_i hb
      have := hp.le
      have f := restP_facts (p := p) (one := a) (by omega) hb (told_inv hp c' t' hb) c
      exact com_facts hp k b _ hb c' t' f.2.1 (f.2.2 t)
/-- a sequence that is not nought is not told as nought by one figure -/
theorem one_long (hp : Prm p) {g : List Int} (h0 : g ≠ []) (c : Cf p g) (t : Told g) (z : Zs p s g) {n0 : Nat} (hn : s n0 % p ≠ 0) : 1 < g.length := by
  have hpl := hp.le
  match g, h0, c, t, z with
  | [x], _, c, t, z =>
    exfalso
    have hx := c x List.mem_cons_self
    have x0 : x ≠ 0 := t.resolve_left (by simp)
    obtain ⟨y, _, hy⟩ := inv_there hp (f := x) (by omega) hx.2
    have h1 : Cg p (x * s n0) 0 := by
      have := z n0
      show Cg p (x * s n0) 0
      have e : act1 [x] s n0 = x * s n0 := by show x * s n0 + 0 = _; omega
      rw [e] at this
      exact this
    have h2 := h1.mul y
    rw [Int.mul_zero, ← Int.mul_assoc] at h2
    have h3 : Cg p (y * x) 1 := by
      have := (Cg.mod p (x * y)).symm
      rw [hy, Int.mul_comm] at this
      exact this
    have h4 := ((h3.mulr (s n0)).symm.trans h2).emod
    rw [Int.one_mul] at h4
    exact hn (by rw [h4]; exact Int.zero_emod p)
  | x :: y :: r, _, _, _, _ => rw [List.length_cons, List.length_cons]; omega
/-- a list that a sequence of the period p^j - 1 kills has a part of degree at most j -/
theorem cb_false (hp : Prm p) {md : List Int} (h0 : md ≠ []) (cm : Cf p md) (tm : Told md) (z : Zs p s md) {n0 : Nat} (hn : s n0 % p ≠ 0) {j : Nat} (per : ∀ n, Cg p (s (n + p.toNat ^ j)) (s (n + 1))) :
    ∀ (k i : Nat) (t : List Int), i < j → j ≤ i + k → Sh p s (p.toNat ^ i) t → cbGo p md k t = false
  | 0, i, t, h, h', _ => by omega
  | k + 1, i, t, h, h', ht => by
    have hpl := hp.le
    unfold cbGo
    split
    · rfl
    · rename_i hc
      have h1 := sh_pow z ht p.toNat
      rw [show p.toNat * p.toNat ^ i = p.toNat ^ (i + 1) by rw [Nat.pow_succ, Nat.mul_comm]] at h1
      by_cases e : i + 1 = j
      · exfalso
        rw [e] at h1
        have zl : Zs p s (lessX p (powRest p t p.toNat md)) := fun n => by
          refine (act1_lessX _ n).trans ?_
          have := ((h1 n).trans (per n)).sub (Cg.rfl (p := p) (a := s (n + 1)))
          rw [Int.sub_self] at this
          exact this
        have hi := told_inv hp cm tm h0
        have r1 := restP_facts (p := p) (one := [1]) (by omega) h0 hi (cf_one hpl.1)
        have cf := (prGo_facts (p := p) (by omega) h0 hi t p.toNat _ ⟨r1.1, r1.2.1⟩).2
        have lf := lessX_facts (p := p) (by omega) (xs := powRest p t p.toNat md) cf
        have cz := z_com ((lessX p (powRest p t p.toNat md)).length + 1) md _ z zl
        have cfa := com_facts hp ((lessX p (powRest p t p.toNat md)).length + 1) md (lessX p (powRest p t p.toNat md)) h0 cm tm lf.1 lf.2.1
        exact hc (one_long hp cfa.1 cfa.2.1 cfa.2.2 cz hn)
      · exact cb_false hp h0 cm tm z hn per k (i + 1) _ (by omega) (by omega) h1
theorem no_part (hp : Prm p) {md : List Int} (h0 : md ≠ []) (cm : Cf p md) (tm : Told md) (z : Zs p s md) {n0 : Nat} (hn : s n0 % p ≠ 0) {j : Nat} (j1 : 1 ≤ j) (hj : j ≤ (md.length - 1) / 2) (per : ∀ n, Cg p (s (n + p.toNat ^ j)) (s (n + 1))) : noPart p md = false :=
  cb_false hp h0 cm tm z hn per _ 0 [0, 1] (by omega) (by omega) fun n => Cg.of_eq (by
    show 0 * s n + (1 * s (n + 1) + 0) = s (n + p.toNat ^ 0)
    rw [Nat.pow_zero]; omega)
end TP
/-! PIt -/
set_option maxHeartbeats 4000000
/-! # lists of figures with the last one 1: the plain test by all divisors, and what parts them -/
namespace TP
def rowT (p h : Int) : List Int → Nat → List Int → List Int
  | [], _, l => l
  | [_], _, l => l
  | y :: z :: r, k, l => rowT p h (z :: r) (k + 1) (l.set k ((l.getD k 0 - h * y) % p))
def restT (p : Int) (o : List Int) : Nat → List Int → List Int
  | 0, l => l
  | k + 1, l => if l.length < o.length then l else restT p o k (rowT p (l.getLastD 0) o (l.length - o.length) l.dropLast)
def allQ (p : Int) : Nat → List (List Int)
  | 0 => [[1]]
  | m + 1 => (allQ p m).flatMap fun f => (List.range p.toNat).map fun i : Nat => (i : Int) :: f
def lawT (p : Int) (xs : List Int) : Bool := (List.range ((xs.length - 1) / 2)).all fun m => (allQ p (m + 1)).all fun o => (restT p o xs.length xs).any fun x => decide (x ≠ 0)
def sameT (p : Int) (m : Nat) : Bool := (allQ p m).all fun xs => lawT p xs == noPart p xs
theorem all_chunks {α : Type} (sz n : Nat) (l : List α) (f : α → Bool) (hl : l.length ≤ n * sz) (h : ∀ k, k < n → (((l.drop (k * sz)).take sz).all f) = true) : l.all f = true := by
  refine List.all_eq_true.mpr fun x hx => ?_
  obtain ⟨i, hi, rfl⟩ := List.getElem_of_mem hx
  have hs : 0 < sz := by
    rcases Nat.eq_zero_or_pos sz with z | z
    · subst z; omega
    · exact z
  have hk : i / sz < n := (Nat.div_lt_iff_lt_mul hs).mpr (by omega)
  refine List.all_eq_true.mp (h (i / sz) hk) _ ?_
  have e := Nat.div_add_mod i sz
  have hm := Nat.mod_lt i hs
  refine List.mem_of_getElem? (i := i % sz) ?_
  rw [List.getElem?_take_of_lt hm, List.getElem?_drop, Nat.mul_comm, e]
  exact List.getElem?_eq_getElem hi

theorem same2c_2_0 : ((((allQ 2 2).drop 0).take 32).all (fun xs => lawT 2 xs == noPart 2 xs)) = true := by decide +kernel
theorem same2c_2 : (allQ 2 2).all (fun xs => lawT 2 xs == noPart 2 xs) = true := all_chunks 32 1 _ _ (Nat.le_trans (Nat.le_of_eq (by decide +kernel : (allQ 2 2).length = 4)) (by decide)) fun k hk => by
  match k, hk with
  | 0, _ => exact same2c_2_0
  | k + 1, h => omega
theorem same2c_3_0 : ((((allQ 2 3).drop 0).take 32).all (fun xs => lawT 2 xs == noPart 2 xs)) = true := by decide +kernel
theorem same2c_3 : (allQ 2 3).all (fun xs => lawT 2 xs == noPart 2 xs) = true := all_chunks 32 1 _ _ (Nat.le_trans (Nat.le_of_eq (by decide +kernel : (allQ 2 3).length = 8)) (by decide)) fun k hk => by
  match k, hk with
  | 0, _ => exact same2c_3_0
  | k + 1, h => omega
theorem same2c_4_0 : ((((allQ 2 4).drop 0).take 32).all (fun xs => lawT 2 xs == noPart 2 xs)) = true := by decide +kernel
theorem same2c_4 : (allQ 2 4).all (fun xs => lawT 2 xs == noPart 2 xs) = true := all_chunks 32 1 _ _ (Nat.le_trans (Nat.le_of_eq (by decide +kernel : (allQ 2 4).length = 16)) (by decide)) fun k hk => by
  match k, hk with
  | 0, _ => exact same2c_4_0
  | k + 1, h => omega
theorem same2c_5_0 : ((((allQ 2 5).drop 0).take 32).all (fun xs => lawT 2 xs == noPart 2 xs)) = true := by decide +kernel
theorem same2c_5 : (allQ 2 5).all (fun xs => lawT 2 xs == noPart 2 xs) = true := all_chunks 32 1 _ _ (Nat.le_trans (Nat.le_of_eq (by decide +kernel : (allQ 2 5).length = 32)) (by decide)) fun k hk => by
  match k, hk with
  | 0, _ => exact same2c_5_0
  | k + 1, h => omega
theorem same2c_6_0 : ((((allQ 2 6).drop 0).take 32).all (fun xs => lawT 2 xs == noPart 2 xs)) = true := by decide +kernel
theorem same2c_6_1 : ((((allQ 2 6).drop 32).take 32).all (fun xs => lawT 2 xs == noPart 2 xs)) = true := by decide +kernel
theorem same2c_6 : (allQ 2 6).all (fun xs => lawT 2 xs == noPart 2 xs) = true := all_chunks 32 2 _ _ (Nat.le_trans (Nat.le_of_eq (by decide +kernel : (allQ 2 6).length = 64)) (by decide)) fun k hk => by
  match k, hk with
  | 0, _ => exact same2c_6_0
  | 1, _ => exact same2c_6_1
  | k + 2, h => omega
theorem same2c_7_0 : ((((allQ 2 7).drop 0).take 32).all (fun xs => lawT 2 xs == noPart 2 xs)) = true := by decide +kernel
theorem same2c_7_1 : ((((allQ 2 7).drop 32).take 32).all (fun xs => lawT 2 xs == noPart 2 xs)) = true := by decide +kernel
theorem same2c_7_2 : ((((allQ 2 7).drop 64).take 32).all (fun xs => lawT 2 xs == noPart 2 xs)) = true := by decide +kernel
theorem same2c_7_3 : ((((allQ 2 7).drop 96).take 32).all (fun xs => lawT 2 xs == noPart 2 xs)) = true := by decide +kernel
theorem same2c_7 : (allQ 2 7).all (fun xs => lawT 2 xs == noPart 2 xs) = true := all_chunks 32 4 _ _ (Nat.le_trans (Nat.le_of_eq (by decide +kernel : (allQ 2 7).length = 128)) (by decide)) fun k hk => by
  match k, hk with
  | 0, _ => exact same2c_7_0
  | 1, _ => exact same2c_7_1
  | 2, _ => exact same2c_7_2
  | 3, _ => exact same2c_7_3
  | k + 4, h => omega
theorem same2 : ([2, 3, 4, 5, 6, 7].all fun m => sameT 2 m) = true := List.all_eq_true.mpr fun m hm => by
  simp only [List.mem_cons, List.not_mem_nil, or_false] at hm
  rcases hm with rfl | rfl | rfl | rfl | rfl | rfl
  · exact same2c_2
  · exact same2c_3
  · exact same2c_4
  · exact same2c_5
  · exact same2c_6
  · exact same2c_7
theorem same3c_2_0 : ((((allQ 3 2).drop 0).take 32).all (fun xs => lawT 3 xs == noPart 3 xs)) = true := by decide +kernel
theorem same3c_2 : (allQ 3 2).all (fun xs => lawT 3 xs == noPart 3 xs) = true := all_chunks 32 1 _ _ (Nat.le_trans (Nat.le_of_eq (by decide +kernel : (allQ 3 2).length = 9)) (by decide)) fun k hk => by
  match k, hk with
  | 0, _ => exact same3c_2_0
  | k + 1, h => omega
theorem same3c_3_0 : ((((allQ 3 3).drop 0).take 32).all (fun xs => lawT 3 xs == noPart 3 xs)) = true := by decide +kernel
theorem same3c_3 : (allQ 3 3).all (fun xs => lawT 3 xs == noPart 3 xs) = true := all_chunks 32 1 _ _ (Nat.le_trans (Nat.le_of_eq (by decide +kernel : (allQ 3 3).length = 27)) (by decide)) fun k hk => by
  match k, hk with
  | 0, _ => exact same3c_3_0
  | k + 1, h => omega
theorem same3c_4_0 : ((((allQ 3 4).drop 0).take 32).all (fun xs => lawT 3 xs == noPart 3 xs)) = true := by decide +kernel
theorem same3c_4_1 : ((((allQ 3 4).drop 32).take 32).all (fun xs => lawT 3 xs == noPart 3 xs)) = true := by decide +kernel
theorem same3c_4_2 : ((((allQ 3 4).drop 64).take 32).all (fun xs => lawT 3 xs == noPart 3 xs)) = true := by decide +kernel
theorem same3c_4 : (allQ 3 4).all (fun xs => lawT 3 xs == noPart 3 xs) = true := all_chunks 32 3 _ _ (Nat.le_trans (Nat.le_of_eq (by decide +kernel : (allQ 3 4).length = 81)) (by decide)) fun k hk => by
  match k, hk with
  | 0, _ => exact same3c_4_0
  | 1, _ => exact same3c_4_1
  | 2, _ => exact same3c_4_2
  | k + 3, h => omega
theorem same3 : ([2, 3, 4].all fun m => sameT 3 m) = true := List.all_eq_true.mpr fun m hm => by
  simp only [List.mem_cons, List.not_mem_nil, or_false] at hm
  rcases hm with rfl | rfl | rfl
  · exact same3c_2
  · exact same3c_3
  · exact same3c_4
theorem same5c_2_0 : ((((allQ 5 2).drop 0).take 32).all (fun xs => lawT 5 xs == noPart 5 xs)) = true := by decide +kernel
theorem same5c_2 : (allQ 5 2).all (fun xs => lawT 5 xs == noPart 5 xs) = true := all_chunks 32 1 _ _ (Nat.le_trans (Nat.le_of_eq (by decide +kernel : (allQ 5 2).length = 25)) (by decide)) fun k hk => by
  match k, hk with
  | 0, _ => exact same5c_2_0
  | k + 1, h => omega
theorem same5c_3_0 : ((((allQ 5 3).drop 0).take 32).all (fun xs => lawT 5 xs == noPart 5 xs)) = true := by decide +kernel
theorem same5c_3_1 : ((((allQ 5 3).drop 32).take 32).all (fun xs => lawT 5 xs == noPart 5 xs)) = true := by decide +kernel
theorem same5c_3_2 : ((((allQ 5 3).drop 64).take 32).all (fun xs => lawT 5 xs == noPart 5 xs)) = true := by decide +kernel
theorem same5c_3_3 : ((((allQ 5 3).drop 96).take 32).all (fun xs => lawT 5 xs == noPart 5 xs)) = true := by decide +kernel
theorem same5c_3 : (allQ 5 3).all (fun xs => lawT 5 xs == noPart 5 xs) = true := all_chunks 32 4 _ _ (Nat.le_trans (Nat.le_of_eq (by decide +kernel : (allQ 5 3).length = 125)) (by decide)) fun k hk => by
  match k, hk with
  | 0, _ => exact same5c_3_0
  | 1, _ => exact same5c_3_1
  | 2, _ => exact same5c_3_2
  | 3, _ => exact same5c_3_3
  | k + 4, h => omega
theorem same5 : ([2, 3].all fun m => sameT 5 m) = true := List.all_eq_true.mpr fun m hm => by
  simp only [List.mem_cons, List.not_mem_nil, or_false] at hm
  rcases hm with rfl | rfl
  · exact same5c_2
  · exact same5c_3
theorem same7c_2_0 : ((((allQ 7 2).drop 0).take 49).all (fun xs => lawT 7 xs == noPart 7 xs)) = true := by decide +kernel
theorem same7c_2 : (allQ 7 2).all (fun xs => lawT 7 xs == noPart 7 xs) = true := all_chunks 49 1 _ _ (Nat.le_trans (Nat.le_of_eq (by decide +kernel : (allQ 7 2).length = 49)) (by decide)) fun k hk => by
  match k, hk with
  | 0, _ => exact same7c_2_0
  | k + 1, h => omega
theorem same7c_3_0 : ((((allQ 7 3).drop 0).take 49).all (fun xs => lawT 7 xs == noPart 7 xs)) = true := by decide +kernel
theorem same7c_3_1 : ((((allQ 7 3).drop 49).take 49).all (fun xs => lawT 7 xs == noPart 7 xs)) = true := by decide +kernel
theorem same7c_3_2 : ((((allQ 7 3).drop 98).take 49).all (fun xs => lawT 7 xs == noPart 7 xs)) = true := by decide +kernel
theorem same7c_3_3 : ((((allQ 7 3).drop 147).take 49).all (fun xs => lawT 7 xs == noPart 7 xs)) = true := by decide +kernel
theorem same7c_3_4 : ((((allQ 7 3).drop 196).take 49).all (fun xs => lawT 7 xs == noPart 7 xs)) = true := by decide +kernel
theorem same7c_3_5 : ((((allQ 7 3).drop 245).take 49).all (fun xs => lawT 7 xs == noPart 7 xs)) = true := by decide +kernel
theorem same7c_3_6 : ((((allQ 7 3).drop 294).take 49).all (fun xs => lawT 7 xs == noPart 7 xs)) = true := by decide +kernel
theorem same7c_3 : (allQ 7 3).all (fun xs => lawT 7 xs == noPart 7 xs) = true := all_chunks 49 7 _ _ (Nat.le_trans (Nat.le_of_eq (by decide +kernel : (allQ 7 3).length = 343)) (by decide)) fun k hk => by
  match k, hk with
  | 0, _ => exact same7c_3_0
  | 1, _ => exact same7c_3_1
  | 2, _ => exact same7c_3_2
  | 3, _ => exact same7c_3_3
  | 4, _ => exact same7c_3_4
  | 5, _ => exact same7c_3_5
  | 6, _ => exact same7c_3_6
  | k + 7, h => omega
theorem same7 : ([2, 3].all fun m => sameT 7 m) = true := List.all_eq_true.mpr fun m hm => by
  simp only [List.mem_cons, List.not_mem_nil, or_false] at hm
  rcases hm with rfl | rfl
  · exact same7c_2
  · exact same7c_3
end TP
/-! PIu -/
set_option maxHeartbeats 4000000
/-! # lists of figures with the last one 1: the plain test by all divisors, and what parts them -/
namespace TP
def dotL : List Int → List Int → Int
  | c :: L, x :: r => c * x + dotL L r
  | _, _ => 0
def winsB (p : Int) (o : List Int) : Nat → List Int → Bool
  | 0, _ => true
  | k + 1, l => decide (dotL o l % p = 0) && winsB p o k l.tail
def genQ (p : Int) (h : List Int) : Nat → List Int → List Int
  | 0, _ => []
  | k + 1, w => w.headD 0 :: genQ p h k (w.tail ++ [(-(dotL h w)) % p])
def tstB (p : Int) (o : List Int) (N : Nat) (L : List Int) : Bool := decide (0 < N) && (decide (L.length = N + o.length) && (decide (L.drop N = L.take o.length) && ((L.take N).any (fun x => decide (x % p ≠ 0)) && winsB p o N L)))
def tryB (p : Int) (o : List Int) (j : Nat) (h : List Int) : Bool := decide (j < o.length) && (decide (1 ≤ j) && tstB p o (p.toNat ^ j - 1) (genQ p h (p.toNat ^ j - 1 + o.length) (List.replicate (j - 1) 0 ++ [1])))
def partB (p : Int) (o : List Int) : Bool := decide (o.headD 1 = 0) || ((allQ p 1).any (fun h => tryB p o 1 h) || (decide (4 < o.length) && (allQ p 2).any (fun h => tryB p o 2 h) || tryB p o (o.length - 1) o))
theorem part2c_1_0 : ((((allQ 2 1).drop 0).take 25).all (partB 2)) = true := by decide +kernel
theorem part2c_1 : (allQ 2 1).all (partB 2) = true := all_chunks 25 1 _ _ (Nat.le_trans (Nat.le_of_eq (by decide +kernel : (allQ 2 1).length = 2)) (by decide)) fun k hk => by
  match k, hk with
  | 0, _ => exact part2c_1_0
  | k + 1, h => omega
theorem part2c_2_0 : ((((allQ 2 2).drop 0).take 25).all (partB 2)) = true := by decide +kernel
theorem part2c_2 : (allQ 2 2).all (partB 2) = true := all_chunks 25 1 _ _ (Nat.le_trans (Nat.le_of_eq (by decide +kernel : (allQ 2 2).length = 4)) (by decide)) fun k hk => by
  match k, hk with
  | 0, _ => exact part2c_2_0
  | k + 1, h => omega
theorem part2c_3_0 : ((((allQ 2 3).drop 0).take 25).all (partB 2)) = true := by decide +kernel
theorem part2c_3 : (allQ 2 3).all (partB 2) = true := all_chunks 25 1 _ _ (Nat.le_trans (Nat.le_of_eq (by decide +kernel : (allQ 2 3).length = 8)) (by decide)) fun k hk => by
  match k, hk with
  | 0, _ => exact part2c_3_0
  | k + 1, h => omega
theorem part2c_4_0 : ((((allQ 2 4).drop 0).take 25).all (partB 2)) = true := by decide +kernel
theorem part2c_4 : (allQ 2 4).all (partB 2) = true := all_chunks 25 1 _ _ (Nat.le_trans (Nat.le_of_eq (by decide +kernel : (allQ 2 4).length = 16)) (by decide)) fun k hk => by
  match k, hk with
  | 0, _ => exact part2c_4_0
  | k + 1, h => omega
theorem part2c_5_0 : ((((allQ 2 5).drop 0).take 25).all (partB 2)) = true := by decide +kernel
theorem part2c_5_1 : ((((allQ 2 5).drop 25).take 25).all (partB 2)) = true := by decide +kernel
theorem part2c_5 : (allQ 2 5).all (partB 2) = true := all_chunks 25 2 _ _ (Nat.le_trans (Nat.le_of_eq (by decide +kernel : (allQ 2 5).length = 32)) (by decide)) fun k hk => by
  match k, hk with
  | 0, _ => exact part2c_5_0
  | 1, _ => exact part2c_5_1
  | k + 2, h => omega
theorem part2 : ([1, 2, 3, 4, 5].all fun m => (allQ 2 m).all (partB 2)) = true := List.all_eq_true.mpr fun m hm => by
  simp only [List.mem_cons, List.not_mem_nil, or_false] at hm
  rcases hm with rfl | rfl | rfl | rfl | rfl
  · exact part2c_1
  · exact part2c_2
  · exact part2c_3
  · exact part2c_4
  · exact part2c_5
theorem part3c_1_0 : ((((allQ 3 1).drop 0).take 25).all (partB 3)) = true := by decide +kernel
theorem part3c_1 : (allQ 3 1).all (partB 3) = true := all_chunks 25 1 _ _ (Nat.le_trans (Nat.le_of_eq (by decide +kernel : (allQ 3 1).length = 3)) (by decide)) fun k hk => by
  match k, hk with
  | 0, _ => exact part3c_1_0
  | k + 1, h => omega
theorem part3c_2_0 : ((((allQ 3 2).drop 0).take 25).all (partB 3)) = true := by decide +kernel
theorem part3c_2 : (allQ 3 2).all (partB 3) = true := all_chunks 25 1 _ _ (Nat.le_trans (Nat.le_of_eq (by decide +kernel : (allQ 3 2).length = 9)) (by decide)) fun k hk => by
  match k, hk with
  | 0, _ => exact part3c_2_0
  | k + 1, h => omega
theorem part3c_3_0 : ((((allQ 3 3).drop 0).take 25).all (partB 3)) = true := by decide +kernel
theorem part3c_3_1 : ((((allQ 3 3).drop 25).take 25).all (partB 3)) = true := by decide +kernel
theorem part3c_3 : (allQ 3 3).all (partB 3) = true := all_chunks 25 2 _ _ (Nat.le_trans (Nat.le_of_eq (by decide +kernel : (allQ 3 3).length = 27)) (by decide)) fun k hk => by
  match k, hk with
  | 0, _ => exact part3c_3_0
  | 1, _ => exact part3c_3_1
  | k + 2, h => omega
theorem part3c_4_0 : ((((allQ 3 4).drop 0).take 25).all (partB 3)) = true := by decide +kernel
theorem part3c_4_1 : ((((allQ 3 4).drop 25).take 25).all (partB 3)) = true := by decide +kernel
theorem part3c_4_2 : ((((allQ 3 4).drop 50).take 25).all (partB 3)) = true := by decide +kernel
theorem part3c_4_3 : ((((allQ 3 4).drop 75).take 25).all (partB 3)) = true := by decide +kernel
theorem part3c_4 : (allQ 3 4).all (partB 3) = true := all_chunks 25 4 _ _ (Nat.le_trans (Nat.le_of_eq (by decide +kernel : (allQ 3 4).length = 81)) (by decide)) fun k hk => by
  match k, hk with
  | 0, _ => exact part3c_4_0
  | 1, _ => exact part3c_4_1
  | 2, _ => exact part3c_4_2
  | 3, _ => exact part3c_4_3
  | k + 4, h => omega
theorem part3 : ([1, 2, 3, 4].all fun m => (allQ 3 m).all (partB 3)) = true := List.all_eq_true.mpr fun m hm => by
  simp only [List.mem_cons, List.not_mem_nil, or_false] at hm
  rcases hm with rfl | rfl | rfl | rfl
  · exact part3c_1
  · exact part3c_2
  · exact part3c_3
  · exact part3c_4
theorem part5c_1_0 : ((((allQ 5 1).drop 0).take 25).all (partB 5)) = true := by decide +kernel
theorem part5c_1 : (allQ 5 1).all (partB 5) = true := all_chunks 25 1 _ _ (Nat.le_trans (Nat.le_of_eq (by decide +kernel : (allQ 5 1).length = 5)) (by decide)) fun k hk => by
  match k, hk with
  | 0, _ => exact part5c_1_0
  | k + 1, h => omega
theorem part5c_2_0 : ((((allQ 5 2).drop 0).take 25).all (partB 5)) = true := by decide +kernel
theorem part5c_2 : (allQ 5 2).all (partB 5) = true := all_chunks 25 1 _ _ (Nat.le_trans (Nat.le_of_eq (by decide +kernel : (allQ 5 2).length = 25)) (by decide)) fun k hk => by
  match k, hk with
  | 0, _ => exact part5c_2_0
  | k + 1, h => omega
theorem part5c_3_0 : ((((allQ 5 3).drop 0).take 25).all (partB 5)) = true := by decide +kernel
theorem part5c_3_1 : ((((allQ 5 3).drop 25).take 25).all (partB 5)) = true := by decide +kernel
theorem part5c_3_2 : ((((allQ 5 3).drop 50).take 25).all (partB 5)) = true := by decide +kernel
theorem part5c_3_3 : ((((allQ 5 3).drop 75).take 25).all (partB 5)) = true := by decide +kernel
theorem part5c_3_4 : ((((allQ 5 3).drop 100).take 25).all (partB 5)) = true := by decide +kernel
theorem part5c_3 : (allQ 5 3).all (partB 5) = true := all_chunks 25 5 _ _ (Nat.le_trans (Nat.le_of_eq (by decide +kernel : (allQ 5 3).length = 125)) (by decide)) fun k hk => by
  match k, hk with
  | 0, _ => exact part5c_3_0
  | 1, _ => exact part5c_3_1
  | 2, _ => exact part5c_3_2
  | 3, _ => exact part5c_3_3
  | 4, _ => exact part5c_3_4
  | k + 5, h => omega
theorem part5 : ([1, 2, 3].all fun m => (allQ 5 m).all (partB 5)) = true := List.all_eq_true.mpr fun m hm => by
  simp only [List.mem_cons, List.not_mem_nil, or_false] at hm
  rcases hm with rfl | rfl | rfl
  · exact part5c_1
  · exact part5c_2
  · exact part5c_3
theorem part7c_1_0 : ((((allQ 7 1).drop 0).take 14).all (partB 7)) = true := by decide +kernel
theorem part7c_1 : (allQ 7 1).all (partB 7) = true := all_chunks 14 1 _ _ (Nat.le_trans (Nat.le_of_eq (by decide +kernel : (allQ 7 1).length = 7)) (by decide)) fun k hk => by
  match k, hk with
  | 0, _ => exact part7c_1_0
  | k + 1, h => omega
theorem part7c_2_0 : ((((allQ 7 2).drop 0).take 14).all (partB 7)) = true := by decide +kernel
theorem part7c_2_1 : ((((allQ 7 2).drop 14).take 14).all (partB 7)) = true := by decide +kernel
theorem part7c_2_2 : ((((allQ 7 2).drop 28).take 14).all (partB 7)) = true := by decide +kernel
theorem part7c_2_3 : ((((allQ 7 2).drop 42).take 14).all (partB 7)) = true := by decide +kernel
theorem part7c_2 : (allQ 7 2).all (partB 7) = true := all_chunks 14 4 _ _ (Nat.le_trans (Nat.le_of_eq (by decide +kernel : (allQ 7 2).length = 49)) (by decide)) fun k hk => by
  match k, hk with
  | 0, _ => exact part7c_2_0
  | 1, _ => exact part7c_2_1
  | 2, _ => exact part7c_2_2
  | 3, _ => exact part7c_2_3
  | k + 4, h => omega
theorem part7c_3_0 : ((((allQ 7 3).drop 0).take 14).all (partB 7)) = true := by decide +kernel
theorem part7c_3_1 : ((((allQ 7 3).drop 14).take 14).all (partB 7)) = true := by decide +kernel
theorem part7c_3_2 : ((((allQ 7 3).drop 28).take 14).all (partB 7)) = true := by decide +kernel
theorem part7c_3_3 : ((((allQ 7 3).drop 42).take 14).all (partB 7)) = true := by decide +kernel
theorem part7c_3_4 : ((((allQ 7 3).drop 56).take 14).all (partB 7)) = true := by decide +kernel
theorem part7c_3_5 : ((((allQ 7 3).drop 70).take 14).all (partB 7)) = true := by decide +kernel
theorem part7c_3_6 : ((((allQ 7 3).drop 84).take 14).all (partB 7)) = true := by decide +kernel
theorem part7c_3_7 : ((((allQ 7 3).drop 98).take 14).all (partB 7)) = true := by decide +kernel
theorem part7c_3_8 : ((((allQ 7 3).drop 112).take 14).all (partB 7)) = true := by decide +kernel
theorem part7c_3_9 : ((((allQ 7 3).drop 126).take 14).all (partB 7)) = true := by decide +kernel
theorem part7c_3_10 : ((((allQ 7 3).drop 140).take 14).all (partB 7)) = true := by decide +kernel
theorem part7c_3_11 : ((((allQ 7 3).drop 154).take 14).all (partB 7)) = true := by decide +kernel
theorem part7c_3_12 : ((((allQ 7 3).drop 168).take 14).all (partB 7)) = true := by decide +kernel
theorem part7c_3_13 : ((((allQ 7 3).drop 182).take 14).all (partB 7)) = true := by decide +kernel
theorem part7c_3_14 : ((((allQ 7 3).drop 196).take 14).all (partB 7)) = true := by decide +kernel
theorem part7c_3_15 : ((((allQ 7 3).drop 210).take 14).all (partB 7)) = true := by decide +kernel
theorem part7c_3_16 : ((((allQ 7 3).drop 224).take 14).all (partB 7)) = true := by decide +kernel
theorem part7c_3_17 : ((((allQ 7 3).drop 238).take 14).all (partB 7)) = true := by decide +kernel
theorem part7c_3_18 : ((((allQ 7 3).drop 252).take 14).all (partB 7)) = true := by decide +kernel
theorem part7c_3_19 : ((((allQ 7 3).drop 266).take 14).all (partB 7)) = true := by decide +kernel
theorem part7c_3_20 : ((((allQ 7 3).drop 280).take 14).all (partB 7)) = true := by decide +kernel
theorem part7c_3_21 : ((((allQ 7 3).drop 294).take 14).all (partB 7)) = true := by decide +kernel
theorem part7c_3_22 : ((((allQ 7 3).drop 308).take 14).all (partB 7)) = true := by decide +kernel
theorem part7c_3_23 : ((((allQ 7 3).drop 322).take 14).all (partB 7)) = true := by decide +kernel
theorem part7c_3_24 : ((((allQ 7 3).drop 336).take 14).all (partB 7)) = true := by decide +kernel
theorem part7c_3 : (allQ 7 3).all (partB 7) = true := all_chunks 14 25 _ _ (Nat.le_trans (Nat.le_of_eq (by decide +kernel : (allQ 7 3).length = 343)) (by decide)) fun k hk => by
  match k, hk with
  | 0, _ => exact part7c_3_0
  | 1, _ => exact part7c_3_1
  | 2, _ => exact part7c_3_2
  | 3, _ => exact part7c_3_3
  | 4, _ => exact part7c_3_4
  | 5, _ => exact part7c_3_5
  | 6, _ => exact part7c_3_6
  | 7, _ => exact part7c_3_7
  | 8, _ => exact part7c_3_8
  | 9, _ => exact part7c_3_9
  | 10, _ => exact part7c_3_10
  | 11, _ => exact part7c_3_11
  | 12, _ => exact part7c_3_12
  | 13, _ => exact part7c_3_13
  | 14, _ => exact part7c_3_14
  | 15, _ => exact part7c_3_15
  | 16, _ => exact part7c_3_16
  | 17, _ => exact part7c_3_17
  | 18, _ => exact part7c_3_18
  | 19, _ => exact part7c_3_19
  | 20, _ => exact part7c_3_20
  | 21, _ => exact part7c_3_21
  | 22, _ => exact part7c_3_22
  | 23, _ => exact part7c_3_23
  | 24, _ => exact part7c_3_24
  | k + 25, h => omega
theorem part7 : ([1, 2, 3].all fun m => (allQ 7 m).all (partB 7)) = true := List.all_eq_true.mpr fun m hm => by
  simp only [List.mem_cons, List.not_mem_nil, or_false] at hm
  rcases hm with rfl | rfl | rfl
  · exact part7c_1
  · exact part7c_2
  · exact part7c_3
end TP
/-! PIv -/
set_option maxHeartbeats 4000000
/-! # a product of two lists of figures has a part -/
namespace TP
theorem act1_z {s : Nat → Int} : ∀ (l : List Int) (n : Nat), (∀ m, n ≤ m → s m = 0) → act1 l s n = 0
  | [], _, _ => rfl
  | c :: L, n, h => by
    show c * s n + act1 L s (n + 1) = 0
    rw [h n (Nat.le_refl _), act1_z L (n + 1) fun m hm => h m (by omega)]; omega
theorem act1_addL (s : Nat → Int) (c : Int) (t : Nat → Int) : ∀ (l : List Int) (n : Nat), act1 l (fun m => c * s m + t (m + 1)) n = c * act1 l s n + act1 l t (n + 1)
  | [], _ => by show (0 : Int) = c * 0 + 0; omega
  | d :: L, n => by
    show d * (c * s n + t (n + 1)) + act1 L _ (n + 1) = c * (d * s n + act1 L s (n + 1)) + (d * t (n + 1) + act1 L t (n + 1 + 1))
    rw [act1_addL s c t L (n + 1), Int.mul_add, Int.mul_add, ← Int.mul_assoc, ← Int.mul_assoc, Int.mul_comm d c]; omega
theorem act1_comm (s : Nat → Int) (b : List Int) : ∀ (a : List Int) (n : Nat), act1 a (act1 b s) n = act1 b (act1 a s) n
  | [], n => (act1_z b n fun _ _ => rfl).symm
  | c :: L, n => by
    show c * act1 b s n + act1 L (act1 b s) (n + 1) = act1 b (fun m => c * s m + act1 L s (m + 1)) n
    rw [act1_addL, act1_comm s b L (n + 1)]
theorem act1_eqs {s t : Nat → Int} : ∀ (l : List Int) (n m : Nat), (∀ i, i < l.length → s (n + i) = t (m + i)) → act1 l s n = act1 l t m
  | [], _, _, _ => rfl
  | c :: L, n, m, h => by
    show c * s n + act1 L s (n + 1) = c * t m + act1 L t (m + 1)
    have h0 := h 0 (by rw [List.length_cons]; omega)
    rw [Nat.add_zero, Nat.add_zero] at h0
    rw [h0, act1_eqs L (n + 1) (m + 1) fun i hi => by
      have := h (i + 1) (by rw [List.length_cons]; omega)
      rw [show n + (i + 1) = n + 1 + i by omega, show m + (i + 1) = m + 1 + i by omega] at this
      exact this]
theorem dot_act {s : Nat → Int} : ∀ (o l : List Int) (n : Nat), o.length ≤ l.length → (∀ i, i < o.length → s (n + i) = l.getD i 0) → dotL o l = act1 o s n
  | [], _, _, _, _ => by unfold dotL; rfl
  | c :: L, [], _, h, _ => absurd h (by rw [List.length_cons, List.length_nil]; omega)
  | c :: L, x :: r, n, h, hs => by
    have h0 := hs 0 (by rw [List.length_cons]; omega)
    rw [Nat.add_zero] at h0
    show c * x + dotL L r = c * s n + act1 L s (n + 1)
    rw [h0, dot_act L r (n + 1) (by rw [List.length_cons, List.length_cons] at h; omega) fun i hi => by
      have := hs (i + 1) (by rw [List.length_cons]; omega)
      rw [show n + (i + 1) = n + 1 + i by omega] at this
      exact this]
    rfl
theorem wins_at {p : Int} {o : List Int} : ∀ (k : Nat) (l : List Int), winsB p o k l = true → ∀ r, r < k → dotL o (l.drop r) % p = 0
  | 0, _, _, r, h => by omega
  | k + 1, l, h, r, hr => by
    unfold winsB at h
    rw [Bool.and_eq_true, decide_eq_true_eq] at h
    cases r with
    | zero => exact h.1
    | succ r =>
      have := wins_at k l.tail h.2 r (by omega)
      rw [List.drop_tail] at this
      exact this
/-- a sequence that the list kills, of the period p^j - 1 from the place 1 on -/
def Seqs (p : Int) (o : List Int) : Prop := ∃ (s : Nat → Int) (j n0 : Nat), 1 ≤ j ∧ j < o.length ∧ Zs p s o ∧ s n0 % p ≠ 0 ∧ ∀ n, Cg p (s (n + p.toNat ^ j)) (s (n + 1))
theorem seqs_0 {p : Int} (hp : 2 ≤ p) {o : List Int} (h2 : 2 ≤ o.length) (h : o.headD 1 = 0) : Seqs p o := by
  refine ⟨fun n => if n = 0 then 1 else 0, 1, 0, Nat.le_refl 1, by omega, fun n => Cg.of_eq ?_, ?_, fun n => Cg.of_eq ?_⟩
  · cases o with
    | nil => rfl
    | cons c L =>
      have hc : c = 0 := h
      show c * (if n = 0 then 1 else 0) + act1 L _ (n + 1) = 0
      rw [hc, act1_z L (n + 1) fun m hm => if_neg (by omega)]; omega
  · show (1 : Int) % p ≠ 0
    rw [Int.emod_eq_of_lt (by decide) (by omega)]; decide
  · have : p.toNat ^ 1 = p.toNat := Nat.pow_one _
    show (if n + p.toNat ^ 1 = 0 then (1 : Int) else 0) = if n + 1 = 0 then 1 else 0
    rw [this, if_neg (by omega), if_neg (by omega)]
theorem seqs_t {p : Int} {o h : List Int} {j : Nat} (t : tryB p o j h = true) : Seqs p o := by
  unfold tryB at t
  rw [Bool.and_eq_true, Bool.and_eq_true, decide_eq_true_eq, decide_eq_true_eq] at t
  obtain ⟨t1, t2, t3⟩ := t
  generalize genQ p h (p.toNat ^ j - 1 + o.length) (List.replicate (j - 1) 0 ++ [1]) = L at t3
  obtain ⟨N, hN⟩ : ∃ N, N = p.toNat ^ j - 1 := ⟨_, rfl⟩
  rw [← hN] at t3
  unfold tstB at t3
  rw [Bool.and_eq_true, Bool.and_eq_true, Bool.and_eq_true, Bool.and_eq_true, decide_eq_true_eq, decide_eq_true_eq, decide_eq_true_eq, List.any_eq_true] at t3
  obtain ⟨n1, n2, n3, ⟨x, hx, hx2⟩, n4⟩ := t3
  have at_ : ∀ k, k < N + o.length → L.getD (k % N) 0 = L.getD k 0 := fun k => by
    induction k using Nat.strongRecOn with
    | _ k ih =>
      intro hk
      by_cases c : k < N
      · rw [Nat.mod_eq_of_lt c]
      · have h1 := ih (k - N) (by omega) (by omega)
        have h2 : L.getD k 0 = L.getD (k - N) 0 := by
          rw [List.getD_eq_getElem?_getD, List.getD_eq_getElem?_getD]
          have h3 : (L.drop N)[k - N]? = (L.take o.length)[k - N]? := by rw [n3]
          rw [List.getElem?_drop, List.getElem?_take_of_lt (by omega), show N + (k - N) = k by omega] at h3
          rw [h3]
        rw [h2, ← h1, Nat.mod_eq_sub_mod (by omega)]
  obtain ⟨i, hi, hi2⟩ := List.getElem_of_mem hx
  have hiN : i < N := by rw [List.length_take] at hi; omega
  refine ⟨fun n => L.getD (n % N) 0, j, i, t2, t1, fun n => ?_, ?_, fun n => Cg.of_eq ?_⟩
  · have e1 : act1 o (fun n => L.getD (n % N) 0) n = act1 o (fun n => L.getD (n % N) 0) (n % N) := act1_eqs o n (n % N) fun i _ => by
      show L.getD ((n + i) % N) 0 = L.getD ((n % N + i) % N) 0
      rw [Nat.mod_add_mod]
    have hr : n % N < N := Nat.mod_lt _ n1
    have e2 := wins_at N L n4 (n % N) hr
    rw [dot_act (s := fun n => L.getD (n % N) 0) o (L.drop (n % N)) (n % N) (by rw [List.length_drop]; omega) fun i hi => by
      show L.getD ((n % N + i) % N) 0 = (L.drop (n % N)).getD i 0
      rw [at_ _ (by omega), List.getD_eq_getElem?_getD, List.getD_eq_getElem?_getD, List.getElem?_drop]] at e2
    rw [e1]
    exact ⟨_, (by rw [Int.sub_zero]; exact (Int.mul_ediv_cancel' (Int.dvd_of_emod_eq_zero e2)).symm)⟩
  · show L.getD (i % N) 0 % p ≠ 0
    rw [Nat.mod_eq_of_lt hiN]
    have e3 : L.getD i 0 = x := by
      rw [List.getElem_take] at hi2
      rw [List.getD_eq_getElem?_getD, List.getElem?_eq_getElem (by rw [List.length_take] at hi; omega), hi2]; rfl
    rw [e3]
    exact of_decide_eq_true hx2
  · show L.getD ((n + p.toNat ^ j) % N) 0 = L.getD ((n + 1) % N) 0
    rw [show n + p.toNat ^ j = n + 1 + N by omega, Nat.add_mod_right]
theorem seqs_part {p : Int} (hp : 2 ≤ p) {o : List Int} (h2 : 2 ≤ o.length) (h : partB p o = true) : Seqs p o := by
  unfold partB at h
  rw [Bool.or_eq_true, Bool.or_eq_true, Bool.or_eq_true, decide_eq_true_eq, Bool.and_eq_true] at h
  rcases h with h | h | h | h
  · exact seqs_0 hp h2 h
  · obtain ⟨x, _, hx⟩ := List.any_eq_true.mp h
    exact seqs_t hx
  · obtain ⟨x, _, hx⟩ := List.any_eq_true.mp h.2
    exact seqs_t hx
  · exact seqs_t h
def shortP (p : Int) : Nat := if p = 2 then 5 else if p = 3 then 4 else 3
theorem seqs_all {p : Int} (hp : Prm p) {m : Nat} {o : List Int} (h1 : 1 ≤ m) (hm : m ≤ shortP p) (ho : o ∈ allQ p m) (h2 : 2 ≤ o.length) : Seqs p o := by
  have key : ∀ ms : List Nat, (ms.all fun m => (allQ p m).all (partB p)) = true → m ∈ ms → Seqs p o := fun ms ha hi =>
    seqs_part hp.le.1 h2 (List.all_eq_true.mp (List.all_eq_true.mp ha _ hi) o ho)
  rcases hp with rfl | rfl | rfl | rfl
  · refine key _ part2 ?_
    have : shortP 2 = 5 := rfl
    simp only [List.mem_cons, List.not_mem_nil, or_false]; omega
  · refine key _ part3 ?_
    have : shortP 3 = 4 := rfl
    simp only [List.mem_cons, List.not_mem_nil, or_false]; omega
  · refine key _ part5 ?_
    have : shortP 5 = 3 := rfl
    simp only [List.mem_cons, List.not_mem_nil, or_false]; omega
  · refine key _ part7 ?_
    have : shortP 7 = 3 := rfl
    simp only [List.mem_cons, List.not_mem_nil, or_false]; omega
end TP
/-! KL12 -/
set_option maxHeartbeats 4000000
namespace TP.K12
open PySem PySem.Spec PyProof.Rows L2
local macro_rules | `(tactic| walk_at "w") => `(tactic| try simp only [wSeq, wNext, wRet, wRetO, wDrop, wAsg, wAsgO, wFz, wPar, wParO, wParO2, wPar3, wUnp, wAug, wApp, wExt, wPop, wPopD, wPut, wIfS, wFor, wC, wVar, wVarB, wOp, wUn, wCons, wNil, wLst, wTup, wCB, wCall, wCallB, wCallBN, wCallN, wCallNB, wCallNBN, wMeth, wCallF, eq_self, wProp, wEach, wEachN, wEnum, wZip, wRng1, wRng2, wDown, wLc, wScT, cList_l, cList_t, wNest, noc_fz, noc_ow, noc_any, noc_nil, inL_lst, inL_tup, isi_tup, isi_lst, lis_nil, lis_cons, wSc, tell_fz, tell_ow, tell_any, tlc, tln, wTest, wAnd, wOr, wNot, wAndV, wOrV, wNotV, wIf, wChain, wSl, wPart, wNoPart,
  fI0, fII, fNeg, fCat, fRep, fIx, fLen_lst, fLen_tup, fAbs, fInt, fMax2, fMin2, fDivmod, fList, fTuple, fRev, fRepr, fIsB, fIsiU, fIsiTU, wDNew, wDispI, c_is_oneU, fMake, wListRg1, wListZp, c_wnl, c_wnt, D.seq_lst, D.seq_tup, setsG, wipeG, List.getElem?_cons_succ, List.getElem?_cons_zero, List.set_cons_succ, List.set_cons_zero, List.length_map, List.length_cons, List.length_nil,
  fEqA_nn, fNeA_nn, LP_0, fEqA_int, fNeA_int, fEqA_li, fNeA_li, fEqA_le, fNeA_le, fEqA_nl, fNeA_nl, fEqA_str, fNeA_str, fIn_li, atI_li, isFld, true_and, enum_li, zip_li, each_li, D.ints_map, D.bls_map, fInts_li, li_app, li_snoc, li_set, li_rev, vs_len, vs_cf, vs_map0, flat_li, at2_0, at2_1, at3_0, at3_1, at3_2,
  c_Field_dot_size, c_Field_dot_turns, c_Field_dot_figures_of, cII, cAny, cIN, cI, c_check_field, c_check_one, c_check_many, c_Field_dot_prime, c_Field_dot_divided, c_law_draw, D.flat, D.flatL, and_true, v_add, v_mul, v_sub, v_tw])
variable {F : FD}
variable [Fj F] {Q : D → Prop}
theorem s_law_pick {ds : List D} (h0 : 1 ≤ ds.length) (h1 : ds.length < 100000) (q : ∀ d ∈ ds, Q d) : c_law_pick [.pot, .lst ds] Q := by
  refine e_law_pick ?_
  unfold w_law_pick
  walk_at "w"
  refine ⟨⟨by omega, by omega⟩, fun i i0 i1 => ?_⟩
  have h : i.toNat < ds.length := by omega
  have e := atI_nat (List.getElem?_eq_getElem h)
  rw [show ((i.toNat : Nat) : Int) = i by omega] at e
  simp only [e]
  exact q _ (List.getElem_mem h)
theorem rep_int (k : Nat) : (List.replicate k ([.int 0] : List D)).flatten = (List.replicate k (0 : Int)).map D.int := by
  induction k with
  | zero => rfl
  | succ n ih => rw [List.replicate_succ, List.flatten_cons, ih, List.replicate_succ]; rfl
theorem seq_cut {a b : WS} {E : WEnds} {ρ : GE} (h : ∀ T : WS, T = b → wSeq a T E ρ) : wSeq a b E ρ := h b rfl
theorem for_cut {js jk : List Nat} {it : WI} {body T : WS} {E : WEnds} {ρ : GE} (h : ∀ B : WS, B = body → wSeq (wFor js jk it B) T E ρ) : wSeq (wFor js jk it body) T E ρ := h body rfl
theorem for_cut' {js jk : List Nat} {it : WI} {body : WS} {E : WEnds} {ρ : GE} (h : ∀ B : WS, B = body → wFor js jk it B E ρ) : wFor js jk it body E ρ := h body rfl
theorem cutD_to (L : List Int) (m : Nat) (h : m ≤ L.length) : cutD (L.map D.int) none (some (m : Int)) = (L.take m).map D.int := by
  unfold cutD
  rw [sIx_hi _ _ (by rw [List.length_map]; exact h), HT.sIx_none]
  simp
theorem cutD_any (L : List Int) (m : Nat) : cutD (L.map D.int) none (some (m : Int)) = (L.take m).map D.int := by
  rcases Nat.lt_or_ge L.length m with c | c
  · unfold cutD
    rw [HT.sIx_none, HT.sIx_nat]
    simp only [List.length_map, List.drop_zero, Nat.sub_zero]
    rw [← List.map_take, List.take_of_length_le (by omega), List.take_of_length_le (by omega)]
  · exact cutD_to L m c
/-! texts of plain values -/
theorem pxs_shown : ∀ (ds : List D) (n : Nat), (∀ d ∈ ds, d.px.shown.length ≤ n) → ((PyData.shownAll (D.pxs ds)).map (·.length)).sum ≤ n * ds.length ∧ (PyData.shownAll (D.pxs ds)).length = ds.length
  | [], n, _ => by unfold D.pxs PyData.shownAll; exact ⟨Nat.zero_le _, rfl⟩
  | d :: ds, n, h => by
    obtain ⟨i1, i2⟩ := pxs_shown ds n fun x hx => h x (List.mem_cons_of_mem _ hx)
    have h1 := h d List.mem_cons_self
    unfold D.pxs PyData.shownAll
    simp only [List.map_cons, List.sum_cons, List.length_cons]
    rw [Nat.mul_succ]
    omega
theorem pxs_depth : ∀ (ds : List D) (k : Nat), (∀ d ∈ ds, d.px.depth ≤ k) → PyData.depthAll (D.pxs ds) ≤ k
  | [], k, _ => by unfold D.pxs PyData.depthAll; exact Nat.zero_le _
  | d :: ds, k, h => by
    have i := pxs_depth ds k fun x hx => h x (List.mem_cons_of_mem _ hx)
    have h1 := h d List.mem_cons_self
    unfold D.pxs
    simp only [PyData.depthAll]
    omega
theorem plBs_of : ∀ ds : List D, (∀ d ∈ ds, d.plB = true) → D.plBs ds = true
  | [], _ => rfl
  | d :: ds, h => by
    unfold D.plBs
    rw [h d List.mem_cons_self, plBs_of ds fun x hx => h x (List.mem_cons_of_mem _ hx)]; rfl
/-- plain, of at most so many signs and depths -/
structure Fl (os : List Str) (n k : Nat) (d : D) : Prop where
  pl : d.plB = true
  ln : d.px.shown.length ≤ n
  dp : d.px.depth ≤ k
  ok : d.okU os = true
theorem Fl.le {os : List Str} {n k n' k' : Nat} {d : D} (h : Fl os n k d) (h1 : n ≤ n') (h2 : k ≤ k') : Fl os n' k' d := ⟨h.pl, Nat.le_trans h.ln h1, Nat.le_trans h.dp h2, h.ok⟩
theorem fl_lst {os : List Str} {n k m : Nat} {ds : List D} (h : ∀ d ∈ ds, Fl os n k d) (hm : (n + 2) * ds.length + 3 ≤ m) : Fl os m (k + 1) (.lst ds) := by
  obtain ⟨h1, h2⟩ := pxs_shown ds n fun d hd => (h d hd).ln
  have h3 := listText_len_le (PyData.shownAll (D.pxs ds))
  have h4 := pxs_depth ds k fun d hd => (h d hd).dp
  refine ⟨by unfold D.plB; exact plBs_of ds fun d hd => (h d hd).pl, ?_, ?_, rfl⟩
  · unfold D.px
    simp only [PyData.shown]
    rw [Nat.add_mul] at hm
    omega
  · unfold D.px
    simp only [PyData.depth]
    omega
theorem fl_tup {os : List Str} {n k m : Nat} {ds : List D} (h : ∀ d ∈ ds, Fl os n k d) (hm : (n + 2) * ds.length + 3 ≤ m) : Fl os m (k + 1) (.tup ds) := by
  obtain ⟨h1, h2⟩ := pxs_shown ds n fun d hd => (h d hd).ln
  have h3 := tupleText_len_le (PyData.shownAll (D.pxs ds))
  have h4 := pxs_depth ds k fun d hd => (h d hd).dp
  refine ⟨by unfold D.plB; exact plBs_of ds fun d hd => (h d hd).pl, ?_, ?_, rfl⟩
  · unfold D.px
    simp only [PyData.shown]
    rw [Nat.add_mul] at hm
    omega
  · unfold D.px
    simp only [PyData.depth]
    omega
theorem fl_int {os : List Str} {i : Int} (h : i.natAbs < 10 ^ 12) : Fl os 13 0 (.int i) := by
  refine ⟨decide_eq_true (Nat.lt_trans h (by decide)), ?_, Nat.zero_le _, rfl⟩
  exact PyData.shown_int_le h
theorem Fl.shx {os : List Str} {n k : Nat} {d : D} (h : Fl os n k d) (hn : n ≤ many) (hk : k ≤ 20) : d.shx := ⟨h.pl, Nat.le_trans h.dp hk, many_ok (Nat.le_trans h.ln hn)⟩
/-- a list or tuple of at most so many elements of the field -/
def SomeV (F : FD) (n : Nat) (d : D) : Bool := d.allD F.size && decide ((d.seqD.getD []).length ≤ n)
theorem getD_nat {L : List Int} {i : Nat} (h : i < L.length) {z : Int} (e : z = (i : Int)) : atI L z = some (L.getD i 0) := by rw [e]; exact atI_natI L h
def pows : List (Int × List Int) := [(2, [1, 1, 1]), (2, [1, 1, 0, 1]), (2, [1, 0, 1, 1]), (2, [1, 1, 0, 0, 1]), (3, [1, 0, 1]), (3, [2, 1, 1]), (5, [2, 0, 1]), (2, [1, 0, 1, 0, 0, 1]), (2, [1, 1, 0, 0, 0, 0, 1]), (3, [1, 2, 0, 1]), (7, [1, 0, 1]), (5, [1, 1, 0, 1]), (2, [1, 1, 0, 0, 0, 0, 0, 1]), (3, [2, 1, 0, 0, 1])]
theorem sw_field {Q : D → Prop} (q : ∀ z ∈ pows, Q (.tup [.int z.1, .lst (z.2.map D.int)])) : c_law_field [.pot] Q := by
  refine e_law_field ?_
  unfold w_law_field
  walk_at "w"
  have key : ∀ d ∈ pows.map fun z => D.tup [.int z.1, .lst (z.2.map D.int)], Q d := fun d hd => by
    obtain ⟨z, hz, rfl⟩ := List.mem_map.mp hd
    exact q z hz
  have k2 : ∀ n m : Nat, ∀ d ∈ ((pows.map fun z => D.tup [.int z.1, .lst (z.2.map D.int)]).drop n).take m, Q d := fun n m d hd => key d (List.mem_of_mem_drop (List.mem_of_mem_take hd))
  refine ⟨by decide, ⟨by decide, by decide⟩, fun d _ _ => ?_⟩
  split
  · exact ⟨by decide, s_law_pick (by decide) (by decide) (k2 7 7)⟩
  · exact s_law_pick (by decide) (by decide) (k2 0 7)
theorem act1_take (t : Nat → Int) : ∀ (l : List Int) (i n : Nat), i < l.length → act1 (l.take (i + 1)) t n = act1 (l.take i) t n + l.getD i 0 * t (n + i)
  | [], _, _, h => absurd h (by simp)
  | c :: L, 0, n, _ => by show c * t n + 0 = 0 + c * t n; omega
  | c :: L, i + 1, n, h => by
    show c * t n + act1 (L.take (i + 1)) t (n + 1) = c * t n + act1 (L.take i) t (n + 1) + L.getD i 0 * t (n + (i + 1))
    rw [act1_take t L i (n + 1) (by rw [List.length_cons] at h; omega), show n + 1 + i = n + (i + 1) by omega]; omega
def CoA (p : Int) (a b L : List Int) : Prop := ∀ (s : Nat → Int) (n : Nat), Cg p (act1 L s n) (act1 a (act1 b s) n)
theorem sw_times {p : Int} (hp : 2 ≤ p) (hp2 : p ≤ 7) {a b : List Int} (ca : Cf p a) (cb : Cf p b) (a1 : 1 ≤ a.length) (b1 : 1 ≤ b.length) (ha : a.length ≤ 20) (hb : b.length ≤ 20) {Q : D → Prop} (q : ∀ L : List Int, L.length = a.length + b.length - 1 → CoA p a b L → Q (Li L)) : c_law_times [.int p, Li a, Li b] Q := by
  have dg : ∀ (l : List Int), Cf p l → ∀ i, 0 ≤ l.getD i 0 ∧ l.getD i 0 < p := fun l hc i => by
    rw [List.getD_eq_getElem?_getD]
    cases e : l[i]? with
    | none => exact ⟨Int.le_refl _, by show (0 : Int) < p; omega⟩
    | some c => exact hc c (List.mem_of_getElem? e)
  refine e_law_times ?_
  unfold w_law_times
  refine seq_cut fun T hT => ?_
  walk_at "w"
  have er : (List.replicate ((a.length : Int) + (b.length : Int) - 1).toNat ([D.int 0] : List D)).flatten = (List.replicate (a.length + b.length - 1) (0 : Int)).map D.int := by
    rw [show ((a.length : Int) + (b.length : Int) - 1).toNat = a.length + b.length - 1 by omega, rep_int]
  rw [er]
  refine ⟨⟨by omega, by omega, by unfold many; omega⟩, ?_⟩
  subst hT
  refine seq_cut fun T hT => ?_
  refine for_cut fun B hB => ?_
  walk_at "w"
  refine for_rngE (fun (L : List Int) ρ => ρ.set 3 (.ow (L.map D.int))) (fun i : Nat => [D.int (i : Int), D.int (a.getD i 0)]) (fun i L => L.length = a.length + b.length - 1 ∧ CoA p (a.take i) b L) (fun i hi L hL N B' R hN => ?_) (fun L hL => ?_) (List.replicate (a.length + b.length - 1) 0) ⟨List.length_replicate, fun s n => Cg.of_eq (by rw [act1_rep]; rfl)⟩
  · obtain ⟨l1, h1⟩ := hL
    subst hB
    walk_at "w"
    have bx := dg a ca i
    refine for_rngE (fun (M : List Int) ρ => ρ.set 3 (.ow (M.map D.int))) (fun j : Nat => [D.int (j : Int), D.int (b.getD j 0)]) (fun j M => M.length = a.length + b.length - 1 ∧ ∀ s n, Cg p (act1 M s n) (act1 L s n + a.getD i 0 * act1 (b.take j) s (n + i))) (fun j hj M hM N' B'' R' hN' => ?_) (fun M hM => ?_) L ⟨l1, fun s n => Cg.of_eq (by show act1 L s n = act1 L s n + a.getD i 0 * 0; omega)⟩
    · obtain ⟨l2, h2⟩ := hM
      have by_ := dg b cb j
      have e3 : (i : Int) + (j : Int) = ((i + j : Nat) : Int) := by omega
      have il : i + j < M.length := by omega
      walk_at "w"
      simp only [getD_nat il e3, Option.map_some]
      walk_at "w"
      simp only [ixN_of e3 il]
      refine ⟨.inl ⟨by omega, by omega⟩, ?_, .inr ⟨by omega, by omega⟩, hN' _ ⟨by rw [List.length_set]; exact l2, fun s n => ?_⟩⟩
      · exact ⟨by omega, by omega⟩
      · rw [act1_set s _ M (i + j) n il]
        have hx : Cg p (M.getD (i + j) 0 + a.getD i 0 * b.getD j 0 - (M.getD (i + j) 0 + a.getD i 0 * b.getD j 0) / p * p) (M.getD (i + j) 0 + a.getD i 0 * b.getD j 0) := ⟨-((M.getD (i + j) 0 + a.getD i 0 * b.getD j 0) / p), by rw [Int.mul_neg, Int.mul_comm p]; omega⟩
        have m := (hx.sub (Cg.rfl (p := p) (a := M.getD (i + j) 0))).mulr (s (n + (i + j)))
        refine ((h2 s n).add m).trans (Cg.of_eq ?_)
        rw [act1_take s b j (n + i) hj, show n + (i + j) = n + i + j by omega, show M.getD (i + j) 0 + a.getD i 0 * b.getD j 0 - M.getD (i + j) 0 = a.getD i 0 * b.getD j 0 by omega, Int.mul_add, ← Int.mul_assoc]
        omega
    · obtain ⟨l2, h2⟩ := hM
      walk_at "w"
      refine hN M ⟨l2, fun s n => ?_⟩
      rw [List.take_length] at h2
      refine (h2 s n).trans (((h1 s n).add Cg.rfl).trans (Cg.of_eq ?_))
      rw [act1_take _ a i n hi]
  · obtain ⟨l1, h1⟩ := hL
    rw [List.take_length] at h1
    dsimp only
    subst hT
    walk_at "w"
    exact q L l1 h1
theorem sw_drawn {p m : Int} (hp : 2 ≤ p) (hp2 : p ≤ 7) (hm : 3 ≤ m) (hm2 : m ≤ 7) {Q : D → Prop} (q : ∀ xs : List Int, Cf p xs → 2 ≤ xs.length → xs.length ≤ m.toNat → Q (Li (xs ++ [1]))) : c_law_drawn [.pot, .int p, .int m] Q := by
  refine e_law_drawn ?_
  unfold w_law_drawn
  walk_at "w"
  refine ⟨⟨by omega, by omega⟩, fun d d0 d1 => ?_⟩
  obtain ⟨k, hk⟩ : ∃ k : Nat, k = (2 + d).toNat := ⟨_, rfl⟩
  rw [← hk]
  refine ⟨⟨by omega, by omega⟩, by unfold rgD; rw [List.length_map, List.length_range]; unfold many; omega, ?_⟩
  unfold rgD
  refine lc_inv (fun r acc => ∃ xs : List Int, acc = xs.map D.int ∧ Cf p xs ∧ xs.length + r.length = k) (fun i r acc h Q q => ?_) (acc := []) ⟨[], rfl, fun x hx => (nomatch hx), by rw [List.length_range]; simp⟩ fun ds h => ?_
  · obtain ⟨xs, rfl, c, l⟩ := h
    walk_at "w"
    refine ⟨⟨by omega, by omega⟩, fun d d0 d1 => q _ ⟨xs ++ [d], by rw [List.map_append]; rfl, fun x hx => ?_, by rw [List.length_append, List.length_singleton]; rw [List.length_cons] at l; omega⟩⟩
    rcases List.mem_append.mp hx with h | h
    · exact c x h
    · rw [List.mem_singleton.mp h]; exact ⟨d0, d1⟩
  · obtain ⟨xs, e, c, l⟩ := h
    rw [List.nil_append] at e
    rw [List.length_nil, Nat.add_zero] at l
    subst e
    rw [List.length_map]
    refine ⟨by unfold many; omega, ?_⟩
    have := q xs c (by omega) (by omega)
    have e : (xs ++ [1]).map D.int = xs.map D.int ++ [D.int 1] := by rw [List.map_append]; rfl
    rw [show Li (xs ++ [1]) = .lst ((xs ++ [1]).map D.int) from rfl, e] at this
    exact this
theorem while_cut {junk : List Nat} {wt : WT} {body T : WS} {E : WEnds} {ρ : GE} (h : ∀ B : WS, B = body → wSeq (wWhile junk wt B) T E ρ) : wSeq (wWhile junk wt body) T E ρ := h body rfl
theorem allQ_mem {p : Int} (hp : 2 ≤ p) : ∀ (m : Nat) (o : List Int), o ∈ allQ p m → o.length = m + 1 ∧ Cf p o
  | 0, o, h => by
    rw [List.mem_singleton.mp h]
    exact ⟨rfl, fun x hx => by rw [List.mem_singleton.mp hx]; omega⟩
  | m + 1, o, h => by
    obtain ⟨f, hf, h2⟩ := List.mem_flatMap.mp h
    obtain ⟨i, hi, rfl⟩ := List.mem_map.mp h2
    have hi := List.mem_range.mp hi
    obtain ⟨h3, h4⟩ := allQ_mem hp m f hf
    refine ⟨by rw [List.length_cons, h3], fun x hx => ?_⟩
    rcases List.mem_cons.mp hx with rfl | hx
    · omega
    · exact h4 x hx
theorem sw_all {p : Int} (hp : 2 ≤ p) (hp2 : p ≤ 7) {m : Nat} (hm : (allQ p m).length ≤ 100) (hm2 : ∀ k, k ≤ m → (allQ p k).length ≤ 100) (h6 : m ≤ 6) {Q : D → Prop} (q : Q (.lst ((allQ p m).map fun o => Li o))) : c_law_all [.int p, .int (m : Int)] Q := by
  refine e_law_all ?_
  unfold w_law_all
  refine seq_cut fun T hT => ?_
  walk_at "w"
  subst hT
  refine seq_cut fun T hT => ?_
  refine for_cut fun B hB => ?_
  walk_at "w"
  unfold rgD
  refine ⟨⟨by omega, by omega⟩, ?_⟩
  refine for_rngE (fun (L : List (List Int)) ρ => ρ.set 2 (.fz (.lst (L.map fun o => Li o)))) (fun i : Nat => [D.int (0 + (i : Int))]) (fun i L => L = allQ p i) (fun i hi L hL N B' R hN => ?_) (fun L hL => ?_) [[1]] rfl
  · subst hB
    refine seq_cut fun T2 hT2 => ?_
    walk_at "w"
    subst hT2
    refine seq_cut fun T2 hT2 => ?_
    refine for_cut fun B hB => ?_
    walk_at "w"
    rw [List.map_map, show ((fun d : D => [d]) ∘ fun o : List Int => Li o) = fun o : List Int => [Li o] from rfl]
    have hLi := hm2 i (by omega)
    rw [← hL] at hLi
    refine for_invO (fun M : List (List Int) => [TP.G.fz (D.int p), TP.G.fz (D.int (m : Int)), TP.G.fz (D.lst (L.map fun o => Li o)), TP.G.fz (D.int (0 + (i : Int))), TP.G.ow (M.map fun o => Li o), TP.G.any, TP.G.any]) (fun o : List Int => [Li o]) (fun rr M => ∃ l, L = l ++ rr ∧ M = l.flatMap fun f => (List.range p.toNat).map fun i : Nat => (i : Int) :: f) (fun f rr M hP N' B'' R' hN' => ?_) (fun M hP => ?_) L [] ⟨[], rfl, rfl⟩
    · obtain ⟨l, e1, rfl⟩ := hP
      have hN2 := hN' _ ⟨l ++ [f], by rw [e1]; simp, rfl⟩
      clear hN'
      rw [List.flatMap_append] at hN2
      have lf : ((l.flatMap fun f => (List.range p.toNat).map fun i : Nat => (i : Int) :: f)).length ≤ 700 := by
        have : ((l.flatMap fun f => (List.range p.toNat).map fun i : Nat => (i : Int) :: f)).length = l.length * p.toNat := by
          clear e1 hN2
          induction l with
          | nil => simp
          | cons x r ih => rw [List.flatMap_cons, List.length_append, ih, List.length_map, List.length_range, List.length_cons, Nat.add_mul]; omega
        rw [this]
        have h1 : l.length ≤ 100 := by have := congrArg List.length e1; rw [List.length_append] at this; omega
        have h2 : p.toNat ≤ 7 := by omega
        exact Nat.mul_le_mul h1 h2
      subst hB
      walk_at "w"
      unfold rgD
      refine ⟨⟨by omega, by omega⟩, by rw [List.length_map, List.length_range]; unfold many; omega, ?_⟩
      refine lc_map (item := fun i : Nat => [D.int (0 + (i : Int))]) (fun i : Nat => Li ((i : Int) :: f)) (fun i2 hi2 Q q => ?_) ?_
      · walk_at "w"
        have fl := (allQ_mem hp i f (by rw [← hL, e1]; exact List.mem_append_right _ List.mem_cons_self)).1
        rw [Int.zero_add]
        exact ⟨by unfold many; omega, q⟩
      · rw [List.length_map, List.length_range]
        refine ⟨by unfold many; omega, ?_⟩
        rw [List.map_append, List.flatMap_cons, List.flatMap_nil, List.append_nil, List.map_map] at hN2
        exact hN2
    · obtain ⟨l, e1, rfl⟩ := hP
      rw [List.append_nil] at e1
      dsimp only
      subst hT2
      walk_at "w"
      refine hN _ ?_
      rw [← e1, hL]; rfl
  · dsimp only
    subst hT
    walk_at "w"
    rw [hL]
    exact q
theorem rowT_step {p h : Int} {o : List Int} {i k : Nat} (hi : i + 1 < o.length) (l : List Int) : rowT p h (o.drop i) k l = rowT p h (o.drop (i + 1)) (k + 1) (l.set k ((l.getD k 0 - h * o.getD i 0) % p)) := by
  have e1 : o.drop i = o[i] :: o.drop (i + 1) := List.drop_eq_getElem_cons (by omega)
  have e2 : o.drop (i + 1) = o[i + 1] :: o.drop (i + 1 + 1) := List.drop_eq_getElem_cons hi
  have e3 : o.getD i 0 = o[i] := by rw [List.getD_eq_getElem?_getD, List.getElem?_eq_getElem (by omega)]; rfl
  rw [e1, e2, e3]; rfl
theorem rowT_end {p h : Int} (o : List Int) (k : Nat) (l : List Int) : rowT p h (o.drop (o.length - 1)) k l = l := by
  by_cases c : o = []
  · subst c; rfl
  · have : (o.drop (o.length - 1)).length = 1 := by
      rw [List.length_drop]
      have := List.length_pos_iff.mpr c
      omega
    match o.drop (o.length - 1), this with
    | [x], _ => rfl
theorem sw_rest {p : Int} (hp : 2 ≤ p) (hp2 : p ≤ 7) {o xs : List Int} (d : D) (hd : d = Li xs ∨ d = .tup (xs.map D.int)) (co : Cf p o) (cx : Cf p xs) (o1 : 2 ≤ o.length) (lo : o.length ≤ 20) (lx : xs.length ≤ 20) {Q : D → Prop} (q : Q (Li (restT p o xs.length xs))) : c_law_rest [.int p, d, Li o] Q := by
  have dg : ∀ (l : List Int), Cf p l → ∀ i, 0 ≤ l.getD i 0 ∧ l.getD i 0 < p := fun l hc i => by
    rw [List.getD_eq_getElem?_getD]
    cases e : l[i]? with
    | none => exact ⟨Int.le_refl _, by show (0 : Int) < p; omega⟩
    | some c => exact hc c (List.mem_of_getElem? e)
  refine e_law_rest ?_
  unfold w_law_rest
  refine seq_cut fun T hT => ?_
  have go : T { nx := fun _ => False, rt := Q } [.fz (.int p), .fz d, .fz (Li o), .ow (xs.map D.int), .any, .any, .any, .any] := by
    subst hT
    refine seq_cut fun T hT => ?_
    refine while_cut fun B hB => ?_
    refine while_invE (fun (L : List Int) ρ => ρ.set 3 (.ow (L.map D.int))) (fun L => restT p o L.length L = restT p o xs.length xs ∧ Cf p L ∧ L.length ≤ 20) (fun L => L.length) xs ⟨rfl, cx, lx⟩ (fun L hL N B' R hN => ?_)
    obtain ⟨h1, h2, h3⟩ := hL
    walk_at "w"
    by_cases c : o.length ≤ L.length
    · rw [decide_eq_true (show ((o.length : Nat) : Int) ≤ ((L.length : Nat) : Int) by omega), if_pos rfl]
      subst hB
      obtain ⟨k, hk⟩ : ∃ k, L.length = k + 1 := ⟨L.length - 1, by omega⟩
      refine seq_cut fun T2 hT2 => ?_
      walk_at "w"
      have elast : L[L.length - 1]? = some (L.getLastD 0) := by
        rw [← List.getLast?_eq_getElem?, List.getLastD_eq_getLast?]
        cases e : L.getLast? with
        | none => rw [List.getLast?_eq_none_iff] at e; subst e; exact absurd hk (by simp)
        | some x => rfl
      rw [List.getElem?_map, elast]
      dsimp only [Option.map_some]
      rw [show (L.map D.int).dropLast = L.dropLast.map D.int from (List.map_dropLast ..).symm]
      have ldl : L.dropLast.length = L.length - 1 := List.length_dropLast
      have hlast := h2 (L.getLastD 0) (List.mem_of_getElem? elast)
      have cdl : Cf p L.dropLast := fun x hx => h2 x ((List.dropLast_sublist L).subset hx)
      generalize hh : L.getLastD 0 = hd at hlast ⊢
      subst hT2
      refine for_cut' fun B2 hB2 => ?_
      walk_at "w"
      unfold rgD
      refine ⟨⟨by omega, by omega⟩, ?_⟩
      refine for_rngE (fun (M : List Int) ρ => ρ.set 3 (.ow (M.map D.int))) (fun i : Nat => [D.int (0 + (i : Int))]) (fun i M => rowT p hd (o.drop i) (L.length - o.length + i) M = rowT p hd o (L.length - o.length) L.dropLast ∧ Cf p M ∧ M.length = L.length - 1) (fun i hi M hM N' B' R' hN' => ?_) (fun M hM => ?_) L.dropLast ⟨rfl, cdl, ldl⟩
      · obtain ⟨m1, m2, m3⟩ := hM
        subst hB2
        refine seq_cut fun T3 hT3 => ?_
        walk_at "w"
        have e3 : (M.length : Int) - (o.length : Int) + 1 + (0 + (i : Int)) = ((L.length - o.length + i : Nat) : Int) := by omega
        have il : L.length - o.length + i < M.length := by omega
        rw [e3]
        have gb := dg M m2 (L.length - o.length + i)
        have go := dg o co i
        subst hT3
        refine seq_cut fun T3 hT3 => ?_
        walk_at "w"
        simp only [getD_nat il rfl, getD_nat (show i < o.length by omega) (Int.zero_add _), Option.map_some]
        walk_at "w"
        refine ⟨.inl ⟨by omega, by omega⟩, ?_⟩
        subst hT3
        walk_at "w"
        simp only [ixN_of rfl il]
        have ex : M.getD (L.length - o.length + i) 0 - hd * o.getD i 0 - (M.getD (L.length - o.length + i) 0 - hd * o.getD i 0) / p * p = (M.getD (L.length - o.length + i) 0 - hd * o.getD i 0) % p := by
          rw [Int.emod_def, Int.mul_comm p]
        rw [ex]
        have b0 := Int.emod_nonneg (M.getD (L.length - o.length + i) 0 - hd * o.getD i 0) (show p ≠ 0 by omega)
        have b1 := Int.emod_lt_of_pos (M.getD (L.length - o.length + i) 0 - hd * o.getD i 0) (show 0 < p by omega)
        refine ⟨⟨by omega, by omega⟩, .inr ⟨by omega, by omega⟩, hN' _ ⟨?_, ?_, by rw [List.length_set]; exact m3⟩⟩
        · rw [← m1, rowT_step (o := o) (i := i) (by omega) M, show L.length - o.length + (i + 1) = L.length - o.length + i + 1 by omega]
        · intro x hx
          rcases List.mem_or_eq_of_mem_set hx with h | h
          · exact m2 x h
          · rw [h]; exact ⟨b0, b1⟩
      · obtain ⟨m1, m2, m3⟩ := hM
        rw [show ((o.length : Int) - 1).toNat = o.length - 1 by omega, rowT_end] at m1
        refine hN M ⟨?_, m2, by omega⟩ (by omega)
        rw [← h1, hk, m3, hk, Nat.add_sub_cancel]
        show _ = (if L.length < o.length then L else restT p o k (rowT p (L.getLastD 0) o (L.length - o.length) L.dropLast))
        rw [if_neg (by omega), hh, ← m1]
    · rw [decide_eq_false (show ¬ ((o.length : Nat) : Int) ≤ ((L.length : Nat) : Int) by omega), if_neg (by decide)]
      subst hT
      walk_at "w"
      have e : restT p o L.length L = L := by
        cases hl : L.length with
        | zero => rfl
        | succ k => show (if L.length < o.length then L else _) = L; rw [if_pos (by omega)]
      rw [← h1, e] at q
      exact q
  rcases hd with rfl | rfl
  · walk_at "w"
    exact go
  · walk_at "w"
    exact go
def lawV (p : Int) (d : D) : Bool := match d.seqD with
  | none => false
  | some ds => decide (3 ≤ ds.length) && decide (ds.length ≤ 13) && (ds.all (D.belowD p) && (decide ((ds.map D.intD).getLastD 0 = 1) && lawT p (ds.map D.intD)))
theorem isT_seq (d : D) : (d.isT "list" || d.isT "tuple") = d.seqD.isSome := by
  cases d <;> first | rfl | decide
theorem below_item {p : Int} {d : D} (h : d.okU [] = true) {ρ : GE} {i j : Nat} (hi : ρ[i]? = some (.fz d)) (hj : ρ[j]? = some (.fz (.int p))) {Q : D → Prop} (q : Q (.bl (d.belowD p))) : wAndV (wUn (fIsiU [] "int") (wVarB i)) (wAndV (wNotV (wUn (fIsiU [] "bool") (wVarB i))) (wChain fLe fLt (wC (.int 0)) (wVarB i) (wVarB j))) ρ Q := by
  have tI : ∀ k : Int, D.isT "int" (.int k) = true := fun k => show (kitB "int" "int").getD false = true by decide
  have tB : ∀ k : Int, D.isT "bool" (.int k) = false := fun k => show (kitB "int" "bool").getD false = false by decide
  have bI : ∀ b : Bool, D.isT "int" (.bl b) = true := fun k => show (kitB "bool" "int").getD false = true by decide
  have bB : ∀ b : Bool, D.isT "bool" (.bl b) = true := fun k => show (kitB "bool" "bool").getD false = true by decide
  cases d with
  | int k =>
    walk_at "w"
    simp only [hi, hj]
    refine ⟨h, ?_⟩
    rw [tI k, if_pos rfl]
    refine ⟨h, ?_⟩
    rw [tB k, if_pos (show (!false) = true from rfl)]
    walk_at "w"
    have q : Q (.bl (decide (0 ≤ k) && decide (k < p))) := q
    by_cases c : 0 ≤ k
    · rw [decide_eq_true c, if_pos rfl]
      rw [decide_eq_true c, Bool.true_and] at q
      exact q
    · rw [decide_eq_false c, if_neg Bool.false_ne_true]
      rw [decide_eq_false c, Bool.false_and] at q
      exact q
  | bl b =>
    walk_at "w"
    simp only [hi, hj]
    refine ⟨h, ?_⟩
    rw [bI b, if_pos rfl]
    refine ⟨h, ?_⟩
    rw [bB b, if_neg (show ¬ (!true) = true by decide)]
    exact q
  | fn s => exact nomatch (show false = true from h)
  | pot => exact nomatch (show false = true from h)
  | fld F => exact absurd (show decide (("Field" : Str) ∈ ([] : List Str)) = true from h) (by simp)
  | obj C a b => exact absurd (show decide (C ∈ ([] : List Str)) = true from h) (by simp)
  | _ =>
    walk_at "w"
    simp only [hi, hj]
    refine ⟨h, ?_⟩
    rw [if_neg (by show ¬ false = true; decide)]
    exact q
theorem below_ints {p : Int} : ∀ {ds : List D}, ds.all (D.belowD p) = true → ∃ xs : List Int, ds = xs.map D.int ∧ Cf p xs
  | [], _ => ⟨[], rfl, fun x hx => nomatch hx⟩
  | d :: r, h => by
    rw [List.all_cons, Bool.and_eq_true] at h
    obtain ⟨xs, rfl, c⟩ := below_ints h.2
    cases d with
    | int i =>
      have h1 := h.1
      unfold D.belowD at h1
      rw [Bool.and_eq_true, decide_eq_true_eq, decide_eq_true_eq] at h1
      refine ⟨i :: xs, rfl, fun x hx => ?_⟩
      rcases List.mem_cons.mp hx with rfl | hx
      · exact h1
      · exact c x hx
    | _ => exact nomatch (show false = true from h.1)
theorem map_intD (xs : List Int) : (xs.map D.int).map D.intD = xs := by
  rw [List.map_map]
  exact List.map_id' _
theorem at_lastI {xs : List Int} (h : xs ≠ []) : atI xs (-1) = some (xs.getLastD 0) := by
  have hp := List.length_pos_iff.mpr h
  unfold atI ixN
  rw [if_neg (show ¬ (0 : Int) ≤ -1 by decide), if_pos (by omega), show (-1 + (xs.length : Int)).toNat = xs.length - 1 by omega]
  show xs[xs.length - 1]? = _
  rw [← List.getLast?_eq_getElem?, List.getLastD_eq_getLast?]
  cases e : xs.getLast? with
  | none => rw [List.getLast?_eq_none_iff] at e; exact absurd e h
  | some x => rfl
theorem fAll_bls (ns : List Bool) (Q : D → Prop) : fAll [.lst (ns.map D.bl)] Q = Q (.bl (ns.all id)) := by
  unfold fAll
  simp only [D.bls_map]
theorem all_mapId {α : Type} (f : α → Bool) (l : List α) : (l.map f).all id = l.all f := by rw [List.all_map]; rfl
theorem any_same (l : List Int) : (l.any fun x => decide (x ≠ 0)) = l.any (· != 0) := by
  congr 1
  funext x
  by_cases h : x = 0
  · subst h; rfl
  · rw [decide_eq_true h]; exact (bne_iff_ne.mpr h).symm
theorem seq_is {d : D} {ds : List D} (e : d.seqD = some ds) : d = .lst ds ∨ d = .tup ds := by
  cases d <;> first | (cases e; exact .inl rfl) | (cases e; exact .inr rfl) | (cases e; done)
theorem sw_is {p : Int} (hp : 2 ≤ p) (hp2 : p ≤ 7) {d : D} (ok : d.okU [] = true) (okl : ∀ ds, d.seqD = some ds → ds.all (D.okU []) = true ∧ ds.length ≤ 20)
    (hb : ∀ ds, d.seqD = some ds → ds.all (D.belowD p) = true → (ds.map D.intD).getLastD 0 = 1 → ∀ k, k ≤ (ds.length - 1) / 2 → (allQ p k).length ≤ 100 ∧ k ≤ 6) {Q : D → Prop} (q : Q (.bl (lawV p d))) : c_law_is_modulus [.int p, d] Q := by
  refine e_law_is_modulus ?_
  unfold w_law_is_modulus
  refine seq_cut fun T hT => ?_
  walk_at "w"
  rw [isT_seq]
  refine ⟨ok, ?_⟩
  cases e : d.seqD with
  | none =>
    rw [if_pos (show (!(none : Option (List D)).isSome) = true from rfl), if_pos trivial]
    rw [show lawV p d = false by unfold lawV; rw [e]] at q
    exact q
  | some ds =>
    obtain ⟨o1, o2⟩ := okl ds e
    have hb2 := hb ds e
    rw [if_neg (show ¬ (!(some ds).isSome) = true from fun z => nomatch z)]
    have ev : lawV p d = (decide (3 ≤ ds.length) && decide (ds.length ≤ 13) && (ds.all (D.belowD p) && (decide ((ds.map D.intD).getLastD 0 = 1) && lawT p (ds.map D.intD)))) := by unfold lawV; rw [e]
    rw [ev] at q
    rcases seq_is e with rfl | rfl
    · clear e ev hb okl ok
      walk_at "w"
      by_cases c3 : 3 ≤ ds.length
      case neg =>
        rw [decide_eq_false (show ¬ (3 : Int) ≤ ((ds.length : Nat) : Int) by omega), if_neg (by decide), if_pos (by decide)]
        rw [decide_eq_false c3] at q
        exact q
      rw [decide_eq_true (show (3 : Int) ≤ ((ds.length : Nat) : Int) by omega), if_pos rfl]
      by_cases c13 : ds.length ≤ 13
      case neg =>
        rw [decide_eq_false (show ¬ ((ds.length : Nat) : Int) ≤ 13 by omega), if_pos (by decide)]
        rw [decide_eq_false c13, Bool.and_false] at q
        exact q
      rw [decide_eq_true (show ((ds.length : Nat) : Int) ≤ 13 by omega), if_neg (by decide)]
      rw [decide_eq_true c3, decide_eq_true c13, Bool.true_and, Bool.true_and] at q
      subst hT
      refine seq_cut fun T hT => ?_
      walk_at "w"
      refine ⟨by unfold many; omega, ?_⟩
      refine lc_map (item := fun d : D => [d]) (fun d => .bl (d.belowD p)) (fun d hd Q q => below_item (List.all_eq_true.mp o1 d hd) rfl rfl q) ?_
      rw [show (ds.map fun d => D.bl (d.belowD p)) = (ds.map fun d => d.belowD p).map D.bl by rw [List.map_map]; rfl, fAll_bls, all_mapId]
      dsimp only
      by_cases cb : ds.all (D.belowD p) = true
      case neg =>
        rw [Bool.not_eq_true] at cb
        rw [cb, if_pos (by decide)]
        rw [cb] at q
        exact q
      rw [cb, if_neg (by decide)]
      rw [cb, Bool.true_and] at q
      have hb3 := hb2 cb
      obtain ⟨xs, rfl, cx⟩ := below_ints cb
      rw [map_intD] at q hb3
      rw [List.length_map] at c3 c13 hb3
      subst hT
      refine seq_cut fun T hT => ?_
      walk_at "w"
      have x0 : xs ≠ [] := fun z => by rw [z] at c3; exact absurd c3 (by decide)
      rw [at_lastI x0]
      dsimp only [Option.map_some]
      rw [fNeA_int]
      dsimp only
      by_cases cl : xs.getLastD 0 = 1
      case neg =>
        rw [decide_eq_false cl, if_pos (by decide)]
        rw [decide_eq_false cl] at q
        exact q
      rw [decide_eq_true cl, if_neg (by decide)]
      rw [decide_eq_true cl, Bool.true_and] at q
      have hb4 := hb3 cl
      subst hT
      refine seq_cut fun T hT => ?_
      refine for_cut fun B hB => ?_
      walk_at "w"
      have en : ((xs.length : Int) - 1) / 2 = (((xs.length - 1) / 2 : Nat) : Int) := by omega
      rw [en]
      obtain ⟨n, hn⟩ : ∃ n : Nat, n = (xs.length - 1) / 2 := ⟨_, rfl⟩
      rw [← hn]
      rw [← hn] at hb4
      refine ⟨⟨by omega, by omega⟩, ⟨by omega, by omega, by omega, by omega⟩, ?_⟩
      rw [show ((n : Int) + 1 - 1).toNat = n by omega]
      unfold rgD
      refine for_inv (fun _ : Unit => [TP.G.fz (D.int p), TP.G.fz (D.lst (xs.map D.int)), TP.G.any, TP.G.any, TP.G.any]) (fun i : Nat => [D.int (1 + (i : Int))]) (fun r _ => ∃ l, List.range n = l ++ r ∧ l.all (fun m => (allQ p (m + 1)).all fun o => (restT p o xs.length xs).any fun x => decide (x ≠ 0)) = true) (fun m r _ hP N hN => ?_) (fun _ hP => ?_) (List.range n) () ⟨[], rfl, rfl⟩
      · obtain ⟨l, e1, e2⟩ := hP
        have hm : m < n := List.mem_range.mp (by rw [e1]; exact List.mem_append_right _ List.mem_cons_self)
        have hmk := hb4 (m + 1) (by omega)
        subst hB
        refine for_cut' fun B2 hB2 => ?_
        walk_at "w"
        rw [show (1 : Int) + (m : Int) = ((m + 1 : Nat) : Int) by omega]
        refine sw_all hp hp2 hmk.1 (fun k hk => (hb4 k (by omega)).1) hmk.2 ?_
        dsimp only [D.seq]
        rw [List.map_map, show ((fun d : D => [d]) ∘ fun o : List Int => Li o) = fun o : List Int => [Li o] from rfl]
        refine for_inv (fun _ : Unit => [TP.G.fz (D.int p), TP.G.fz (D.lst (xs.map D.int)), TP.G.fz (D.int ((m + 1 : Nat) : Int)), TP.G.any, TP.G.any]) (fun o : List Int => [Li o]) (fun r _ => ∃ l, allQ p (m + 1) = l ++ r ∧ l.all (fun o => (restT p o xs.length xs).any fun x => decide (x ≠ 0)) = true) (fun o r _ hP N' hN' => ?_) (fun _ hP => ?_) (allQ p (m + 1)) () ⟨[], rfl, rfl⟩
        · obtain ⟨l', e3, e4⟩ := hP
          have ho : o ∈ allQ p (m + 1) := by rw [e3]; exact List.mem_append_right _ List.mem_cons_self
          obtain ⟨lo, co⟩ := allQ_mem hp _ o ho
          subst hB2
          walk_at "w"
          refine sw_rest hp hp2 (o := o) (xs := xs) _ (.inl rfl) co cx (by omega) (by omega) (by omega) ?_
          rw [show fAnyI = fInts fun ns Q => Q (.bl (ns.any (· != 0))) from rfl, fInts_li]
          cases ea : (restT p o xs.length xs).any (· != 0) with
          | true =>
            dsimp only
            rw [if_neg (show ¬ (!true) = true by decide)]
            refine hN' () ⟨l' ++ [o], by rw [e3]; simp, ?_⟩
            rw [List.all_append, e4, Bool.true_and, List.all_cons, List.all_nil, Bool.and_true, ← ea]
            exact any_same _
          | false =>
            dsimp only
            rw [if_pos (show (!false) = true by decide)]
            have : lawT p xs = false := by
              cases h : lawT p xs with
              | false => rfl
              | true =>
                exfalso
                unfold lawT at h
                rw [← hn] at h
                have h1 := List.all_eq_true.mp (List.all_eq_true.mp h m (List.mem_range.mpr hm)) o ho
                rw [any_same, ea] at h1
                exact nomatch h1
            rw [this] at q
            exact q
        · obtain ⟨l', e3, e4⟩ := hP
          rw [List.append_nil] at e3
          dsimp only
          refine hN () ⟨l ++ [m], by rw [e1]; simp, ?_⟩
          rw [List.all_append, e2, Bool.true_and, List.all_cons, List.all_nil, Bool.and_true, e3]
          exact e4
      · obtain ⟨l, e1, e2⟩ := hP
        rw [List.append_nil] at e1
        dsimp only
        subst hT
        walk_at "w"
        have : lawT p xs = true := by unfold lawT; rw [← hn, e1]; exact e2
        rw [this] at q
        exact q
    · clear e ev hb okl ok
      walk_at "w"
      by_cases c3 : 3 ≤ ds.length
      case neg =>
        rw [decide_eq_false (show ¬ (3 : Int) ≤ ((ds.length : Nat) : Int) by omega), if_neg (by decide), if_pos (by decide)]
        rw [decide_eq_false c3] at q
        exact q
      rw [decide_eq_true (show (3 : Int) ≤ ((ds.length : Nat) : Int) by omega), if_pos rfl]
      by_cases c13 : ds.length ≤ 13
      case neg =>
        rw [decide_eq_false (show ¬ ((ds.length : Nat) : Int) ≤ 13 by omega), if_pos (by decide)]
        rw [decide_eq_false c13, Bool.and_false] at q
        exact q
      rw [decide_eq_true (show ((ds.length : Nat) : Int) ≤ 13 by omega), if_neg (by decide)]
      rw [decide_eq_true c3, decide_eq_true c13, Bool.true_and, Bool.true_and] at q
      subst hT
      refine seq_cut fun T hT => ?_
      walk_at "w"
      refine ⟨by unfold many; omega, ?_⟩
      refine lc_map (item := fun d : D => [d]) (fun d => .bl (d.belowD p)) (fun d hd Q q => below_item (List.all_eq_true.mp o1 d hd) rfl rfl q) ?_
      rw [show (ds.map fun d => D.bl (d.belowD p)) = (ds.map fun d => d.belowD p).map D.bl by rw [List.map_map]; rfl, fAll_bls, all_mapId]
      dsimp only
      by_cases cb : ds.all (D.belowD p) = true
      case neg =>
        rw [Bool.not_eq_true] at cb
        rw [cb, if_pos (by decide)]
        rw [cb] at q
        exact q
      rw [cb, if_neg (by decide)]
      rw [cb, Bool.true_and] at q
      have hb3 := hb2 cb
      obtain ⟨xs, rfl, cx⟩ := below_ints cb
      rw [map_intD] at q hb3
      rw [List.length_map] at c3 c13 hb3
      subst hT
      refine seq_cut fun T hT => ?_
      walk_at "w"
      have x0 : xs ≠ [] := fun z => by rw [z] at c3; exact absurd c3 (by decide)
      rw [at_lastI x0]
      dsimp only [Option.map_some]
      rw [fNeA_int]
      dsimp only
      by_cases cl : xs.getLastD 0 = 1
      case neg =>
        rw [decide_eq_false cl, if_pos (by decide)]
        rw [decide_eq_false cl] at q
        exact q
      rw [decide_eq_true cl, if_neg (by decide)]
      rw [decide_eq_true cl, Bool.true_and] at q
      have hb4 := hb3 cl
      subst hT
      refine seq_cut fun T hT => ?_
      refine for_cut fun B hB => ?_
      walk_at "w"
      have en : ((xs.length : Int) - 1) / 2 = (((xs.length - 1) / 2 : Nat) : Int) := by omega
      rw [en]
      obtain ⟨n, hn⟩ : ∃ n : Nat, n = (xs.length - 1) / 2 := ⟨_, rfl⟩
      rw [← hn]
      rw [← hn] at hb4
      refine ⟨⟨by omega, by omega⟩, ⟨by omega, by omega, by omega, by omega⟩, ?_⟩
      rw [show ((n : Int) + 1 - 1).toNat = n by omega]
      unfold rgD
      refine for_inv (fun _ : Unit => [TP.G.fz (D.int p), TP.G.fz (D.tup (xs.map D.int)), TP.G.any, TP.G.any, TP.G.any]) (fun i : Nat => [D.int (1 + (i : Int))]) (fun r _ => ∃ l, List.range n = l ++ r ∧ l.all (fun m => (allQ p (m + 1)).all fun o => (restT p o xs.length xs).any fun x => decide (x ≠ 0)) = true) (fun m r _ hP N hN => ?_) (fun _ hP => ?_) (List.range n) () ⟨[], rfl, rfl⟩
      · obtain ⟨l, e1, e2⟩ := hP
        have hm : m < n := List.mem_range.mp (by rw [e1]; exact List.mem_append_right _ List.mem_cons_self)
        have hmk := hb4 (m + 1) (by omega)
        subst hB
        refine for_cut' fun B2 hB2 => ?_
        walk_at "w"
        rw [show (1 : Int) + (m : Int) = ((m + 1 : Nat) : Int) by omega]
        refine sw_all hp hp2 hmk.1 (fun k hk => (hb4 k (by omega)).1) hmk.2 ?_
        dsimp only [D.seq]
        rw [List.map_map, show ((fun d : D => [d]) ∘ fun o : List Int => Li o) = fun o : List Int => [Li o] from rfl]
        refine for_inv (fun _ : Unit => [TP.G.fz (D.int p), TP.G.fz (D.tup (xs.map D.int)), TP.G.fz (D.int ((m + 1 : Nat) : Int)), TP.G.any, TP.G.any]) (fun o : List Int => [Li o]) (fun r _ => ∃ l, allQ p (m + 1) = l ++ r ∧ l.all (fun o => (restT p o xs.length xs).any fun x => decide (x ≠ 0)) = true) (fun o r _ hP N' hN' => ?_) (fun _ hP => ?_) (allQ p (m + 1)) () ⟨[], rfl, rfl⟩
        · obtain ⟨l', e3, e4⟩ := hP
          have ho : o ∈ allQ p (m + 1) := by rw [e3]; exact List.mem_append_right _ List.mem_cons_self
          obtain ⟨lo, co⟩ := allQ_mem hp _ o ho
          subst hB2
          walk_at "w"
          refine sw_rest hp hp2 (o := o) (xs := xs) _ (.inr rfl) co cx (by omega) (by omega) (by omega) ?_
          rw [show fAnyI = fInts fun ns Q => Q (.bl (ns.any (· != 0))) from rfl, fInts_li]
          cases ea : (restT p o xs.length xs).any (· != 0) with
          | true =>
            dsimp only
            rw [if_neg (show ¬ (!true) = true by decide)]
            refine hN' () ⟨l' ++ [o], by rw [e3]; simp, ?_⟩
            rw [List.all_append, e4, Bool.true_and, List.all_cons, List.all_nil, Bool.and_true, ← ea]
            exact any_same _
          | false =>
            dsimp only
            rw [if_pos (show (!false) = true by decide)]
            have : lawT p xs = false := by
              cases h : lawT p xs with
              | false => rfl
              | true =>
                exfalso
                unfold lawT at h
                rw [← hn] at h
                have h1 := List.all_eq_true.mp (List.all_eq_true.mp h m (List.mem_range.mpr hm)) o ho
                rw [any_same, ea] at h1
                exact nomatch h1
            rw [this] at q
            exact q
        · obtain ⟨l', e3, e4⟩ := hP
          rw [List.append_nil] at e3
          dsimp only
          refine hN () ⟨l ++ [m], by rw [e1]; simp, ?_⟩
          rw [List.all_append, e2, Bool.true_and, List.all_cons, List.all_nil, Bool.and_true, e3]
          exact e4
      · obtain ⟨l, e1, e2⟩ := hP
        rw [List.append_nil] at e1
        dsimp only
        subst hT
        walk_at "w"
        have : lawT p xs = true := by unfold lawT; rw [← hn, e1]; exact e2
        rw [this] at q
        exact q
def mostP (p : Int) : Nat := if p = 2 then 7 else if p = 3 then 4 else 3
theorem mem_allQ {p : Int} : ∀ (xs : List Int), Cf p xs → xs.getLastD 0 = 1 → xs ∈ allQ p (xs.length - 1)
  | [], _, h => absurd h (by decide)
  | [x], _, h => by
    have : x = 1 := h
    rw [this]
    exact List.mem_singleton.mpr rfl
  | x :: y :: r, c, h => by
    have ih := mem_allQ (y :: r) (fun z hz => c z (List.mem_cons_of_mem _ hz)) h
    have hx := c x List.mem_cons_self
    show x :: y :: r ∈ (allQ p r.length).flatMap _
    refine List.mem_flatMap.mpr ⟨y :: r, ih, List.mem_map.mpr ⟨x.toNat, List.mem_range.mpr (by omega), ?_⟩⟩
    rw [show ((x.toNat : Nat) : Int) = x by omega]
theorem same_test {p : Int} (hp : Prm p) {xs : List Int} (c : Cf p xs) (h : xs.getLastD 0 = 1) (l3 : 3 ≤ xs.length) (lm : xs.length ≤ mostP p + 1) : lawT p xs = noPart p xs := by
  have hm := mem_allQ xs c h
  have key : ∀ ms : List Nat, (ms.all fun m => sameT p m) = true → xs.length - 1 ∈ ms → lawT p xs = noPart p xs := fun ms ha hi => by
    have h1 := List.all_eq_true.mp ha _ hi
    exact eq_of_beq (List.all_eq_true.mp h1 xs hm)
  rcases hp with rfl | rfl | rfl | rfl
  · refine key _ same2 ?_
    have : mostP 2 = 7 := rfl
    simp only [List.mem_cons, List.not_mem_nil, or_false]; omega
  · refine key _ same3 ?_
    have : mostP 3 = 4 := rfl
    simp only [List.mem_cons, List.not_mem_nil, or_false]; omega
  · refine key _ same5 ?_
    have : mostP 5 = 3 := rfl
    simp only [List.mem_cons, List.not_mem_nil, or_false]; omega
  · refine key _ same7 ?_
    have : mostP 7 = 3 := rfl
    simp only [List.mem_cons, List.not_mem_nil, or_false]; omega
theorem counts {p : Int} (hp : Prm p) {n : Nat} (h : n ≤ mostP p + 1) (k : Nat) (hk : k ≤ (n - 1) / 2) : (allQ p k).length ≤ 100 ∧ k ≤ 6 := by
  have key : ∀ (m : Nat), ((List.range m).all fun k => decide ((allQ p k).length ≤ 100)) = true → k < m → m ≤ 7 → (allQ p k).length ≤ 100 ∧ k ≤ 6 := fun m ha hi h7 => ⟨of_decide_eq_true (List.all_eq_true.mp ha k (List.mem_range.mpr hi)), by omega⟩
  rcases hp with rfl | rfl | rfl | rfl
  · exact key 4 (by decide) (by have : mostP 2 = 7 := rfl; omega) (by decide)
  · exact key 3 (by decide) (by have : mostP 3 = 4 := rfl; omega) (by decide)
  · exact key 2 (by decide) (by have : mostP 5 = 3 := rfl; omega) (by decide)
  · exact key 2 (by decide) (by have : mostP 7 = 3 := rfl; omega) (by decide)
def Gd (p : Int) (d : D) : Prop := d.okU [] = true ∧ ∀ ds, d.seqD = some ds → ds.all (D.okU []) = true ∧ ds.length ≤ 20 ∧ (ds.all (D.belowD p) = true → (ds.map D.intD).getLastD 0 = 1 → ds.length ≤ mostP p + 1)
theorem gd_same {p : Int} (hp : Prm p) {d : D} (g : Gd p d) : lawV p d = modV p d := by
  unfold lawV modV
  cases e : d.seqD with
  | none => rfl
  | some ds =>
    obtain ⟨g1, g2, g3⟩ := g.2 ds e
    dsimp only
    by_cases c3 : 3 ≤ ds.length
    case neg => rw [decide_eq_false c3]; rfl
    cases cb : ds.all (D.belowD p) with
    | false => rw [Bool.false_and, Bool.false_and]
    | true =>
      by_cases cl : (ds.map D.intD).getLastD 0 = 1
      case neg => rw [decide_eq_false cl, Bool.false_and, Bool.false_and]
      obtain ⟨xs, rfl, cx⟩ := below_ints cb
      have lm := g3 cb cl
      rw [map_intD] at cl ⊢
      rw [List.length_map] at c3 lm
      rw [same_test hp cx cl c3 lm]
theorem sw_isG {p : Int} (hp : Prm p) {d : D} (g : Gd p d) {Q : D → Prop} (q : Q (.bl (modV p d))) : c_law_is_modulus [.int p, d] Q := by
  have hpl := hp.le
  refine sw_is hpl.1 hpl.2 g.1 (fun ds e => ⟨(g.2 ds e).1, (g.2 ds e).2.1⟩) (fun ds e cb cl k hk => counts hp ((g.2 ds e).2.2 cb cl) k hk) ?_
  rw [gd_same hp g]
  exact q
theorem gd_okL {p : Int} {d : D} (g : Gd p d) : d.okL [] := ⟨g.1, fun ds e => ⟨by have := (g.2 ds e).2.1; omega, (g.2 ds e).1⟩⟩
/-- what is drawn -/
instance (p : Int) : Decidable (Prm p) := by unfold Prm; infer_instance
structure Md (p : Int) (md : List Int) : Prop where
  pr : Prm p
  c : Cf p md
  l1 : md.getLastD 0 = 1
  l3 : 3 ≤ md.length
  lm : md.length ≤ mostP p + 1
  t : modV p (.lst (md.map D.int)) = true
theorem md_all : ∀ z ∈ pows, Md z.1 z.2 := by
  have h : (pows.all fun z => decide (Prm z.1) && (decide (Cf z.1 z.2) && (decide (z.2.getLastD 0 = 1) && (decide (3 ≤ z.2.length) && (decide (z.2.length ≤ mostP z.1 + 1) && modV z.1 (.lst (z.2.map D.int))))))) = true := by decide +kernel
  intro z hz
  have := List.all_eq_true.mp h z hz
  simp only [Bool.and_eq_true, decide_eq_true_eq] at this
  exact ⟨this.1, this.2.1, this.2.2.1, this.2.2.2.1, this.2.2.2.2.1, this.2.2.2.2.2⟩
theorem most_at {p : Int} (hp : Prm p) : atI [D.int 0, D.int 0, D.int 7, D.int 4, D.int 0, D.int 3, D.int 0, D.int 3] p = some (.int ((mostP p : Nat) : Int)) := by
  rcases hp with rfl | rfl | rfl | rfl <;> rfl
theorem most_le {p : Int} (hp : Prm p) : 3 ≤ mostP p ∧ mostP p ≤ 7 := by
  rcases hp with rfl | rfl | rfl | rfl <;> decide
theorem fz_for_cut2 {i : Nat} {js jk : List Nat} {it : WI} {body T : WS} {E : WEnds} {ρ : GE} (h : ∀ B : WS, B = body → ∀ S : WS, S = T → wSeq (wFz i (wFor js jk it B)) S E ρ) : wSeq (wFz i (wFor js jk it body)) T E ρ := h body rfl T rfl
/-- asked and told alike -/
structure Gv (p : Int) (d : D) : Prop where
  g : Gd p d
  f : Fl [] 1000 3 d
theorem fl_c {d : D} (h1 : d.plB = true) (h2 : d.px.shown.length ≤ 100) (h3 : d.px.depth ≤ 2) (h4 : d.okU [] = true) : Fl [] 100 2 d := ⟨h1, h2, h3, h4⟩
theorem fl_i {i : Int} (h : i.natAbs < 10 ^ 12) : Fl [] 100 2 (.int i) := (fl_int h).le (by decide) (by decide)
theorem fl_is {L : List Int} (h : ∀ x ∈ L, x.natAbs < 10 ^ 12) : ∀ d ∈ L.map D.int, Fl [] 100 2 d := fun d hd => by
  obtain ⟨x, hx, rfl⟩ := List.mem_map.mp hd
  exact fl_i (h x hx)
theorem gv_lst {p : Int} {ds : List D} (h : ∀ d ∈ ds, Fl [] 100 2 d) (hl : ds.length ≤ 9) (hm : ds.length ≤ mostP p + 1 ∨ (ds.map D.intD).getLastD 0 ≠ 1) : Gv p (.lst ds) := by
  have f : Fl [] 1000 3 (.lst ds) := fl_lst h (by omega)
  refine ⟨⟨f.ok, fun es e => ?_⟩, f⟩
  cases e
  refine ⟨List.all_eq_true.mpr fun d hd => (h d hd).ok, by omega, fun _ e => ?_⟩
  rcases hm with c | c
  · exact c
  · exact absurd e c
theorem gv_tup {p : Int} {ds : List D} (h : ∀ d ∈ ds, Fl [] 100 2 d) (hl : ds.length ≤ 9) (hm : ds.length ≤ mostP p + 1 ∨ (ds.map D.intD).getLastD 0 ≠ 1) : Gv p (.tup ds) := by
  have f : Fl [] 1000 3 (.tup ds) := fl_tup h (by omega)
  refine ⟨⟨f.ok, fun es e => ?_⟩, f⟩
  cases e
  refine ⟨List.all_eq_true.mpr fun d hd => (h d hd).ok, by omega, fun _ e => ?_⟩
  rcases hm with c | c
  · exact c
  · exact absurd e c
theorem gv_at {p : Int} {d : D} (f : Fl [] 100 2 d) (no : d.seqD = none) : Gv p d := ⟨⟨f.ok, fun ds e => by rw [no] at e; cases e⟩, f.le (by decide) (by decide)⟩
theorem gd_b {p : Int} {md : List Int} (c : Cf p md) (k : Nat) : 0 ≤ md.getD k 0 ∧ (md.getD k 0 < p ∨ md.getD k 0 = 0) := by
  rw [List.getD_eq_getElem?_getD]
  cases e : md[k]? with
  | none => exact ⟨Int.le_refl _, .inr rfl⟩
  | some x => have := c x (List.mem_of_getElem? e); exact ⟨this.1, .inl this.2⟩
theorem cf_snoc {p : Int} (hp : 2 ≤ p) {xs : List Int} (c : Cf p xs) : Cf p (xs ++ [1]) := fun x hx => by
  rcases List.mem_append.mp hx with h | h
  · exact c x h
  · rw [List.mem_singleton.mp h]; omega
theorem all_app {α : Type} {P : α → Prop} {a b : List α} (h : ∀ x ∈ a, P x) (h' : ∀ x ∈ b, P x) : ∀ x ∈ a ++ b, P x := fun x hx => by
  rcases List.mem_append.mp hx with c | c
  · exact h x c
  · exact h' x c
theorem all_cons' {α : Type} {P : α → Prop} {a : α} {b : List α} (h : P a) (h' : ∀ x ∈ b, P x) : ∀ x ∈ a :: b, P x := fun x hx => by
  rcases List.mem_cons.mp hx with rfl | c
  · exact h
  · exact h' x c
theorem all_nil' {α : Type} {P : α → Prop} : ∀ x ∈ ([] : List α), P x := fun _ h => nomatch h
theorem cutI_from (L : List Int) (m : Nat) (h : m ≤ L.length) : cutD (L.map D.int) (some (m : Int)) none = (L.drop m).map D.int := by
  unfold cutD
  rw [HT.sIx_nat, HT.sIx_none, List.length_map, Nat.min_eq_left h, List.map_drop]
  exact List.take_of_length_le (by simp)
theorem cutI_init (L : List Int) : cutD (L.map D.int) none (some (-1)) = (L.dropLast).map D.int := by
  unfold cutD
  rw [HT.sIx_none]
  have e : HT.sIx (L.map D.int).length (L.map D.int).length (some (-1)) = L.length - 1 := by
    show (if (-1 : Int) < 0 then (-1 + ((L.map D.int).length : Int)).toNat else min (-1 : Int).toNat (L.map D.int).length) = _
    rw [if_pos (by decide), List.length_map]; omega
  rw [e, Nat.sub_zero, List.drop_zero, List.dropLast_eq_take, List.map_take]
theorem cutI_last2 (L : List Int) (h : 2 ≤ L.length) : cutD (L.map D.int) (some (-2)) none = (L.drop (L.length - 2)).map D.int := by
  unfold cutD
  rw [HT.sIx_none]
  have e : HT.sIx (L.map D.int).length 0 (some (-2)) = L.length - 2 := by
    show (if (-2 : Int) < 0 then (-2 + ((L.map D.int).length : Int)).toNat else min (-2 : Int).toNat (L.map D.int).length) = _
    rw [if_pos (by decide), List.length_map]; omega
  rw [e, List.map_drop]
  exact List.take_of_length_le (by simp)
theorem prod_false {p : Int} (hp : Prm p) {a b : List Int} (ca : Cf p a) (cb : Cf p b) (la : a.getLastD 0 = 1) (lb : b.getLastD 0 = 1) (a2 : 2 ≤ a.length) (b2 : 2 ≤ b.length) (hs : a.length ≤ shortP p + 1 ∨ b.length ≤ shortP p + 1) (h1 : b.length ≤ a.length ∨ a.length ≤ b.length) (hA : a.length ≤ b.length → a.length ≤ shortP p + 1) (hB : b.length ≤ a.length → b.length ≤ shortP p + 1) {L : List Int} (hl : L.length = a.length + b.length - 1) (h : CoA p a b L) : modV p (Li L) = false := by
  have hpl := hp.le
  have main : ∀ f : List Int, f.length ≤ a.length → f.length ≤ b.length → Seqs p f → (∀ s, Zs p s f → Zs p s L) → modV p (Li L) = false := fun f fa fb ⟨s, j, n0, j1, jf, z, nz, per⟩ hz => by
    unfold modV
    show (decide (3 ≤ (L.map D.int).length) && decide ((L.map D.int).length ≤ 13) && ((L.map D.int).all (D.belowD p) && (decide (((L.map D.int).map D.intD).getLastD 0 = 1) && noPart p ((L.map D.int).map D.intD)))) = false
    cases cbl : (L.map D.int).all (D.belowD p) with
    | false => rw [Bool.false_and, Bool.and_false]
    | true =>
      rw [map_intD]
      by_cases cl : L.getLastD 0 = 1
      case neg => rw [decide_eq_false cl, Bool.false_and, Bool.and_false, Bool.and_false]
      obtain ⟨xs, e, cx⟩ := below_ints cbl
      have ex : L = xs := by
        have := congrArg (List.map D.intD) e
        rw [map_intD, map_intD] at this
        exact this
      rw [← ex] at cx
      have L0 : L ≠ [] := fun z => by rw [z] at hl; rw [List.length_nil] at hl; omega
      rw [no_part hp L0 cx (.inr (by rw [cl]; decide)) (hz s z) nz j1 (by omega) per, Bool.and_false, Bool.and_false, Bool.and_false]
  have inQ : ∀ f : List Int, Cf p f → f.getLastD 0 = 1 → 2 ≤ f.length → f.length ≤ shortP p + 1 → Seqs p f := fun f cf lf f2 fs => seqs_all hp (m := f.length - 1) (by omega) (by omega) (mem_allQ f cf lf) f2
  by_cases c : b.length ≤ a.length
  · refine main b c (Nat.le_refl _) (inQ b cb lb b2 (hB c)) fun s z n => ?_
    refine (h s n).trans ((act1_cg (t := fun _ => 0) (fun n => z n) a n).trans (Cg.of_eq ?_))
    exact act1_z a n fun _ _ => rfl
  · refine main a (Nat.le_refl _) (by omega) (inQ a ca la a2 (hA (by omega))) fun s z n => ?_
    refine (h s n).trans ?_
    rw [act1_comm]
    exact (act1_cg (t := fun _ => 0) (fun n => z n) b n).trans (Cg.of_eq (act1_z b n fun _ _ => rfl))
structure PrOk (p : Int) (a b : List Int) : Prop where
  ca : Cf p a
  cb : Cf p b
  la : a.getLastD 0 = 1
  lb : b.getLastD 0 = 1
  a2 : 2 ≤ a.length
  b2 : 2 ≤ b.length
  hA : a.length ≤ b.length → a.length ≤ shortP p + 1
  hB : b.length ≤ a.length → b.length ≤ shortP p + 1
  a20 : a.length ≤ 20
  b20 : b.length ≤ 20
theorem short_3 {p : Int} (hp : Prm p) : 3 ≤ shortP p := by rcases hp with rfl | rfl | rfl | rfl <;> decide
theorem short_le {p : Int} (hp : Prm p) {n : Nat} (h : n ≤ (if (5 : Int) < ((mostP p : Nat) : Int) then (5 : Int) else ((mostP p : Nat) : Int)).toNat) : n ≤ shortP p := by
  rcases hp with rfl | rfl | rfl | rfl
  · exact h
  · exact h
  · exact h
  · exact h
theorem law_true : c_law_right [.pot] (fun d => d = .bl true) := by
  refine e_law_right ?_
  unfold w_law_right
  refine seq_cut fun T hT => ?_
  walk_at "w"
  refine sw_field fun z hz => ?_
  have M := md_all z hz
  obtain ⟨p, md⟩ := z
  have hpl := M.pr.le
  dsimp only at M
  dsimp only
  refine ⟨rfl, ?_⟩
  subst hT
  refine seq_cut fun T hT => ?_
  walk_at "w"
  rw [most_at M.pr]
  dsimp only
  have ml := most_le M.pr
  have c := M.c
  have l3 := M.l3
  have lm := M.lm
  subst hT
  refine seq_cut fun T hT => ?_
  walk_at "w"
  refine sw_drawn hpl.1 hpl.2 (by omega) (by omega) fun xs cx x2 xm => ?_
  walk_at "w"
  refine sw_drawn hpl.1 hpl.2 (by omega) (by omega) fun ys cy y2 ym => ?_
  obtain ⟨one, h1⟩ : ∃ one, one = xs ++ [1] := ⟨_, rfl⟩
  obtain ⟨two, h2⟩ : ∃ two, two = ys ++ [1] := ⟨_, rfl⟩
  rw [← h1, ← h2]
  subst hT
  refine seq_cut fun T hT => ?_
  walk_at "w"
  refine ⟨⟨by omega, by omega⟩, fun k k0 k1 => ?_⟩
  obtain ⟨k, rfl⟩ : ∃ n : Nat, (n : Int) = k := ⟨k.toNat, by omega⟩
  have kl : k < md.length := by omega
  subst hT
  refine seq_cut fun T hT => ?_
  walk_at "w"
  rw [atI_natI md kl, cutD_any, show (k : Int) + 1 = ((k + 1 : Nat) : Int) by omega, cutI_from md (k + 1) (by omega)]
  dsimp only [Option.map_some]
  walk_at "w"
  have bl : (md.take k ++ [md.getD k 0 + 1] ++ md.drop (k + 1)).length = md.length := by
    rw [List.length_append, List.length_append, List.length_take, List.length_drop, List.length_singleton]; omega
  refine ⟨by rw [List.length_take]; unfold many; omega, by rw [List.length_append, List.length_take, List.length_drop, List.length_singleton]; unfold many; omega, ?_⟩
  obtain ⟨bent, hbent⟩ : ∃ bent, bent = md.take k ++ [md.getD k 0 + 1] ++ md.drop (k + 1) := ⟨_, rfl⟩
  rw [← hbent] at bl ⊢
  have cbent : ∀ x ∈ bent, x.natAbs < 10 ^ 12 := fun x hx => by
    rw [hbent] at hx
    rcases List.mem_append.mp hx with h | h
    · rcases List.mem_append.mp h with h | h
      · have := c x (List.mem_of_mem_take h); omega
      · rw [List.mem_singleton.mp h]
        have := gd_b c k
        omega
    · have := c x (List.mem_of_mem_drop h); omega
  subst hT
  refine seq_cut fun T hT => ?_
  walk_at "w"
  rw [cutI_init]
  refine ⟨by rw [List.length_map, List.length_dropLast]; unfold many; omega, by unfold many; omega, ?_⟩
  subst hT
  refine seq_cut fun T hT => ?_
  walk_at "w"
  refine ⟨by unfold many; decide, ?_⟩
  subst hT
  refine seq_cut fun T hT => ?_
  walk_at "w"
  have e1 := cutI_from md 1 (by omega)
  rw [show (((1 : Nat) : Int)) = 1 from rfl] at e1
  rw [e1]
  have d1 : (md.drop 1).length ≤ 8 := by rw [List.length_drop]; omega
  refine ⟨by rw [List.length_map]; unfold many; omega, by rw [List.length_map]; unfold many; omega, by rw [List.length_map]; unfold many; omega, by rw [List.length_map]; unfold many; omega, by unfold many; show 13 ≤ 1000000; decide, ?_⟩
  have d2 : (md.drop 1).length + 1 = md.length := by rw [List.length_drop]; omega
  have c1 : ∀ x ∈ md.drop 1, x.natAbs < 10 ^ 12 := fun x hx => by have := c x (List.mem_of_mem_drop hx); omega
  generalize md.drop 1 = m1 at d1 d2 c1
  subst hT
  refine seq_cut fun T hT => ?_
  walk_at "w"
  refine ⟨by unfold many; show 16 ≤ 1000000; decide, ?_⟩
  subst hT
  refine seq_cut fun T hT => ?_
  walk_at "w"
  refine ⟨by unfold many; show 27 ≤ 1000000; decide, ?_⟩
  have sm : ∀ {L : List Int}, Cf p L → ∀ x ∈ L, x.natAbs < 10 ^ 12 := fun h x hx => by have := h x hx; omega
  have m9 : md.length ≤ 8 := by omega
  have fm := fl_is (sm c)
  have fd := fl_is (sm fun x hx => c x ((List.dropLast_sublist md).subset hx))
  have f1 : ∀ d ∈ m1.map D.int, Fl [] 100 2 d := fl_is c1
  have lmm : ∀ {L : List Int}, L.length ≤ mostP p + 1 → (L.map D.int).length ≤ mostP p + 1 := fun h => by rw [List.length_map]; exact h
  have lm9 : ∀ {L : List Int}, L.length ≤ 9 → (L.map D.int).length ≤ 9 := fun h => by rw [List.length_map]; exact h
  have ol : one.length ≤ mostP p + 1 := by rw [h1, List.length_append, List.length_singleton]; omega
  have tl : two.length ≤ mostP p + 1 := by rw [h2, List.length_append, List.length_singleton]; omega
  have co : Cf p one := by rw [h1]; exact cf_snoc hpl.1 cx
  have ct : Cf p two := by rw [h2]; exact cf_snoc hpl.1 cy
  obtain ⟨V, hV, hV2⟩ : ∃ V : List D, V = [D.lst (List.map D.int md), D.tup (List.map D.int md), D.lst (List.map D.int md.dropLast ++ [D.bl true]),
                    D.lst (List.map D.int bent), D.lst (List.map D.int md.reverse), D.lst (List.map D.int (md ++ [0])),
                    D.lst (List.map D.int md.dropLast)] ++
                  [Li one, Li two] ++
                [D.lst ([D.int p] ++ List.map D.int m1), D.lst ([D.int (-1)] ++ List.map D.int m1),
                  D.lst ([D.non] ++ List.map D.int m1), D.lst ([D.lst [D.int 1]] ++ List.map D.int m1)] ++
              [D.lst [D.int 1, D.int 1], D.lst [D.int 0, D.int 1], D.lst [D.int 1]] ++
            [D.non, D.bl true, D.int 0, D.str (Str.ofString ""), D.str (Str.ofString "1101"), D.lst [], D.tup [],
              D.dct [] [], D.int 13, D.lst [D.int 1, D.int 0, D.int 0, D.int 2], D.lst [D.bl false, D.int 1, D.int 1]] ∧ V.length = 27 := ⟨_, rfl, rfl⟩
  have hG : ∀ d ∈ V, Gv p d := by
    rw [hV]
    refine all_app (all_app (all_app (all_app (all_cons' ?_ (all_cons' ?_ (all_cons' ?_ (all_cons' ?_ (all_cons' ?_ (all_cons' ?_ (all_cons' ?_ all_nil'))))))) (all_cons' ?_ (all_cons' ?_ all_nil'))) (all_cons' ?_ (all_cons' ?_ (all_cons' ?_ (all_cons' ?_ all_nil'))))) (all_cons' ?_ (all_cons' ?_ (all_cons' ?_ all_nil')))) (all_cons' ?_ (all_cons' ?_ (all_cons' ?_ (all_cons' ?_ (all_cons' ?_ (all_cons' ?_ (all_cons' ?_ (all_cons' ?_ (all_cons' ?_ (all_cons' ?_ (all_cons' ?_ all_nil')))))))))))
    · exact gv_lst fm (lm9 (by omega)) (.inl (lmm lm))
    · exact gv_tup fm (lm9 (by omega)) (.inl (lmm lm))
    · exact gv_lst (all_app fd (all_cons' (fl_c (by decide +kernel) (by decide +kernel) (by decide +kernel) rfl) all_nil')) (by rw [List.length_append, List.length_map, List.length_dropLast, List.length_singleton]; omega) (.inl (by rw [List.length_append, List.length_map, List.length_dropLast, List.length_singleton]; omega))
    · exact gv_lst (fl_is cbent) (lm9 (by omega)) (.inl (lmm (by omega)))
    · exact gv_lst (fl_is fun x hx => sm c x (List.mem_reverse.mp hx)) (lm9 (by rw [List.length_reverse]; omega)) (.inl (lmm (by rw [List.length_reverse]; omega)))
    · refine gv_lst (fl_is (all_app (sm c) (all_cons' (by decide) all_nil'))) (lm9 (by rw [List.length_append, List.length_singleton]; omega)) (.inr ?_)
      rw [map_intD, List.getLastD_eq_getLast?, List.getLast?_append]
      show (0 : Int) ≠ 1
      decide
    · exact gv_lst fd (lm9 (by rw [List.length_dropLast]; omega)) (.inl (lmm (by rw [List.length_dropLast]; omega)))
    · exact gv_lst (fl_is (sm co)) (lm9 (by omega)) (.inl (lmm ol))
    · exact gv_lst (fl_is (sm ct)) (lm9 (by omega)) (.inl (lmm tl))
    · exact gv_lst (all_cons' (fl_i (by omega)) f1) (by show (m1.map D.int).length + 1 ≤ 9; rw [List.length_map]; omega) (.inl (by show (m1.map D.int).length + 1 ≤ _; rw [List.length_map]; omega))
    · exact gv_lst (all_cons' (fl_i (by decide)) f1) (by show (m1.map D.int).length + 1 ≤ 9; rw [List.length_map]; omega) (.inl (by show (m1.map D.int).length + 1 ≤ _; rw [List.length_map]; omega))
    · exact gv_lst (all_cons' (fl_c (by decide +kernel) (by decide +kernel) (by decide +kernel) rfl) f1) (by show (m1.map D.int).length + 1 ≤ 9; rw [List.length_map]; omega) (.inl (by show (m1.map D.int).length + 1 ≤ _; rw [List.length_map]; omega))
    · exact gv_lst (all_cons' (fl_c (by decide +kernel) (by decide +kernel) (by decide +kernel) rfl) f1) (by show (m1.map D.int).length + 1 ≤ 9; rw [List.length_map]; omega) (.inl (by show (m1.map D.int).length + 1 ≤ _; rw [List.length_map]; omega))
    · exact gv_lst (all_cons' (fl_i (by decide)) (all_cons' (fl_i (by decide)) all_nil')) (by decide) (.inl (by show 2 ≤ _; omega))
    · exact gv_lst (all_cons' (fl_i (by decide)) (all_cons' (fl_i (by decide)) all_nil')) (by decide) (.inl (by show 2 ≤ _; omega))
    · exact gv_lst (all_cons' (fl_i (by decide)) all_nil') (by decide) (.inl (by show 1 ≤ _; omega))
    · exact gv_at (fl_c (by decide +kernel) (by decide +kernel) (by decide +kernel) rfl) rfl
    · exact gv_at (fl_c (by decide +kernel) (by decide +kernel) (by decide +kernel) rfl) rfl
    · exact gv_at (fl_i (by decide)) rfl
    · exact gv_at (fl_c (by decide +kernel) (by decide +kernel) (by decide +kernel) rfl) rfl
    · exact gv_at (fl_c (by decide +kernel) (by decide +kernel) (by decide +kernel) rfl) rfl
    · exact gv_lst all_nil' (by decide) (.inl (by show 0 ≤ _; omega))
    · exact gv_tup all_nil' (by decide) (.inl (by show 0 ≤ _; omega))
    · exact gv_at (fl_c (by decide +kernel) (by decide +kernel) (by decide +kernel) rfl) rfl
    · exact gv_at (fl_i (by decide)) rfl
    · exact gv_lst (all_cons' (fl_i (by decide)) (all_cons' (fl_i (by decide)) (all_cons' (fl_i (by decide)) (all_cons' (fl_i (by decide)) all_nil')))) (by decide) (.inl (by show 4 ≤ _; omega))
    · exact gv_lst (all_cons' (fl_c (by decide +kernel) (by decide +kernel) (by decide +kernel) rfl) (all_cons' (fl_i (by decide)) (all_cons' (fl_i (by decide)) all_nil'))) (by decide) (.inl (by show 3 ≤ _; omega))
  rw [← hV]
  have sV : (D.lst V).shx := (fl_lst (m := 30000) (fun d hd => (hG d hd).f) (by rw [hV2]; decide)).shx (by unfold many; decide) (by decide)
  subst hT
  refine seq_cut fun T hT => ?_
  walk_at "w"
  refine ⟨sV, ?_⟩
  subst hT
  refine fz_for_cut2 fun B hB T hT => ?_
  walk_at "w"
  refine for_inv (fun _ : Unit => [TP.G.fz D.pot, TP.G.fz (D.int p), TP.G.fz (D.lst (List.map D.int md)), TP.G.fz (D.int ((mostP p : Nat) : Int)), TP.G.fz (Li one), TP.G.fz (Li two), TP.G.fz (D.int (k : Int)), TP.G.fz (D.lst (List.map D.int bent)), TP.G.fz (D.lst V), TP.G.fz (D.str (D.lst V).px.shown), TP.G.any, TP.G.any, TP.G.any, TP.G.any]) (fun d : D => [d]) (fun r _ => ∀ d ∈ r, Gv p d) (fun d r _ hP N hN => ?_) (fun _ _ => ?_) V () hG
  · have gd := hP d List.mem_cons_self
    have hN2 := hN () fun x hx => hP x (List.mem_cons_of_mem _ hx)
    clear hN
    subst hB
    refine seq_cut fun T2 hT2 => ?_
    walk_at "w"
    refine sw_isG M.pr gd.g ?_
    subst hT2
    walk_at "w"
    refine ⟨M.pr, gd_okL gd.g, M.pr, gd_okL gd.g, ?_⟩
    dsimp only
    have sb : (D.lst [D.bl (modV p d), D.bl (modV p d)]).shx := by
      cases modV p d
      · exact ⟨by decide +kernel, by decide +kernel, by decide +kernel⟩
      · exact ⟨by decide +kernel, by decide +kernel, by decide +kernel⟩
    refine ⟨sb, ⟨by decide, by decide, by unfold many; decide⟩, ?_⟩
    rw [show (List.replicate (Int.toNat 2) [D.bl (modV p d)]).flatten = [D.bl (modV p d), D.bl (modV p d)] from rfl]
    refine ⟨sb, ?_⟩
    dsimp only
    rw [fNeA_str, decide_eq_true rfl]
    dsimp only
    rw [if_neg (show ¬ (!true) = true by decide)]
    exact hN2
  · dsimp only
    subst hT
    refine seq_cut fun T hT => ?_
    refine for_cut fun B hB => ?_
    walk_at "w"
    have o3 : 3 ≤ one.length := by rw [h1, List.length_append, List.length_singleton]; omega
    have t3 : 3 ≤ two.length := by rw [h2, List.length_append, List.length_singleton]; omega
    have ol1 : one.getLastD 0 = 1 := by rw [h1, List.getLastD_eq_getLast?, List.getLast?_append]; rfl
    have tl1 : two.getLastD 0 = 1 := by rw [h2, List.getLastD_eq_getLast?, List.getLast?_append]; rfl
    have ts : two.length ≤ shortP p + 1 := by rw [h2, List.length_append, List.length_singleton]; have := short_le M.pr ym; omega
    rw [cutI_last2 one (by omega)]
    obtain ⟨w, hw⟩ : ∃ w, w = one.drop (one.length - 2) := ⟨_, rfl⟩
    have w2 : w.length = 2 := by rw [hw, List.length_drop]; omega
    have cw : Cf p w := fun x hx => co x (List.mem_of_mem_drop (hw ▸ hx))
    have wl : w.getLastD 0 = 1 := by
      rw [hw, List.getLastD_eq_getLast?, List.getLast?_drop, if_neg (by omega), ← List.getLastD_eq_getLast?]; exact ol1
    have s3 := (short_3 M.pr)
    rw [← hw]
    refine ⟨rfl, ?_⟩
    refine for_inv (fun _ : Unit => [TP.G.fz D.pot, TP.G.fz (D.int p), TP.G.fz (D.lst (List.map D.int md)), TP.G.fz (D.int ((mostP p : Nat) : Int)), TP.G.fz (Li one), TP.G.fz (Li two), TP.G.fz (D.int (k : Int)), TP.G.fz (D.lst (List.map D.int bent)), TP.G.fz (D.lst V), TP.G.fz (D.str (D.lst V).px.shown), TP.G.any, TP.G.any, TP.G.any, TP.G.any]) (fun z : List Int × List Int => [Li z.1, Li z.2]) (fun r _ => ∀ z ∈ r, PrOk p z.1 z.2) (fun z r _ hP N hN => ?_) (fun _ _ => ?_) [(one, two), (md, w), (two, two)] () (all_cons' ⟨co, ct, ol1, tl1, by show 2 ≤ one.length; omega, by show 2 ≤ two.length; omega, fun h => by show one.length ≤ _; have : one.length ≤ two.length := h; omega, fun _ => ts, by show one.length ≤ 20; omega, by show two.length ≤ 20; omega⟩ (all_cons' ⟨c, cw, M.l1, wl, by show 2 ≤ md.length; omega, by show 2 ≤ w.length; omega, fun h => by have : md.length ≤ w.length := h; omega, fun _ => by show w.length ≤ _; omega, by show md.length ≤ 20; omega, by show w.length ≤ 20; omega⟩ (all_cons' ⟨ct, ct, tl1, tl1, by show 2 ≤ two.length; omega, by show 2 ≤ two.length; omega, fun _ => ts, fun _ => ts, by show two.length ≤ 20; omega, by show two.length ≤ 20; omega⟩ all_nil')))
    · have P := hP z List.mem_cons_self
      have hN2 := hN () fun x hx => hP x (List.mem_cons_of_mem _ hx)
      clear hN
      subst hB
      walk_at "w"
      refine sw_times hpl.1 hpl.2 P.ca P.cb (by have := P.a2; omega) (by have := P.b2; omega) P.a20 P.b20 fun L hl hL => ?_
      have mf := prod_false M.pr P.ca P.cb P.la P.lb P.a2 P.b2 (by by_cases c : z.1.length ≤ z.2.length; exact .inl (P.hA c); exact .inr (P.hB (by omega))) (by omega) P.hA P.hB hl hL
      have okL : (Li L).okL [] := ⟨rfl, fun ds e => by
        cases e
        refine ⟨by have := P.a20; have := P.b20; rw [List.length_map]; omega, List.all_eq_true.mpr fun d hd => ?_⟩
        obtain ⟨x, _, rfl⟩ := List.mem_map.mp hd
        rfl⟩
      refine ⟨M.pr, okL, ?_⟩
      rw [mf]
      dsimp only
      rw [if_neg (by decide)]
      exact hN2
    · dsimp only
      subst hT
      walk_at "w"
      rw [show (List.replicate (Int.toNat 13) [D.int 0]).flatten ++ [D.int 1] = [D.int 0, D.int 0, D.int 0, D.int 0, D.int 0, D.int 0, D.int 0, D.int 0, D.int 0, D.int 0, D.int 0, D.int 0, D.int 0, D.int 1] from rfl]
      refine ⟨⟨by decide, by decide, by unfold many; decide⟩, by unfold many; decide, M.pr, ⟨rfl, fun ds e => by cases e; exact ⟨by decide, rfl⟩⟩, ?_⟩
      rw [show modV p (D.lst [D.int 0, D.int 0, D.int 0, D.int 0, D.int 0, D.int 0, D.int 0, D.int 0, D.int 0, D.int 0, D.int 0, D.int 0, D.int 0, D.int 1]) = false from rfl]
      dsimp only
      rw [if_pos (by decide)]
      have okm : (D.lst (List.map D.int md)).okL [] := gd_okL (p := p) (hG _ (by rw [hV]; exact List.mem_append_left _ (List.mem_append_left _ (List.mem_append_left _ (List.mem_append_left _ List.mem_cons_self))))).g
      refine ⟨M.pr, okm, ?_⟩
      rw [M.t]
      dsimp only
      rw [if_pos (by decide)]
      refine ⟨sV, ?_⟩
      dsimp only
      rw [fEqA_str, decide_eq_true rfl]
end TP.K12
/-! TPE -/
set_option maxHeartbeats 4000000
/-! # An own exception, made without arguments; a call by keywords alone that may raise -/
namespace TP
open PySem PySem.Spec PyProof.Rows L2
section
variable {X : Cx} {C : Addr} {bmB : List Value} {B newId initId : String}
end
def rtBase : List Value := [.type "RuntimeError", .type "Exception", .type "BaseException", .type "object"]
/-- what the text must say of an own error below RuntimeError -/
def excRB (K : Fr) (x : Str) : Bool := PySem.W.excIn K (He.ga K x) rtBase "RuntimeError.__new__" && (PySem.W.keepIn K (.ref (He.ga K x)) && (decide (PySem.W.subIn K (.ref (He.ga K x)) (.type "BaseException") = some true) && decide (PySem.W.typeIn K (.ref (He.ga K x)) = some (.type "type"))))
/-- f(k = v, ..), keywords alone; what it may let out is told by the slots -/
def tCallNS (m : Nat) (sp : Sp) (gV : List V → List V → List V) (E : L2.St → XK) (tk : TA) : TE := fun σ H Q => tk σ H fun zs H2 => zs.length = m ∧ sp (gV [] zs) H2 Q (E σ)
section
variable {X : Cx} {CX : CXT} {k : Nat} {f : Addr} {fd : FuncData} {ps ks : List Str} {sp : Sp} {E : L2.St → XK} {x : Str} {p pos : Pos} {kws : List Keyword} {tk : TA} {g : List Value → List Value → List Value} {gV : List V → List V → List V}
end
end TP
/-! TPF -/
set_option maxHeartbeats 4000000
/-! # a, b = two constants: stored from the left -/
namespace TP
open PySem PySem.Spec PyProof.Rows L2
section
variable {X : Cx} {pos : Pos}
end
end TP
/-! A12 -/
set_option maxHeartbeats 0
namespace TP.K12.A12
open PySem PySem.Spec PyProof.Rows L2 TP TP.K12

section
variable {P : Program} {w : World} {K : Fr} {h : Heap} {mg : Str → Option Value} {base : Heap}
theorem b_law_draw {f : Addr} {fd : FuncData} (F : FunD K "_law_draw" "_law_draw" (defArgs s_law_draw) (defBody s_law_draw) (defScope s_law_draw) [] [] f fd) : Binds K fd ["_law_pot_here", "_law_sides"] [] := F.bindsN fun _ _ _ _ _ _ us hl => match us, hl with | [_, _], _ => rfl
theorem b_law_pick {f : Addr} {fd : FuncData} (F : FunD K "_law_pick" "_law_pick" (defArgs s_law_pick) (defBody s_law_pick) (defScope s_law_pick) [] [] f fd) : Binds K fd ["_law_pot_here", "_law_some"] [] := F.bindsN fun _ _ _ _ _ _ us hl => match us, hl with | [_, _], _ => rfl
theorem b_law_field {f : Addr} {fd : FuncData} (F : FunD K "_law_field" "_law_field" (defArgs s_law_field) (defBody s_law_field) (defScope s_law_field) [] [] f fd) : Binds K fd ["_law_pot_here"] [] := F.bindsN fun _ _ _ _ _ _ us hl => match us, hl with | [_], _ => rfl
theorem b_law_drawn {f : Addr} {fd : FuncData} (F : FunD K "_law_drawn" "_law_drawn" (defArgs s_law_drawn) (defBody s_law_drawn) (defScope s_law_drawn) [] [] f fd) : Binds K fd ["_law_pot_here", "_law_prime", "_law_most"] [] := F.bindsN fun _ _ _ _ _ _ us hl => match us, hl with | [_, _, _], _ => rfl
theorem b_law_all {f : Addr} {fd : FuncData} (F : FunD K "_law_all" "_law_all" (defArgs s_law_all) (defBody s_law_all) (defScope s_law_all) [] [] f fd) : Binds K fd ["_law_prime", "_law_many"] [] := F.bindsN fun _ _ _ _ _ _ us hl => match us, hl with | [_, _], _ => rfl
theorem b_law_rest {f : Addr} {fd : FuncData} (F : FunD K "_law_rest" "_law_rest" (defArgs s_law_rest) (defBody s_law_rest) (defScope s_law_rest) [] [] f fd) : Binds K fd ["_law_prime", "_law_figures", "_law_other"] [] := F.bindsN fun _ _ _ _ _ _ us hl => match us, hl with | [_, _, _], _ => rfl
theorem b_law_is_modulus {f : Addr} {fd : FuncData} (F : FunD K "_law_is_modulus" "_law_is_modulus" (defArgs s_law_is_modulus) (defBody s_law_is_modulus) (defScope s_law_is_modulus) [] [] f fd) : Binds K fd ["_law_prime", "_law_value"] [] := F.bindsN fun _ _ _ _ _ _ us hl => match us, hl with | [_, _], _ => rfl
theorem b_is_integer {f : Addr} {fd : FuncData} (F : FunD K "is_integer" "is_integer" (defArgs s_is_integer) (defBody s_is_integer) (defScope s_is_integer) [] [] f fd) : Binds K fd ["value"] [] := F.bindsN fun _ _ _ _ _ _ us hl => match us, hl with | [_], _ => rfl
theorem b_check_prime {f : Addr} {fd : FuncData} (F : FunD K "check_prime" "check_prime" (defArgs s_check_prime) (defBody s_check_prime) (defScope s_check_prime) [] [] f fd) : Binds K fd ["value"] [] := F.bindsN fun _ _ _ _ _ _ us hl => match us, hl with | [_], _ => rfl
theorem b_is_list {f : Addr} {fd : FuncData} (F : FunD K "is_list" "is_list" (defArgs s_is_list) (defBody s_is_list) (defScope s_is_list) [] [] f fd) : Binds K fd ["value"] [] := F.bindsN fun _ _ _ _ _ _ us hl => match us, hl with | [_], _ => rfl
theorem b_is_count {f : Addr} {fd : FuncData} (F : FunD K "is_count" "is_count" (defArgs s_is_count) (defBody s_is_count) (defScope s_is_count) [] [] f fd) : Binds K fd ["value"] [] := F.bindsN fun _ _ _ _ _ _ us hl => match us, hl with | [_], _ => rfl
theorem b_is_below {f : Addr} {fd : FuncData} (F : FunD K "is_below" "is_below" (defArgs s_is_below) (defBody s_is_below) (defScope s_is_below) [] [] f fd) : Binds K fd ["value", "bound"] [] := F.bindsN fun _ _ _ _ _ _ us hl => match us, hl with | [_, _], _ => rfl
theorem b_are_below {f : Addr} {fd : FuncData} (F : FunD K "are_below" "are_below" (defArgs s_are_below) (defBody s_are_below) (defScope s_are_below) [] [] f fd) : Binds K fd ["value", "bound"] [] := F.bindsN fun _ _ _ _ _ _ us hl => match us, hl with | [_, _], _ => rfl
theorem b_inverse_of {f : Addr} {fd : FuncData} (F : FunD K "inverse_of" "inverse_of" (defArgs s_inverse_of) (defBody s_inverse_of) (defScope s_inverse_of) [] [] f fd) : Binds K fd ["prime", "figure"] [] := F.bindsN fun _ _ _ _ _ _ us hl => match us, hl with | [_, _], _ => rfl
theorem b_without_noughts {f : Addr} {fd : FuncData} (F : FunD K "without_noughts" "without_noughts" (defArgs s_without_noughts) (defBody s_without_noughts) (defScope s_without_noughts) [] [] f fd) : Binds K fd ["row"] [] := F.bindsN fun _ _ _ _ _ _ us hl => match us, hl with | [_], _ => rfl
theorem b_rest_of {f : Addr} {fd : FuncData} (F : FunD K "rest_of" "rest_of" (defArgs s_rest_of) (defBody s_rest_of) (defScope s_rest_of) [] [] f fd) : Binds K fd ["prime", "one", "other"] [] := F.bindsN fun _ _ _ _ _ _ us hl => match us, hl with | [_, _, _], _ => rfl
theorem b_product_of {f : Addr} {fd : FuncData} (F : FunD K "product_of" "product_of" (defArgs s_product_of) (defBody s_product_of) (defScope s_product_of) [] [] f fd) : Binds K fd ["prime", "one", "other"] [] := F.bindsN fun _ _ _ _ _ _ us hl => match us, hl with | [_, _, _], _ => rfl
theorem b_power_rest {f : Addr} {fd : FuncData} (F : FunD K "power_rest" "power_rest" (defArgs s_power_rest) (defBody s_power_rest) (defScope s_power_rest) [] [] f fd) : Binds K fd ["prime", "one", "many", "modulus"] [] := F.bindsN fun _ _ _ _ _ _ us hl => match us, hl with | [_, _, _, _], _ => rfl
theorem b_common_of {f : Addr} {fd : FuncData} (F : FunD K "common_of" "common_of" (defArgs s_common_of) (defBody s_common_of) (defScope s_common_of) [] [] f fd) : Binds K fd ["prime", "one", "other"] [] := F.bindsN fun _ _ _ _ _ _ us hl => match us, hl with | [_, _, _], _ => rfl
theorem b_less_x {f : Addr} {fd : FuncData} (F : FunD K "less_x" "less_x" (defArgs s_less_x) (defBody s_less_x) (defScope s_less_x) [] [] f fd) : Binds K fd ["prime", "one"] [] := F.bindsN fun _ _ _ _ _ _ us hl => match us, hl with | [_, _], _ => rfl
theorem b_cannot_be_parted {f : Addr} {fd : FuncData} (F : FunD K "cannot_be_parted" "cannot_be_parted" (defArgs s_cannot_be_parted) (defBody s_cannot_be_parted) (defScope s_cannot_be_parted) [] [] f fd) : Binds K fd ["prime", "modulus"] [] := F.bindsN fun _ _ _ _ _ _ us hl => match us, hl with | [_, _], _ => rfl
theorem b_is_modulus {f : Addr} {fd : FuncData} (F : FunD K "is_modulus" "is_modulus" (defArgs s_is_modulus) (defBody s_is_modulus) (defScope s_is_modulus) [] [] f fd) : Binds K fd ["prime", "value"] [] := F.bindsN fun _ _ _ _ _ _ us hl => match us, hl with | [_, _], _ => rfl
theorem b_law_times {f : Addr} {fd : FuncData} (F : FunD K "_law_times" "_law_times" (defArgs s_law_times) (defBody s_law_times) (defScope s_law_times) [] [] f fd) : Binds K fd ["_law_prime", "_law_one", "_law_other"] [] := F.bindsN fun _ _ _ _ _ _ us hl => match us, hl with | [_, _, _], _ => rfl
theorem b_law_right {f : Addr} {fd : FuncData} (F : FunD K "_law_right" "_law_right" (defArgs s_law_right) (defBody s_law_right) (defScope s_law_right) [] [] f fd) : Binds K fd ["_law_pot_here"] [] := F.bindsN fun _ _ _ _ _ _ us hl => match us, hl with | [_], _ => rfl
theorem b_law_pot {f : Addr} {fd : FuncData} (F : FunD K "_law_pot" "_law_pot" (defArgs s_law_pot) (defBody s_law_pot) (defScope s_law_pot) [] [] f fd) : Binds K fd ["_law_script", "_law_k"] [] := F.bindsN fun _ _ _ _ _ _ us hl => match us, hl with | [_, _], _ => rfl
theorem primes_ok (c : SaysM fa fn ex K) : PrimesOk K := fun H => He.tupB_ok (He.ba c.2).1 H
theorem ip_ (c : SaysM fa fn ex K) : IsPs K [] := ipB_ok (He.ba c.2).2
theorem ok_law_draw (KX : K.In h) (G : h.Ns mainGlobals mg) (c : SaysM fa fn ex K) : ∃ fd, FunD K "_law_draw" "_law_draw" (defArgs s_law_draw) (defBody s_law_draw) (defScope s_law_draw) [] [] (d_law_draw.at_ K) fd ∧ FnOk P w K mg base CX0 1 (d_law_draw.at_ K) fd ["_law_pot_here", "_law_sides"] (sp_law_draw K) := by
  obtain ⟨fd, F⟩ := c.1.def_ 16 (d := d_law_draw) rfl
  refine ⟨fd, F, F.ok sc_law_draw len_law_draw (fun cdv A outer s H vs Q E hr h => ⟨t_law_draw K, PSs.nox ?_, pure_law_draw vs H Q E h⟩)⟩
  exact (pss_cons (ps_if (pt_cmpR op_gt (pe_ix ix_list (pv 0) pe_int (fun _ _ => rfl)) pe_int (nomark _)) (pss_cons (ps_asg (pe_callB call_divmod (by rfl) (He.free_ok KX G (c.1.fact 44)) (by decide +kernel) (pa_cons (pe_ix ix_list (pv 0) pe_int (fun _ _ => rfl)) (pa_cons (pv 1) pa_nil))) (pg_tup rfl (pgs_cons (pg_sub (pv 0) pe_int set_list) (pgs_cons (pg_name (i := 2) sc_law_draw.nd rfl (by first | exact Or.inl rfl | exact Or.inr rfl)) pgs_nil)))) (pss_one (ps_ret (pv 2)))) pss_nil) (pss_cons (ps_asg (pe_op op_mod (pe_callTy call_int1 (by rfl) (He.free_ok KX G (c.1.fact 31)) (by decide +kernel) (pa_cons (pe_op op_add (pe_op op_mul (pe_ix ix_list (pv 0) pe_int (fun _ _ => rfl)) pe_int) pe_int) pa_nil)) pe_int) (pg_sub (pv 0) pe_int set_list)) (pss_one (ps_ret (pe_op op_mod (pe_callTy call_int1 (by rfl) (He.free_ok KX G (c.1.fact 31)) (by decide +kernel) (pa_cons (pe_op op_fdiv (pe_op op_mod (pe_callTy call_int1 (by rfl) (He.free_ok KX G (c.1.fact 31)) (by decide +kernel) (pa_cons (pe_op op_mul (pe_ix ix_list (pv 0) pe_int (fun _ _ => rfl)) (pe_ix ix_list (pv 0) pe_int (fun _ _ => rfl))) pa_nil)) pe_int) pe_int) pa_nil)) (pv 1))))))
theorem ok_law_pick (KX : K.In h) (G : h.Ns mainGlobals mg) (c : SaysM fa fn ex K) : ∃ fd, FunD K "_law_pick" "_law_pick" (defArgs s_law_pick) (defBody s_law_pick) (defScope s_law_pick) [] [] (d_law_pick.at_ K) fd ∧ FnOk P w K mg base CX0 2 (d_law_pick.at_ K) fd ["_law_pot_here", "_law_some"] (sp_law_pick K) := by
  obtain ⟨fd_law_draw, F_law_draw, g_law_draw⟩ := ok_law_draw (P := P) (w := w) (base := base) KX G c
  obtain ⟨fd, F⟩ := c.1.def_ 17 (d := d_law_pick) rfl
  refine ⟨fd, F, F.ok sc_law_pick len_law_pick (fun cdv A outer s H vs Q E hr h => ⟨t_law_pick K, PSs.nox ?_, pure_law_pick vs H Q E h⟩)⟩
  exact (pss_one (ps_ret (pe_ix ix_any (pv 1) (pe_call g_law_draw (hr.mono (by decide)) rfl (He.glo_ok KX G (c.1.fact 16)) F_law_draw.kp (b_law_draw F_law_draw) .nil pass0 (pa_cons (pv 0) (pa_cons (pe_callB call_len_seq (by rfl) (He.free_ok KX G (c.1.fact 35)) (by decide +kernel) (pa_cons (pv 1) pa_nil)) pa_nil))) (fun _ _ => rfl))))
theorem ok_law_field (KX : K.In h) (G : h.Ns mainGlobals mg) (c : SaysM fa fn ex K) : ∃ fd, FunD K "_law_field" "_law_field" (defArgs s_law_field) (defBody s_law_field) (defScope s_law_field) [] [] (d_law_field.at_ K) fd ∧ FnOk P w K mg base CX0 3 (d_law_field.at_ K) fd ["_law_pot_here"] (sp_law_field K) := by
  obtain ⟨fd_law_draw, F_law_draw, g_law_draw⟩ := ok_law_draw (P := P) (w := w) (base := base) KX G c
  obtain ⟨fd_law_pick, F_law_pick, g_law_pick⟩ := ok_law_pick (P := P) (w := w) (base := base) KX G c
  obtain ⟨fd, F⟩ := c.1.def_ 18 (d := d_law_field) rfl
  refine ⟨fd, F, F.ok sc_law_field len_law_field (fun cdv A outer s H vs Q E hr h => ⟨t_law_field K, PSs.nox ?_, pure_law_field vs H Q E h⟩)⟩
  exact (pss_cons (ps_set (i := 1) sc_law_field.nd rfl (by first | exact Or.inl rfl | exact Or.inr rfl) (pe_lst (pa_cons (pe_tup (pa_cons pe_int (pa_cons (pe_lst (pa_cons pe_int (pa_cons pe_int (pa_cons pe_int pa_nil)))) pa_nil))) (pa_cons (pe_tup (pa_cons pe_int (pa_cons (pe_lst (pa_cons pe_int (pa_cons pe_int (pa_cons pe_int (pa_cons pe_int pa_nil))))) pa_nil))) (pa_cons (pe_tup (pa_cons pe_int (pa_cons (pe_lst (pa_cons pe_int (pa_cons pe_int (pa_cons pe_int (pa_cons pe_int pa_nil))))) pa_nil))) (pa_cons (pe_tup (pa_cons pe_int (pa_cons (pe_lst (pa_cons pe_int (pa_cons pe_int (pa_cons pe_int (pa_cons pe_int (pa_cons pe_int pa_nil)))))) pa_nil))) pa_nil)))))) (pss_cons (ps_set (i := 1) sc_law_field.nd rfl (by first | exact Or.inl rfl | exact Or.inr rfl) (pe_op op_cat (pv 1) (pe_lst (pa_cons (pe_tup (pa_cons pe_int (pa_cons (pe_lst (pa_cons pe_int (pa_cons pe_int (pa_cons pe_int pa_nil)))) pa_nil))) (pa_cons (pe_tup (pa_cons pe_int (pa_cons (pe_lst (pa_cons pe_int (pa_cons pe_int (pa_cons pe_int pa_nil)))) pa_nil))) (pa_cons (pe_tup (pa_cons pe_int (pa_cons (pe_lst (pa_cons pe_int (pa_cons pe_int (pa_cons pe_int pa_nil)))) pa_nil))) pa_nil)))))) (pss_cons (ps_if (pt_cmpR (op_eqA hr.units) (pe_call g_law_draw (hr.mono (by decide)) rfl (He.glo_ok KX G (c.1.fact 16)) F_law_draw.kp (b_law_draw F_law_draw) .nil pass0 (pa_cons (pv 0) (pa_cons pe_int pa_nil))) pe_int (nomark _)) (pss_cons (ps_set (i := 1) sc_law_field.nd rfl (by first | exact Or.inl rfl | exact Or.inr rfl) (pe_lst (pa_cons (pe_tup (pa_cons pe_int (pa_cons (pe_lst (pa_cons pe_int (pa_cons pe_int (pa_cons pe_int (pa_cons pe_int (pa_cons pe_int (pa_cons pe_int pa_nil))))))) pa_nil))) (pa_cons (pe_tup (pa_cons pe_int (pa_cons (pe_lst (pa_cons pe_int (pa_cons pe_int (pa_cons pe_int (pa_cons pe_int (pa_cons pe_int (pa_cons pe_int (pa_cons pe_int pa_nil)))))))) pa_nil))) (pa_cons (pe_tup (pa_cons pe_int (pa_cons (pe_lst (pa_cons pe_int (pa_cons pe_int (pa_cons pe_int (pa_cons pe_int pa_nil))))) pa_nil))) (pa_cons (pe_tup (pa_cons pe_int (pa_cons (pe_lst (pa_cons pe_int (pa_cons pe_int (pa_cons pe_int pa_nil)))) pa_nil))) pa_nil)))))) (pss_one (ps_set (i := 1) sc_law_field.nd rfl (by first | exact Or.inl rfl | exact Or.inr rfl) (pe_op op_cat (pv 1) (pe_lst (pa_cons (pe_tup (pa_cons pe_int (pa_cons (pe_lst (pa_cons pe_int (pa_cons pe_int (pa_cons pe_int (pa_cons pe_int pa_nil))))) pa_nil))) (pa_cons (pe_tup (pa_cons pe_int (pa_cons (pe_lst (pa_cons pe_int (pa_cons pe_int (pa_cons pe_int (pa_cons pe_int (pa_cons pe_int (pa_cons pe_int (pa_cons pe_int (pa_cons pe_int pa_nil))))))))) pa_nil))) (pa_cons (pe_tup (pa_cons pe_int (pa_cons (pe_lst (pa_cons pe_int (pa_cons pe_int (pa_cons pe_int (pa_cons pe_int (pa_cons pe_int pa_nil)))))) pa_nil))) pa_nil)))))))) pss_nil) (pss_one (ps_ret (pe_call g_law_pick (hr.mono (by decide)) rfl (He.glo_ok KX G (c.1.fact 17)) F_law_pick.kp (b_law_pick F_law_pick) .nil pass0 (pa_cons (pv 0) (pa_cons (pv 1) pa_nil))))))))
theorem ok_law_drawn (KX : K.In h) (G : h.Ns mainGlobals mg) (c : SaysM fa fn ex K) : ∃ fd, FunD K "_law_drawn" "_law_drawn" (defArgs s_law_drawn) (defBody s_law_drawn) (defScope s_law_drawn) [] [] (d_law_drawn.at_ K) fd ∧ FnOk P w K mg base CX0 2 (d_law_drawn.at_ K) fd ["_law_pot_here", "_law_prime", "_law_most"] (sp_law_drawn K) := by
  obtain ⟨fd_law_draw, F_law_draw, g_law_draw⟩ := ok_law_draw (P := P) (w := w) (base := base) KX G c
  obtain ⟨fd, F⟩ := c.1.def_ 23 (d := d_law_drawn) rfl
  refine ⟨fd, F, F.ok sc_law_drawn len_law_drawn (fun cdv A outer s H vs Q E hr h => ⟨t_law_drawn K, PSs.nox ?_, pure_law_drawn vs H Q E h⟩)⟩
  exact (pss_one (ps_ret (pe_op op_cat (pe_lc (own := [("_law_turn", 3)]) (g := (gName 3)) (tt := tYes) (by rfl) sc_law_drawn.nd (pi_range1 (by rfl) (He.free_ok KX G (c.1.fact 38)) (pa_cons (pe_op op_add pe_int (pe_call g_law_draw (hr.mono (by decide)) rfl (He.glo_ok KX G (c.1.fact 16)) F_law_draw.kp (b_law_draw F_law_draw) .nil pass0 (pa_cons (pv 0) (pa_cons (pe_op op_sub (pv 2) pe_int) pa_nil)))) pa_nil)) (blkOk_by (own := [("_law_turn", 3)]) (N := ["_law_pot_here", "_law_prime", "_law_most", "_law_turn"]) (sc := defScope s_law_drawn) (by decide +kernel)) (fun _ _ _ _ _ => (pg_name (i := 3) sc_law_drawn.nd rfl (by first | exact Or.inl rfl | exact Or.inr rfl))) (fun _ _ _ _ _ => pts_nil) (fun _ _ _ _ _ => (pe_call g_law_draw (hr.mono (by decide)) rfl (He.glo_ok KX G (c.1.fact 16)) F_law_draw.kp (b_law_draw F_law_draw) .nil pass0 (pa_cons (pv 0) (pa_cons (pv 1) pa_nil))))) (pe_lst (pa_cons pe_int pa_nil)))))
theorem ok_law_all (KX : K.In h) (G : h.Ns mainGlobals mg) (c : SaysM fa fn ex K) : ∃ fd, FunD K "_law_all" "_law_all" (defArgs s_law_all) (defBody s_law_all) (defScope s_law_all) [] [] (d_law_all.at_ K) fd ∧ FnOk P w K mg base CX0 1 (d_law_all.at_ K) fd ["_law_prime", "_law_many"] (sp_law_all K) := by
  obtain ⟨fd, F⟩ := c.1.def_ 20 (d := d_law_all) rfl
  refine ⟨fd, F, F.ok sc_law_all len_law_all (fun cdv A outer s H vs Q E hr h => ⟨t_law_all K, PSs.nox ?_, pure_law_all vs H Q E h⟩)⟩
  exact (pss_cons (ps_set (i := 2) sc_law_all.nd rfl (by first | exact Or.inl rfl | exact Or.inr rfl) (pe_lst (pa_cons (pe_lst (pa_cons pe_int pa_nil)) pa_nil))) (pss_cons (ps_for PassesOwn.never rfl (pi_range1 (by rfl) (He.free_ok KX G (c.1.fact 38)) (pa_cons (pv 1) pa_nil)) (pg_name (i := 3) sc_law_all.nd rfl (by first | exact Or.inl rfl | exact Or.inr rfl)) (pss_cons (ps_set (i := 4) sc_law_all.nd rfl (by first | exact Or.inl rfl | exact Or.inr rfl) (pe_lst pa_nil)) (pss_cons (ps_for PassesOwn.never rfl (pi_seq (pv 2)) (pg_name (i := 5) sc_law_all.nd rfl (by first | exact Or.inl rfl | exact Or.inr rfl)) (pss_one (ps_expr (pe_bm PySem.F.plainAttrs_list PySem.F.slot_list_extend PySem.F.type_list_extend mt_extend (pv 4) (pa_cons (pe_lc (own := [("_law_figure", 6)]) (g := (gName 6)) (tt := tYes) (by rfl) sc_law_all.nd (pi_range1 (by rfl) (He.free_ok KX G (c.1.fact 38)) (pa_cons (pv 0) pa_nil)) (blkOk_by (own := [("_law_figure", 6)]) (N := ["_law_prime", "_law_many", "_law_found", "_law_turn", "_law_longer", "_law_figures", "_law_figure"]) (sc := defScope s_law_all) (by decide +kernel)) (fun _ _ _ _ _ => (pg_name (i := 6) sc_law_all.nd rfl (by first | exact Or.inl rfl | exact Or.inr rfl))) (fun _ _ _ _ _ => pts_nil) (fun _ _ _ _ _ => (pe_op op_cat (pe_lst (pa_cons (pv 6) pa_nil)) (pv 5)))) pa_nil))))) (pss_one (ps_set (i := 2) sc_law_all.nd rfl (by first | exact Or.inl rfl | exact Or.inr rfl) (pv 4)))))) (pss_one (ps_ret (pv 2)))))
theorem ok_law_rest (KX : K.In h) (G : h.Ns mainGlobals mg) (c : SaysM fa fn ex K) : ∃ fd, FunD K "_law_rest" "_law_rest" (defArgs s_law_rest) (defBody s_law_rest) (defScope s_law_rest) [] [] (d_law_rest.at_ K) fd ∧ FnOk P w K mg base CX0 1 (d_law_rest.at_ K) fd ["_law_prime", "_law_figures", "_law_other"] (sp_law_rest K) := by
  obtain ⟨fd, F⟩ := c.1.def_ 19 (d := d_law_rest) rfl
  refine ⟨fd, F, F.ok sc_law_rest len_law_rest (fun cdv A outer s H vs Q E hr h => ⟨t_law_rest K, PSs.nox ?_, pure_law_rest vs H Q E h⟩)⟩
  exact (pss_cons (ps_set (i := 3) sc_law_rest.nd rfl (by first | exact Or.inl rfl | exact Or.inr rfl) (pe_callTy call_list_of (by rfl) (He.free_ok KX G (c.1.fact 33)) (by decide +kernel) (pa_cons (pv 1) pa_nil))) (pss_cons (ps_while PassesOwn.never (pt_cmpR op_ge (pe_callB call_len_seq (by rfl) (He.free_ok KX G (c.1.fact 35)) (by decide +kernel) (pa_cons (pv 3) pa_nil)) (pe_callB call_len_seq (by rfl) (He.free_ok KX G (c.1.fact 35)) (by decide +kernel) (pa_cons (pv 2) pa_nil)) (nomark _)) (pss_cons (ps_set (i := 4) sc_law_rest.nd rfl (by first | exact Or.inl rfl | exact Or.inr rfl) (pe_bm0 PySem.F.plainAttrs_list PySem.F.slot_list_pop PySem.F.type_list_pop mt_pop (pv 3))) (pss_one (ps_for PassesOwn.never rfl (pi_range1 (by rfl) (He.free_ok KX G (c.1.fact 38)) (pa_cons (pe_op op_sub (pe_callB call_len_seq (by rfl) (He.free_ok KX G (c.1.fact 35)) (by decide +kernel) (pa_cons (pv 2) pa_nil)) pe_int) pa_nil)) (pg_name (i := 5) sc_law_rest.nd rfl (by first | exact Or.inl rfl | exact Or.inr rfl)) (pss_cons (ps_set (i := 6) sc_law_rest.nd rfl (by first | exact Or.inl rfl | exact Or.inr rfl) (pe_op op_add (pe_op op_add (pe_op op_sub (pe_callB call_len_seq (by rfl) (He.free_ok KX G (c.1.fact 35)) (by decide +kernel) (pa_cons (pv 3) pa_nil)) (pe_callB call_len_seq (by rfl) (He.free_ok KX G (c.1.fact 35)) (by decide +kernel) (pa_cons (pv 2) pa_nil))) pe_int) (pv 5))) (pss_cons (ps_set (i := 7) sc_law_rest.nd rfl (by first | exact Or.inl rfl | exact Or.inr rfl) (pe_op op_sub (pe_ix ix_any (pv 3) (pv 6) (fun _ _ => rfl)) (pe_op op_mul (pv 4) (pe_ix ix_any (pv 2) (pv 5) (fun _ _ => rfl))))) (pss_one (ps_asg (pe_op op_sub (pv 7) (pe_op op_mul (pe_op op_fdiv (pv 7) (pv 0)) (pv 0))) (pg_sub (pv 3) (pv 6) set_list))))))))) (pss_one (ps_ret (pv 3)))))
theorem ok_law_is_modulus (KX : K.In h) (G : h.Ns mainGlobals mg) (c : SaysM fa fn ex K) : ∃ fd, FunD K "_law_is_modulus" "_law_is_modulus" (defArgs s_law_is_modulus) (defBody s_law_is_modulus) (defScope s_law_is_modulus) [] [] (d_law_is_modulus.at_ K) fd ∧ FnOk P w K mg base CX0 2 (d_law_is_modulus.at_ K) fd ["_law_prime", "_law_value"] (sp_law_is_modulus K) := by
  obtain ⟨fd_law_all, F_law_all, g_law_all⟩ := ok_law_all (P := P) (w := w) (base := base) KX G c
  obtain ⟨fd_law_rest, F_law_rest, g_law_rest⟩ := ok_law_rest (P := P) (w := w) (base := base) KX G c
  obtain ⟨fd, F⟩ := c.1.def_ 21 (d := d_law_is_modulus) rfl
  refine ⟨fd, F, F.ok sc_law_is_modulus len_law_is_modulus (fun cdv A outer s H vs Q E hr h => ⟨t_law_is_modulus K, PSs.nox ?_, pure_law_is_modulus (ip_ c) vs H Q E h⟩)⟩
  exact (pss_cons (ps_if (PW.pt (pw_or (pt_not (pt_val (pe_callB call_isiT (by rfl) (He.free_ok KX G (c.1.fact 30)) (by decide +kernel) (pa_cons (pv 1) (pa_cons (pe_tup (pa_cons (pe_bltn rfl (He.free_ok KX G (c.1.fact 33)) (by decide +kernel) rfl) (pa_cons (pe_bltn rfl (He.free_ok KX G (c.1.fact 34)) (by decide +kernel) rfl) pa_nil))) pa_nil))))) (pw_or1 (pt_not (pt_chain op_le op_le pe_int (pe_callB call_len_seq (by rfl) (He.free_ok KX G (c.1.fact 35)) (by decide +kernel) (pa_cons (pv 1) pa_nil)) pe_int))))) (pss_one (ps_ret pe_bl)) pss_nil) (pss_cons (ps_if (pt_not (pt_val (pe_callB (cr_all rfl) (by rfl) (He.free_ok KX G (c.1.fact 36)) (by decide +kernel) (pa_cons (pe_lc (own := [("_law_one", 4)]) (g := (gName 4)) (tt := tYes) (by rfl) sc_law_is_modulus.nd (pi_seq (pv 1)) (blkOk_by (own := [("_law_one", 4)]) (N := ["_law_prime", "_law_value", "_law_many", "_law_other", "_law_one"]) (sc := defScope s_law_is_modulus) (by decide +kernel)) (fun _ _ _ _ _ => (pg_name (i := 4) sc_law_is_modulus.nd rfl (by first | exact Or.inl rfl | exact Or.inr rfl))) (fun _ _ _ _ _ => pts_nil) (fun _ _ _ _ _ => (pe_and (pe_callB call_isi (by rfl) (He.free_ok KX G (c.1.fact 30)) (by decide +kernel) (pa_cons (pv 4) (pa_cons (pe_bltn rfl (He.free_ok KX G (c.1.fact 31)) (by decide +kernel) rfl) pa_nil))) (pe_and (pe_not (pe_callB call_isi (by rfl) (He.free_ok KX G (c.1.fact 30)) (by decide +kernel) (pa_cons (pv 4) (pa_cons (pe_bltn rfl (He.free_ok KX G (c.1.fact 32)) (by decide +kernel) rfl) pa_nil)))) (pe_one (pe_chain op_le op_lt pe_int (pv 4) (pv 0))))))) pa_nil)))) (pss_one (ps_ret pe_bl)) pss_nil) (pss_cons (ps_if (pt_cmpR (op_neA hr.units) (pe_ix ix_any (pv 1) (pe_un un_neg pe_int) (fun _ _ => rfl)) pe_int (nomark _)) (pss_one (ps_ret pe_bl)) pss_nil) (pss_cons (ps_for PassesOwn.never rfl (pi_range2 (by rfl) (He.free_ok KX G (c.1.fact 38)) (pa_cons pe_int (pa_cons (pe_op op_add (pe_op op_fdiv (pe_op op_sub (pe_callB call_len_seq (by rfl) (He.free_ok KX G (c.1.fact 35)) (by decide +kernel) (pa_cons (pv 1) pa_nil)) pe_int) pe_int) pe_int) pa_nil))) (pg_name (i := 2) sc_law_is_modulus.nd rfl (by first | exact Or.inl rfl | exact Or.inr rfl)) (pss_one (ps_for PassesOwn.never rfl (pi_seq (pe_call g_law_all (hr.mono (by decide)) rfl (He.glo_ok KX G (c.1.fact 20)) F_law_all.kp (b_law_all F_law_all) .nil pass0 (pa_cons (pv 0) (pa_cons (pv 2) pa_nil)))) (pg_name (i := 3) sc_law_is_modulus.nd rfl (by first | exact Or.inl rfl | exact Or.inr rfl)) (pss_one (ps_if (pt_not (pt_val (pe_callB (cr_anyI rfl) (by rfl) (He.free_ok KX G (c.1.fact 37)) (by decide +kernel) (pa_cons (pe_call g_law_rest (hr.mono (by decide)) rfl (He.glo_ok KX G (c.1.fact 19)) F_law_rest.kp (b_law_rest F_law_rest) .nil pass0 (pa_cons (pv 0) (pa_cons (pv 1) (pa_cons (pv 3) pa_nil)))) pa_nil)))) (pss_one (ps_ret pe_bl)) pss_nil))))) (pss_one (ps_ret pe_bl))))))
theorem ok_is_integer (KX : K.In h) (G : h.Ns mainGlobals mg) (c : SaysM fa fn ex K) : ∃ fd, FunD K "is_integer" "is_integer" (defArgs s_is_integer) (defBody s_is_integer) (defScope s_is_integer) [] [] (d_is_integer.at_ K) fd ∧ FnOk P w K mg base CX0 1 (d_is_integer.at_ K) fd ["value"] (sp_is_integer K) := by
  obtain ⟨fd, F⟩ := c.1.def_ 0 (d := d_is_integer) rfl
  refine ⟨fd, F, F.ok sc_is_integer len_is_integer (fun cdv A outer s H vs Q E hr h => ⟨t_is_integer K, PSs.nox ?_, pure_is_integer vs H Q E h⟩)⟩
  exact (pss_one (ps_ret (pe_and (pe_callB call_isi (by rfl) (He.free_ok KX G (c.1.fact 30)) (by decide +kernel) (pa_cons (pv 0) (pa_cons (pe_bltn rfl (He.free_ok KX G (c.1.fact 31)) (by decide +kernel) rfl) pa_nil))) (pe_one (pe_not (pe_callB call_isi (by rfl) (He.free_ok KX G (c.1.fact 30)) (by decide +kernel) (pa_cons (pv 0) (pa_cons (pe_bltn rfl (He.free_ok KX G (c.1.fact 32)) (by decide +kernel) rfl) pa_nil))))))))
theorem ok_check_prime (KX : K.In h) (G : h.Ns mainGlobals mg) (c : SaysM fa fn ex K) : ∃ fd, FunD K "check_prime" "check_prime" (defArgs s_check_prime) (defBody s_check_prime) (defScope s_check_prime) [] [] (d_check_prime.at_ K) fd ∧ FnOk P w K mg base CX0 2 (d_check_prime.at_ K) fd ["value"] (sp_check_prime K) := by
  obtain ⟨fd_is_integer, F_is_integer, g_is_integer⟩ := ok_is_integer (P := P) (w := w) (base := base) KX G c
  obtain ⟨fd, F⟩ := c.1.def_ 13 (d := d_check_prime) rfl
  refine ⟨fd, F, F.ok sc_check_prime len_check_prime (fun cdv A outer s H vs Q E hr h => ⟨t_check_prime K, PSs.nox ?_, pure_check_prime (primes_ok c) vs H Q E h⟩)⟩
  exact (pss_one (ps_if (PW.pt (pw_or (pt_not (pt_val (pe_call g_is_integer (hr.mono (by decide)) rfl (He.glo_ok KX G (c.1.fact 0)) F_is_integer.kp (b_is_integer F_is_integer) .nil pass0 (pa_cons (pv 0) pa_nil)))) (pw_or1 (pt_cmpR op_notIn_seq (pv 0) (pe_glob rfl (He.glo_ok KX G (c.1.fact 28)) rfl) rfl)))) (pss_one ps_never) pss_nil))
theorem ok_is_list (KX : K.In h) (G : h.Ns mainGlobals mg) (c : SaysM fa fn ex K) : ∃ fd, FunD K "is_list" "is_list" (defArgs s_is_list) (defBody s_is_list) (defScope s_is_list) [] [] (d_is_list.at_ K) fd ∧ FnOk P w K mg base CX0 1 (d_is_list.at_ K) fd ["value"] (sp_is_list K) := by
  obtain ⟨fd, F⟩ := c.1.def_ 3 (d := d_is_list) rfl
  refine ⟨fd, F, F.ok sc_is_list len_is_list (fun cdv A outer s H vs Q E hr h => ⟨t_is_list K, PSs.nox ?_, pure_is_list vs H Q E h⟩)⟩
  exact (pss_one (ps_ret (pe_callB call_isiT (by rfl) (He.free_ok KX G (c.1.fact 30)) (by decide +kernel) (pa_cons (pv 0) (pa_cons (pe_tup (pa_cons (pe_bltn rfl (He.free_ok KX G (c.1.fact 33)) (by decide +kernel) rfl) (pa_cons (pe_bltn rfl (He.free_ok KX G (c.1.fact 34)) (by decide +kernel) rfl) pa_nil))) pa_nil)))))
theorem ok_is_count (KX : K.In h) (G : h.Ns mainGlobals mg) (c : SaysM fa fn ex K) : ∃ fd, FunD K "is_count" "is_count" (defArgs s_is_count) (defBody s_is_count) (defScope s_is_count) [] [] (d_is_count.at_ K) fd ∧ FnOk P w K mg base CX0 2 (d_is_count.at_ K) fd ["value"] (sp_is_count K) := by
  obtain ⟨fd_is_integer, F_is_integer, g_is_integer⟩ := ok_is_integer (P := P) (w := w) (base := base) KX G c
  obtain ⟨fd, F⟩ := c.1.def_ 1 (d := d_is_count) rfl
  refine ⟨fd, F, F.ok sc_is_count len_is_count (fun cdv A outer s H vs Q E hr h => ⟨t_is_count K, PSs.nox ?_, pure_is_count vs H Q E h⟩)⟩
  exact (pss_one (ps_ret (pe_and (pe_call g_is_integer (hr.mono (by decide)) rfl (He.glo_ok KX G (c.1.fact 0)) F_is_integer.kp (b_is_integer F_is_integer) .nil pass0 (pa_cons (pv 0) pa_nil)) (pe_one (pe_cmpR op_ge (pv 0) pe_int (nomark _))))))
theorem ok_is_below (KX : K.In h) (G : h.Ns mainGlobals mg) (c : SaysM fa fn ex K) : ∃ fd, FunD K "is_below" "is_below" (defArgs s_is_below) (defBody s_is_below) (defScope s_is_below) [] [] (d_is_below.at_ K) fd ∧ FnOk P w K mg base CX0 3 (d_is_below.at_ K) fd ["value", "bound"] (sp_is_below K) := by
  obtain ⟨fd_is_count, F_is_count, g_is_count⟩ := ok_is_count (P := P) (w := w) (base := base) KX G c
  obtain ⟨fd, F⟩ := c.1.def_ 2 (d := d_is_below) rfl
  refine ⟨fd, F, F.ok sc_is_below len_is_below (fun cdv A outer s H vs Q E hr h => ⟨t_is_below K, PSs.nox ?_, pure_is_below vs H Q E h⟩)⟩
  exact (pss_one (ps_ret (pe_and (pe_call g_is_count (hr.mono (by decide)) rfl (He.glo_ok KX G (c.1.fact 1)) F_is_count.kp (b_is_count F_is_count) .nil pass0 (pa_cons (pv 0) pa_nil)) (pe_one (pe_cmpR op_lt (pv 0) (pv 1) (nomark _))))))
theorem ok_are_below (KX : K.In h) (G : h.Ns mainGlobals mg) (c : SaysM fa fn ex K) : ∃ fd, FunD K "are_below" "are_below" (defArgs s_are_below) (defBody s_are_below) (defScope s_are_below) [] [] (d_are_below.at_ K) fd ∧ FnOk P w K mg base CX0 4 (d_are_below.at_ K) fd ["value", "bound"] (sp_are_below K) := by
  obtain ⟨fd_is_list, F_is_list, g_is_list⟩ := ok_is_list (P := P) (w := w) (base := base) KX G c
  obtain ⟨fd_is_below, F_is_below, g_is_below⟩ := ok_is_below (P := P) (w := w) (base := base) KX G c
  obtain ⟨fd, F⟩ := c.1.def_ 4 (d := d_are_below) rfl
  refine ⟨fd, F, F.ok sc_are_below len_are_below (fun cdv A outer s H vs Q E hr h => ⟨t_are_below K, PSs.nox ?_, pure_are_below vs H Q E h⟩)⟩
  exact (pss_one (ps_ret (pe_and (pe_call g_is_list (hr.mono (by decide)) rfl (He.glo_ok KX G (c.1.fact 3)) F_is_list.kp (b_is_list F_is_list) .nil pass0 (pa_cons (pv 0) pa_nil)) (pe_one (pe_callB (cr_all rfl) (by rfl) (He.free_ok KX G (c.1.fact 36)) (by decide +kernel) (pa_cons (pe_lc (own := [("one", 2)]) (g := (gName 2)) (tt := tYes) (by rfl) sc_are_below.nd (pi_any (pi_list (pv 0)) (pi_tup (pv 0))) (blkOk_by (own := [("one", 2)]) (N := ["value", "bound", "one"]) (sc := defScope s_are_below) (by decide +kernel)) (fun _ _ _ _ _ => (pg_name (i := 2) sc_are_below.nd rfl (by first | exact Or.inl rfl | exact Or.inr rfl))) (fun _ _ _ _ _ => pts_nil) (fun _ _ _ _ _ => (pe_call g_is_below (hr.mono (by decide)) rfl (He.glo_ok KX G (c.1.fact 2)) F_is_below.kp (b_is_below F_is_below) .nil pass0 (pa_cons (pv 2) (pa_cons (pv 1) pa_nil))))) pa_nil))))))
theorem ok_inverse_of (KX : K.In h) (G : h.Ns mainGlobals mg) (c : SaysM fa fn ex K) : ∃ fd, FunD K "inverse_of" "inverse_of" (defArgs s_inverse_of) (defBody s_inverse_of) (defScope s_inverse_of) [] [] (d_inverse_of.at_ K) fd ∧ FnOk P w K mg base CX0 1 (d_inverse_of.at_ K) fd ["prime", "figure"] (sp_inverse_of K) := by
  obtain ⟨fd, F⟩ := c.1.def_ 7 (d := d_inverse_of) rfl
  refine ⟨fd, F, F.ok sc_inverse_of len_inverse_of (fun cdv A outer s H vs Q E hr h => ⟨t_inverse_of K, PSs.nox ?_, pure_inverse_of vs H Q E h⟩)⟩
  exact (pss_one (ps_ret (pe_ix ix_list (pe_lc (own := [("other", 2)]) (g := (gName 2)) (tt := (tTest (tOp rEq (tOp rModI (tOp rMulI (tVar 1) (tVar 2)) (tVar 0)) (tC (.int 1))))) (by rfl) sc_inverse_of.nd (pi_range2 (by rfl) (He.free_ok KX G (c.1.fact 38)) (pa_cons pe_int (pa_cons (pv 0) pa_nil))) (blkOk_by (own := [("other", 2)]) (N := ["prime", "figure", "other"]) (sc := defScope s_inverse_of) (by decide +kernel)) (fun _ _ _ _ _ => (pg_name (i := 2) sc_inverse_of.nd rfl (by first | exact Or.inl rfl | exact Or.inr rfl))) (fun _ _ _ _ _ => (pts_one (pt_cmpR op_eq (pe_op op_mod (pe_op op_mul (pv 1) (pv 2)) (pv 0)) pe_int (nomark _)))) (fun _ _ _ _ _ => (pv 2))) pe_int (fun _ _ => rfl))))
theorem ok_without_noughts (KX : K.In h) (G : h.Ns mainGlobals mg) (c : SaysM fa fn ex K) : ∃ fd, FunD K "without_noughts" "without_noughts" (defArgs s_without_noughts) (defBody s_without_noughts) (defScope s_without_noughts) [] [] (d_without_noughts.at_ K) fd ∧ FnOk P w K mg base CX0 1 (d_without_noughts.at_ K) fd ["row"] (sp_without_noughts K) := by
  obtain ⟨fd, F⟩ := c.1.def_ 5 (d := d_without_noughts) rfl
  refine ⟨fd, F, F.ok sc_without_noughts len_without_noughts (fun cdv A outer s H vs Q E hr h => ⟨t_without_noughts K, PSs.nox ?_, pure_without_noughts vs H Q E h⟩)⟩
  exact (pss_cons (ps_set (i := 1) sc_without_noughts.nd rfl (by first | exact Or.inl rfl | exact Or.inr rfl) (pe_callB call_len_seq (by rfl) (He.free_ok KX G (c.1.fact 35)) (by decide +kernel) (pa_cons (pv 0) pa_nil))) (pss_cons (ps_while PassesOwn.never (PW.pt (pw_and (pt_cmpR op_gt (pv 1) pe_int (nomark _)) (pw_and1 (pt_cmpR op_eq (pe_ix ix_any (pv 0) (pe_op op_sub (pv 1) pe_int) (fun _ _ => rfl)) pe_int (nomark _))))) (pss_one (ps_aug (i := 1) sc_without_noughts.nd rfl (by first | exact Or.inl rfl | exact Or.inr rfl) pe_int ip_sub))) (pss_one (ps_ret (pe_callTy call_list_of (by rfl) (He.free_ok KX G (c.1.fact 33)) (by decide +kernel) (pa_cons (pe_slice sl_any (pv 0) po_none (po_some (pv 1))) pa_nil))))))
theorem ok_rest_of (KX : K.In h) (G : h.Ns mainGlobals mg) (c : SaysM fa fn ex K) : ∃ fd, FunD K "rest_of" "rest_of" (defArgs s_rest_of) (defBody s_rest_of) (defScope s_rest_of) [] [] (d_rest_of.at_ K) fd ∧ FnOk P w K mg base CX0 2 (d_rest_of.at_ K) fd ["prime", "one", "other"] (sp_rest_of K) := by
  obtain ⟨fd_inverse_of, F_inverse_of, g_inverse_of⟩ := ok_inverse_of (P := P) (w := w) (base := base) KX G c
  obtain ⟨fd_without_noughts, F_without_noughts, g_without_noughts⟩ := ok_without_noughts (P := P) (w := w) (base := base) KX G c
  obtain ⟨fd, F⟩ := c.1.def_ 8 (d := d_rest_of) rfl
  refine ⟨fd, F, F.ok sc_rest_of len_rest_of (fun cdv A outer s H vs Q E hr h => ⟨t_rest_of K, PSs.nox ?_, pure_rest_of vs H Q E h⟩)⟩
  exact (pss_cons (ps_set (i := 3) sc_rest_of.nd rfl (by first | exact Or.inl rfl | exact Or.inr rfl) (pe_call g_inverse_of (hr.mono (by decide)) rfl (He.glo_ok KX G (c.1.fact 7)) F_inverse_of.kp (b_inverse_of F_inverse_of) .nil pass0 (pa_cons (pv 0) (pa_cons (pe_ix ix_list (pv 2) (pe_un un_neg pe_int) (fun _ _ => rfl)) pa_nil)))) (pss_cons (ps_set (i := 4) sc_rest_of.nd rfl (by first | exact Or.inl rfl | exact Or.inr rfl) (pe_callTy call_list_of (by rfl) (He.free_ok KX G (c.1.fact 33)) (by decide +kernel) (pa_cons (pv 1) pa_nil))) (pss_cons (ps_while PassesOwn.never (pt_cmpR op_ge (pe_callB call_len_seq (by rfl) (He.free_ok KX G (c.1.fact 35)) (by decide +kernel) (pa_cons (pv 4) pa_nil)) (pe_callB call_len_seq (by rfl) (He.free_ok KX G (c.1.fact 35)) (by decide +kernel) (pa_cons (pv 2) pa_nil)) (nomark _)) (pss_cons (ps_set (i := 5) sc_rest_of.nd rfl (by first | exact Or.inl rfl | exact Or.inr rfl) (pe_op op_mod (pe_op op_mul (pe_ix ix_list (pv 4) (pe_un un_neg pe_int) (fun _ _ => rfl)) (pv 3)) (pv 0))) (pss_cons (ps_set (i := 6) sc_rest_of.nd rfl (by first | exact Or.inl rfl | exact Or.inr rfl) (pe_op op_sub (pe_callB call_len_seq (by rfl) (He.free_ok KX G (c.1.fact 35)) (by decide +kernel) (pa_cons (pv 4) pa_nil)) (pe_callB call_len_seq (by rfl) (He.free_ok KX G (c.1.fact 35)) (by decide +kernel) (pa_cons (pv 2) pa_nil)))) (pss_cons (ps_for PassesOwn.never rfl (pi_enum (by rfl) (He.free_ok KX G (c.1.fact 39)) (pa_cons (pv 2) pa_nil)) (pg_tup rfl (pgs_cons (pg_name (i := 7) sc_rest_of.nd rfl (by first | exact Or.inl rfl | exact Or.inr rfl)) (pgs_cons (pg_name (i := 8) sc_rest_of.nd rfl (by first | exact Or.inl rfl | exact Or.inr rfl)) pgs_nil))) (pss_one (ps_asg (pe_op op_mod (pe_op op_sub (pe_ix ix_list (pv 4) (pe_op op_add (pv 6) (pv 7)) (fun _ _ => rfl)) (pe_op op_mul (pv 5) (pv 8))) (pv 0)) (pg_sub (pv 4) (pe_op op_add (pv 6) (pv 7)) set_list)))) (pss_one (ps_set (i := 4) sc_rest_of.nd rfl (by first | exact Or.inl rfl | exact Or.inr rfl) (pe_call g_without_noughts (hr.mono (by decide)) rfl (He.glo_ok KX G (c.1.fact 5)) F_without_noughts.kp (b_without_noughts F_without_noughts) .nil pass0 (pa_cons (pv 4) pa_nil)))))))) (pss_one (ps_ret (pv 4))))))
theorem ok_product_of (KX : K.In h) (G : h.Ns mainGlobals mg) (c : SaysM fa fn ex K) : ∃ fd, FunD K "product_of" "product_of" (defArgs s_product_of) (defBody s_product_of) (defScope s_product_of) [] [] (d_product_of.at_ K) fd ∧ FnOk P w K mg base CX0 2 (d_product_of.at_ K) fd ["prime", "one", "other"] (sp_product_of K) := by
  obtain ⟨fd_without_noughts, F_without_noughts, g_without_noughts⟩ := ok_without_noughts (P := P) (w := w) (base := base) KX G c
  obtain ⟨fd, F⟩ := c.1.def_ 6 (d := d_product_of) rfl
  refine ⟨fd, F, F.ok sc_product_of len_product_of (fun cdv A outer s H vs Q E hr h => ⟨t_product_of K, PSs.nox ?_, pure_product_of vs H Q E h⟩)⟩
  exact (pss_cons (ps_set (i := 3) sc_product_of.nd rfl (by first | exact Or.inl rfl | exact Or.inr rfl) (pe_op op_rep (pe_lst (pa_cons pe_int pa_nil)) (pe_op op_sub (pe_op op_add (pe_callB call_len_seq (by rfl) (He.free_ok KX G (c.1.fact 35)) (by decide +kernel) (pa_cons (pv 1) pa_nil)) (pe_callB call_len_seq (by rfl) (He.free_ok KX G (c.1.fact 35)) (by decide +kernel) (pa_cons (pv 2) pa_nil))) pe_int))) (pss_cons (ps_for PassesOwn.never rfl (pi_enum (by rfl) (He.free_ok KX G (c.1.fact 39)) (pa_cons (pv 1) pa_nil)) (pg_tup rfl (pgs_cons (pg_name (i := 4) sc_product_of.nd rfl (by first | exact Or.inl rfl | exact Or.inr rfl)) (pgs_cons (pg_name (i := 5) sc_product_of.nd rfl (by first | exact Or.inl rfl | exact Or.inr rfl)) pgs_nil))) (pss_one (ps_for PassesOwn.never rfl (pi_enum (by rfl) (He.free_ok KX G (c.1.fact 39)) (pa_cons (pv 2) pa_nil)) (pg_tup rfl (pgs_cons (pg_name (i := 6) sc_product_of.nd rfl (by first | exact Or.inl rfl | exact Or.inr rfl)) (pgs_cons (pg_name (i := 7) sc_product_of.nd rfl (by first | exact Or.inl rfl | exact Or.inr rfl)) pgs_nil))) (pss_one (ps_asg (pe_op op_mod (pe_op op_add (pe_ix ix_list (pv 3) (pe_op op_add (pv 4) (pv 6)) (fun _ _ => rfl)) (pe_op op_mul (pv 5) (pv 7))) (pv 0)) (pg_sub (pv 3) (pe_op op_add (pv 4) (pv 6)) set_list)))))) (pss_one (ps_ret (pe_call g_without_noughts (hr.mono (by decide)) rfl (He.glo_ok KX G (c.1.fact 5)) F_without_noughts.kp (b_without_noughts F_without_noughts) .nil pass0 (pa_cons (pv 3) pa_nil))))))
theorem ok_power_rest (KX : K.In h) (G : h.Ns mainGlobals mg) (c : SaysM fa fn ex K) : ∃ fd, FunD K "power_rest" "power_rest" (defArgs s_power_rest) (defBody s_power_rest) (defScope s_power_rest) [] [] (d_power_rest.at_ K) fd ∧ FnOk P w K mg base CX0 3 (d_power_rest.at_ K) fd ["prime", "one", "many", "modulus"] (sp_power_rest K) := by
  obtain ⟨fd_rest_of, F_rest_of, g_rest_of⟩ := ok_rest_of (P := P) (w := w) (base := base) KX G c
  obtain ⟨fd_product_of, F_product_of, g_product_of⟩ := ok_product_of (P := P) (w := w) (base := base) KX G c
  obtain ⟨fd, F⟩ := c.1.def_ 10 (d := d_power_rest) rfl
  refine ⟨fd, F, F.ok sc_power_rest len_power_rest (fun cdv A outer s H vs Q E hr h => ⟨t_power_rest K, PSs.nox ?_, pure_power_rest vs H Q E h⟩)⟩
  exact (pss_cons (ps_set (i := 4) sc_power_rest.nd rfl (by first | exact Or.inl rfl | exact Or.inr rfl) (pe_call g_rest_of (hr.mono (by decide)) rfl (He.glo_ok KX G (c.1.fact 8)) F_rest_of.kp (b_rest_of F_rest_of) .nil pass0 (pa_cons (pv 0) (pa_cons (pe_lst (pa_cons pe_int pa_nil)) (pa_cons (pv 3) pa_nil))))) (pss_cons (ps_for PassesOwn.never rfl (pi_range1 (by rfl) (He.free_ok KX G (c.1.fact 38)) (pa_cons (pv 2) pa_nil)) (pg_name (i := 5) sc_power_rest.nd rfl (by first | exact Or.inl rfl | exact Or.inr rfl)) (pss_one (ps_set (i := 4) sc_power_rest.nd rfl (by first | exact Or.inl rfl | exact Or.inr rfl) (pe_call g_rest_of (hr.mono (by decide)) rfl (He.glo_ok KX G (c.1.fact 8)) F_rest_of.kp (b_rest_of F_rest_of) .nil pass0 (pa_cons (pv 0) (pa_cons (pe_call g_product_of (hr.mono (by decide)) rfl (He.glo_ok KX G (c.1.fact 6)) F_product_of.kp (b_product_of F_product_of) .nil pass0 (pa_cons (pv 0) (pa_cons (pv 4) (pa_cons (pv 1) pa_nil)))) (pa_cons (pv 3) pa_nil))))))) (pss_one (ps_ret (pv 4)))))
theorem ok_common_of (KX : K.In h) (G : h.Ns mainGlobals mg) (c : SaysM fa fn ex K) : ∃ fd, FunD K "common_of" "common_of" (defArgs s_common_of) (defBody s_common_of) (defScope s_common_of) [] [] (d_common_of.at_ K) fd ∧ FnOk P w K mg base CX0 3 (d_common_of.at_ K) fd ["prime", "one", "other"] (sp_common_of K) := by
  obtain ⟨fd_rest_of, F_rest_of, g_rest_of⟩ := ok_rest_of (P := P) (w := w) (base := base) KX G c
  obtain ⟨fd, F⟩ := c.1.def_ 9 (d := d_common_of) rfl
  refine ⟨fd, F, F.ok sc_common_of len_common_of (fun cdv A outer s H vs Q E hr h => ⟨t_common_of K, PSs.nox ?_, pure_common_of vs H Q E h⟩)⟩
  exact (pss_cons (ps_while PassesOwn.never (pt_cmpR (op_neD hr.units) (pv 2) (pe_lst pa_nil) (nomark _)) (pss_one (ps_par (i := 1) (j := 2) (by rfl) sc_common_of.nd rfl rfl (by decide) rfl rfl (pa_cons (pv 2) (pa_cons (pe_call g_rest_of (hr.mono (by decide)) rfl (He.glo_ok KX G (c.1.fact 8)) F_rest_of.kp (b_rest_of F_rest_of) .nil pass0 (pa_cons (pv 0) (pa_cons (pv 1) (pa_cons (pv 2) pa_nil)))) pa_nil)) (by rfl)))) (pss_one (ps_ret (pv 1))))
theorem ok_less_x (KX : K.In h) (G : h.Ns mainGlobals mg) (c : SaysM fa fn ex K) : ∃ fd, FunD K "less_x" "less_x" (defArgs s_less_x) (defBody s_less_x) (defScope s_less_x) [] [] (d_less_x.at_ K) fd ∧ FnOk P w K mg base CX0 2 (d_less_x.at_ K) fd ["prime", "one"] (sp_less_x K) := by
  obtain ⟨fd_without_noughts, F_without_noughts, g_without_noughts⟩ := ok_without_noughts (P := P) (w := w) (base := base) KX G c
  obtain ⟨fd, F⟩ := c.1.def_ 11 (d := d_less_x) rfl
  refine ⟨fd, F, F.ok sc_less_x len_less_x (fun cdv A outer s H vs Q E hr h => ⟨t_less_x K, PSs.nox ?_, pure_less_x vs H Q E h⟩)⟩
  exact (pss_cons (ps_set (i := 2) sc_less_x.nd rfl (by first | exact Or.inl rfl | exact Or.inr rfl) (pe_op op_cat (pv 1) (pe_op op_rep (pe_lst (pa_cons pe_int pa_nil)) (pe_op op_sub pe_int (pe_callB call_len_seq (by rfl) (He.free_ok KX G (c.1.fact 35)) (by decide +kernel) (pa_cons (pv 1) pa_nil)))))) (pss_cons (ps_asg (pe_op op_mod (pe_op op_sub (pe_ix ix_list (pv 2) pe_int (fun _ _ => rfl)) pe_int) (pv 0)) (pg_sub (pv 2) pe_int set_list)) (pss_one (ps_ret (pe_call g_without_noughts (hr.mono (by decide)) rfl (He.glo_ok KX G (c.1.fact 5)) F_without_noughts.kp (b_without_noughts F_without_noughts) .nil pass0 (pa_cons (pv 2) pa_nil))))))
theorem ok_cannot_be_parted (KX : K.In h) (G : h.Ns mainGlobals mg) (c : SaysM fa fn ex K) : ∃ fd, FunD K "cannot_be_parted" "cannot_be_parted" (defArgs s_cannot_be_parted) (defBody s_cannot_be_parted) (defScope s_cannot_be_parted) [] [] (d_cannot_be_parted.at_ K) fd ∧ FnOk P w K mg base CX0 4 (d_cannot_be_parted.at_ K) fd ["prime", "modulus"] (sp_cannot_be_parted K) := by
  obtain ⟨fd_power_rest, F_power_rest, g_power_rest⟩ := ok_power_rest (P := P) (w := w) (base := base) KX G c
  obtain ⟨fd_common_of, F_common_of, g_common_of⟩ := ok_common_of (P := P) (w := w) (base := base) KX G c
  obtain ⟨fd_less_x, F_less_x, g_less_x⟩ := ok_less_x (P := P) (w := w) (base := base) KX G c
  obtain ⟨fd, F⟩ := c.1.def_ 12 (d := d_cannot_be_parted) rfl
  refine ⟨fd, F, F.ok sc_cannot_be_parted len_cannot_be_parted (fun cdv A outer s H vs Q E hr h => ⟨t_cannot_be_parted K, PSs.nox ?_, pure_cannot_be_parted vs H Q E h⟩)⟩
  exact (pss_cons (ps_set (i := 2) sc_cannot_be_parted.nd rfl (by first | exact Or.inl rfl | exact Or.inr rfl) (pe_lst (pa_cons pe_int (pa_cons pe_int pa_nil)))) (pss_cons (ps_for PassesOwn.never rfl (pi_range1 (by rfl) (He.free_ok KX G (c.1.fact 38)) (pa_cons (pe_op op_fdiv (pe_op op_sub (pe_callB call_len_seq (by rfl) (He.free_ok KX G (c.1.fact 35)) (by decide +kernel) (pa_cons (pv 1) pa_nil)) pe_int) pe_int) pa_nil)) (pg_name (i := 3) sc_cannot_be_parted.nd rfl (by first | exact Or.inl rfl | exact Or.inr rfl)) (pss_cons (ps_set (i := 2) sc_cannot_be_parted.nd rfl (by first | exact Or.inl rfl | exact Or.inr rfl) (pe_call g_power_rest (hr.mono (by decide)) rfl (He.glo_ok KX G (c.1.fact 10)) F_power_rest.kp (b_power_rest F_power_rest) .nil pass0 (pa_cons (pv 0) (pa_cons (pv 2) (pa_cons (pv 0) (pa_cons (pv 1) pa_nil)))))) (pss_one (ps_if (pt_cmpR op_gt (pe_callB call_len_seq (by rfl) (He.free_ok KX G (c.1.fact 35)) (by decide +kernel) (pa_cons (pe_call g_common_of (hr.mono (by decide)) rfl (He.glo_ok KX G (c.1.fact 9)) F_common_of.kp (b_common_of F_common_of) .nil pass0 (pa_cons (pv 0) (pa_cons (pv 1) (pa_cons (pe_call g_less_x (hr.mono (by decide)) rfl (He.glo_ok KX G (c.1.fact 11)) F_less_x.kp (b_less_x F_less_x) .nil pass0 (pa_cons (pv 0) (pa_cons (pv 2) pa_nil))) pa_nil)))) pa_nil)) pe_int (nomark _)) (pss_one (ps_ret pe_bl)) pss_nil)))) (pss_one (ps_ret pe_bl))))
theorem ok_is_modulus (KX : K.In h) (G : h.Ns mainGlobals mg) (c : SaysM fa fn ex K) : ∃ fd, FunD K "is_modulus" "is_modulus" (defArgs s_is_modulus) (defBody s_is_modulus) (defScope s_is_modulus) [] [] (d_is_modulus.at_ K) fd ∧ FnOk P w K mg base CX0 5 (d_is_modulus.at_ K) fd ["prime", "value"] (sp_is_modulus K) := by
  obtain ⟨fd_check_prime, F_check_prime, g_check_prime⟩ := ok_check_prime (P := P) (w := w) (base := base) KX G c
  obtain ⟨fd_is_list, F_is_list, g_is_list⟩ := ok_is_list (P := P) (w := w) (base := base) KX G c
  obtain ⟨fd_are_below, F_are_below, g_are_below⟩ := ok_are_below (P := P) (w := w) (base := base) KX G c
  obtain ⟨fd_cannot_be_parted, F_cannot_be_parted, g_cannot_be_parted⟩ := ok_cannot_be_parted (P := P) (w := w) (base := base) KX G c
  obtain ⟨fd, F⟩ := c.1.def_ 14 (d := d_is_modulus) rfl
  refine ⟨fd, F, F.ok sc_is_modulus len_is_modulus (fun cdv A outer s H vs Q E hr h => ⟨t_is_modulus K, PSs.nox ?_, pure_is_modulus vs H Q E h⟩)⟩
  exact (pss_cons (ps_expr (pe_call g_check_prime (hr.mono (by decide)) rfl (He.glo_ok KX G (c.1.fact 13)) F_check_prime.kp (b_check_prime F_check_prime) .nil pass0 (pa_cons (pv 0) pa_nil))) (pss_cons (ps_if (PW.pt (pw_or (pt_not (pt_val (pe_call g_is_list (hr.mono (by decide)) rfl (He.glo_ok KX G (c.1.fact 3)) F_is_list.kp (b_is_list F_is_list) .nil pass0 (pa_cons (pv 1) pa_nil)))) (pw_or1 (pt_not (pt_chain op_le op_le pe_int (pe_callB call_len_seq (by rfl) (He.free_ok KX G (c.1.fact 35)) (by decide +kernel) (pa_cons (pv 1) pa_nil)) (pe_gint (He.int_ok KX G (c.1.fact 29)))))))) (pss_one (ps_ret pe_bl)) pss_nil) (pss_one (ps_ret (pe_and (pe_call g_are_below (hr.mono (by decide)) rfl (He.glo_ok KX G (c.1.fact 4)) F_are_below.kp (b_are_below F_are_below) .nil pass0 (pa_cons (pv 1) (pa_cons (pv 0) pa_nil))) (pe_and (pe_cmpR op_eq (pe_ix ix_any (pv 1) (pe_un un_neg pe_int) (fun _ _ => rfl)) pe_int (nomark _)) (pe_one (pe_call g_cannot_be_parted (hr.mono (by decide)) rfl (He.glo_ok KX G (c.1.fact 12)) F_cannot_be_parted.kp (b_cannot_be_parted F_cannot_be_parted) .nil pass0 (pa_cons (pv 0) (pa_cons (pe_callTy call_list_of (by rfl) (He.free_ok KX G (c.1.fact 33)) (by decide +kernel) (pa_cons (pv 1) pa_nil)) pa_nil))))))))))
theorem ok_law_times (KX : K.In h) (G : h.Ns mainGlobals mg) (c : SaysM fa fn ex K) : ∃ fd, FunD K "_law_times" "_law_times" (defArgs s_law_times) (defBody s_law_times) (defScope s_law_times) [] [] (d_law_times.at_ K) fd ∧ FnOk P w K mg base CX0 1 (d_law_times.at_ K) fd ["_law_prime", "_law_one", "_law_other"] (sp_law_times K) := by
  obtain ⟨fd, F⟩ := c.1.def_ 22 (d := d_law_times) rfl
  refine ⟨fd, F, F.ok sc_law_times len_law_times (fun cdv A outer s H vs Q E hr h => ⟨t_law_times K, PSs.nox ?_, pure_law_times vs H Q E h⟩)⟩
  exact (pss_cons (ps_set (i := 3) sc_law_times.nd rfl (by first | exact Or.inl rfl | exact Or.inr rfl) (pe_op op_rep (pe_lst (pa_cons pe_int pa_nil)) (pe_op op_sub (pe_op op_add (pe_callB call_len_seq (by rfl) (He.free_ok KX G (c.1.fact 35)) (by decide +kernel) (pa_cons (pv 1) pa_nil)) (pe_callB call_len_seq (by rfl) (He.free_ok KX G (c.1.fact 35)) (by decide +kernel) (pa_cons (pv 2) pa_nil))) pe_int))) (pss_cons (ps_for PassesOwn.never rfl (pi_enumA (by rfl) (He.free_ok KX G (c.1.fact 39)) (pa_cons (pv 1) pa_nil)) (pg_tup rfl (pgs_cons (pg_name (i := 4) sc_law_times.nd rfl (by first | exact Or.inl rfl | exact Or.inr rfl)) (pgs_cons (pg_name (i := 5) sc_law_times.nd rfl (by first | exact Or.inl rfl | exact Or.inr rfl)) pgs_nil))) (pss_one (ps_for PassesOwn.never rfl (pi_enumA (by rfl) (He.free_ok KX G (c.1.fact 39)) (pa_cons (pv 2) pa_nil)) (pg_tup rfl (pgs_cons (pg_name (i := 6) sc_law_times.nd rfl (by first | exact Or.inl rfl | exact Or.inr rfl)) (pgs_cons (pg_name (i := 7) sc_law_times.nd rfl (by first | exact Or.inl rfl | exact Or.inr rfl)) pgs_nil))) (pss_cons (ps_set (i := 8) sc_law_times.nd rfl (by first | exact Or.inl rfl | exact Or.inr rfl) (pe_op op_add (pe_ix ix_any (pv 3) (pe_op op_add (pv 4) (pv 6)) (fun _ _ => rfl)) (pe_op op_mul (pv 5) (pv 7)))) (pss_one (ps_asg (pe_op op_sub (pv 8) (pe_op op_mul (pe_op op_fdiv (pv 8) (pv 0)) (pv 0))) (pg_sub (pv 3) (pe_op op_add (pv 4) (pv 6)) set_list))))))) (pss_one (ps_ret (pv 3)))))
theorem kb_is_modulus_0_value_prime {f : Addr} {fd : FuncData} (F : FunD K "is_modulus" "is_modulus" (defArgs s_is_modulus) (defBody s_is_modulus) (defScope s_is_modulus) [] [] f fd) : KBn K fd ["prime", "value"] 0 ["value", "prime"] (permV [1, 0]) (permV [1, 0]) := kbN F 0 ["value", "prime"] [1, 0] fun _ _ _ _ _ _ us ws h1 h2 => match us, ws, h1, h2 with | [], [_, _], _, _ => rfl
theorem ok_law_right (KX : K.In h) (G : h.Ns mainGlobals mg) (c : SaysM fa fn ex K) : ∃ fd, FunD K "_law_right" "_law_right" (defArgs s_law_right) (defBody s_law_right) (defScope s_law_right) [] [] (d_law_right.at_ K) fd ∧ FnG P w K mg base 6 (d_law_right.at_ K) fd ["_law_pot_here"] (sp_law_right K) := by
  obtain ⟨fd_law_field, F_law_field, g_law_field⟩ := ok_law_field (P := P) (w := w) (base := base) KX G c
  obtain ⟨fd_law_drawn, F_law_drawn, g_law_drawn⟩ := ok_law_drawn (P := P) (w := w) (base := base) KX G c
  obtain ⟨fd_law_draw, F_law_draw, g_law_draw⟩ := ok_law_draw (P := P) (w := w) (base := base) KX G c
  obtain ⟨fd_law_is_modulus, F_law_is_modulus, g_law_is_modulus⟩ := ok_law_is_modulus (P := P) (w := w) (base := base) KX G c
  obtain ⟨fd_is_modulus, F_is_modulus, g_is_modulus⟩ := ok_is_modulus (P := P) (w := w) (base := base) KX G c
  obtain ⟨fd_law_times, F_law_times, g_law_times⟩ := ok_law_times (P := P) (w := w) (base := base) KX G c
  obtain ⟨fd, F⟩ := c.1.def_ 24 (d := d_law_right) rfl
  refine ⟨fd, F, okG F sc_law_right len_law_right (fun cdv A outer s H vs Q E gd hr h => ⟨t_law_right K, PSs.nox ?_, pure_law_right (ip_ c) vs H Q E h⟩)⟩
  exact (pss_cons (ps_asg (pe_call g_law_field (hr.mono (by decide)) rfl (He.glo_ok KX G (c.1.fact 18)) F_law_field.kp (b_law_field F_law_field) .nil pass0 (pa_cons (pv 0) pa_nil)) (pg_tup rfl (pgs_cons (pg_name (i := 1) sc_law_right.nd rfl (by first | exact Or.inl rfl | exact Or.inr rfl)) (pgs_cons (pg_name (i := 2) sc_law_right.nd rfl (by first | exact Or.inl rfl | exact Or.inr rfl)) pgs_nil)))) (pss_cons (ps_set (i := 3) sc_law_right.nd rfl (by first | exact Or.inl rfl | exact Or.inr rfl) (pe_ix ix_any (pe_lst (pa_cons pe_int (pa_cons pe_int (pa_cons pe_int (pa_cons pe_int (pa_cons pe_int (pa_cons pe_int (pa_cons pe_int (pa_cons pe_int pa_nil))))))))) (pv 1) (fun _ _ => rfl))) (pss_cons (ps_par (i := 4) (j := 5) (by rfl) sc_law_right.nd rfl rfl (by decide) rfl rfl (pa_cons (pe_call g_law_drawn (hr.mono (by decide)) rfl (He.glo_ok KX G (c.1.fact 23)) F_law_drawn.kp (b_law_drawn F_law_drawn) .nil pass0 (pa_cons (pv 0) (pa_cons (pv 1) (pa_cons (pv 3) pa_nil)))) (pa_cons (pe_call g_law_drawn (hr.mono (by decide)) rfl (He.glo_ok KX G (c.1.fact 23)) F_law_drawn.kp (b_law_drawn F_law_drawn) .nil pass0 (pa_cons (pv 0) (pa_cons (pv 1) (pa_cons (pe_callB (call_min2 rfl) (by rfl) (He.free_ok KX G (c.1.fact 41)) (by decide +kernel) (pa_cons (pv 3) (pa_cons pe_int pa_nil))) pa_nil)))) pa_nil)) (by rfl)) (pss_cons (ps_set (i := 6) sc_law_right.nd rfl (by first | exact Or.inl rfl | exact Or.inr rfl) (pe_call g_law_draw (hr.mono (by decide)) rfl (He.glo_ok KX G (c.1.fact 16)) F_law_draw.kp (b_law_draw F_law_draw) .nil pass0 (pa_cons (pv 0) (pa_cons (pe_callB call_len_seq (by rfl) (He.free_ok KX G (c.1.fact 35)) (by decide +kernel) (pa_cons (pv 2) pa_nil)) pa_nil)))) (pss_cons (ps_set (i := 7) sc_law_right.nd rfl (by first | exact Or.inl rfl | exact Or.inr rfl) (pe_op op_cat (pe_op op_cat (pe_slice sl_list (pv 2) po_none (po_some (pv 6))) (pe_lst (pa_cons (pe_op op_add (pe_ix ix_any (pv 2) (pv 6) (fun _ _ => rfl)) pe_int) pa_nil))) (pe_slice sl_list (pv 2) (po_some (pe_op op_add (pv 6) pe_int)) po_none))) (pss_cons (ps_set (i := 8) sc_law_right.nd rfl (by first | exact Or.inl rfl | exact Or.inr rfl) (pe_lst (pa_cons (pv 2) (pa_cons (pe_callTy call_tuple_of (by rfl) (He.free_ok KX G (c.1.fact 34)) (by decide +kernel) (pa_cons (pv 2) pa_nil)) (pa_cons (pe_op op_cat (pe_slice sl_list (pv 2) po_none (po_some (pe_un un_neg pe_int))) (pe_lst (pa_cons pe_bl pa_nil))) (pa_cons (pv 7) (pa_cons (pe_revL (pv 2)) (pa_cons (pe_op op_cat (pv 2) (pe_lst (pa_cons pe_int pa_nil))) (pa_cons (pe_slice sl_list (pv 2) po_none (po_some (pe_un un_neg pe_int))) pa_nil))))))))) (pss_cons (ps_expr (pe_bm PySem.F.plainAttrs_list PySem.F.slot_list_extend PySem.F.type_list_extend mt_extend (pv 8) (pa_cons (pe_lst (pa_cons (pv 4) (pa_cons (pv 5) pa_nil))) pa_nil))) (pss_cons (ps_set (i := 8) sc_law_right.nd rfl (by first | exact Or.inl rfl | exact Or.inr rfl) (pe_op op_cat (pv 8) (pe_lst (pa_cons (pe_op op_cat (pe_lst (pa_cons (pv 1) pa_nil)) (pe_slice sl_list (pv 2) (po_some pe_int) po_none)) (pa_cons (pe_op op_cat (pe_lst (pa_cons (pe_un un_neg pe_int) pa_nil)) (pe_slice sl_list (pv 2) (po_some pe_int) po_none)) (pa_cons (pe_op op_cat (pe_lst (pa_cons pe_non pa_nil)) (pe_slice sl_list (pv 2) (po_some pe_int) po_none)) (pa_cons (pe_op op_cat (pe_lst (pa_cons (pe_lst (pa_cons pe_int pa_nil)) pa_nil)) (pe_slice sl_list (pv 2) (po_some pe_int) po_none)) pa_nil))))))) (pss_cons (ps_set (i := 8) sc_law_right.nd rfl (by first | exact Or.inl rfl | exact Or.inr rfl) (pe_op op_cat (pv 8) (pe_lst (pa_cons (pe_lst (pa_cons pe_int (pa_cons pe_int pa_nil))) (pa_cons (pe_lst (pa_cons pe_int (pa_cons pe_int pa_nil))) (pa_cons (pe_lst (pa_cons pe_int pa_nil)) pa_nil)))))) (pss_cons (ps_set (i := 8) sc_law_right.nd rfl (by first | exact Or.inl rfl | exact Or.inr rfl) (pe_op op_cat (pv 8) (pe_lst (pa_cons pe_non (pa_cons pe_bl (pa_cons pe_int (pa_cons pe_str (pa_cons pe_str (pa_cons (pe_lst pa_nil) (pa_cons (pe_tup pa_nil) (pa_cons pe_dnewK (pa_cons pe_int (pa_cons (pe_lst (pa_cons pe_int (pa_cons pe_int (pa_cons pe_int (pa_cons pe_int pa_nil))))) (pa_cons (pe_lst (pa_cons pe_bl (pa_cons pe_int (pa_cons pe_int pa_nil)))) pa_nil)))))))))))))) (pss_cons (ps_set (i := 9) sc_law_right.nd rfl (by first | exact Or.inl rfl | exact Or.inr rfl) (pe_callB (call_reprX gd hr) (by rfl) (He.free_ok KX G (c.1.fact 45)) (by decide +kernel) (pa_cons (pv 8) pa_nil))) (pss_cons (ps_for PassesOwn.never rfl (pi_seq (pv 8)) (pg_name (i := 10) sc_law_right.nd rfl (by first | exact Or.inl rfl | exact Or.inr rfl)) (pss_cons (ps_set (i := 11) sc_law_right.nd rfl (by first | exact Or.inl rfl | exact Or.inr rfl) (pe_call g_law_is_modulus (hr.mono (by decide)) rfl (He.glo_ok KX G (c.1.fact 21)) F_law_is_modulus.kp (b_law_is_modulus F_law_is_modulus) .nil pass0 (pa_cons (pv 1) (pa_cons (pv 10) pa_nil)))) (pss_one (ps_if (pt_cmpR (op_neA hr.units) (pe_callB (call_reprX gd hr) (by rfl) (He.free_ok KX G (c.1.fact 45)) (by decide +kernel) (pa_cons (pe_lst (pa_cons (pe_call g_is_modulus (hr.mono (by decide)) rfl (He.glo_ok KX G (c.1.fact 14)) F_is_modulus.kp (b_is_modulus F_is_modulus) .nil pass0 (pa_cons (pv 1) (pa_cons (pv 10) pa_nil))) (pa_cons (pe_callN0 (ks := ["value", "prime"]) g_is_modulus (hr.mono (by decide)) (by rfl) (He.glo_ok KX G (c.1.fact 14)) F_is_modulus.kp (kb_is_modulus_0_value_prime F_is_modulus) pass0 (pk_cons (pv 10) (pk_cons (pv 1) pk_nil))) pa_nil))) pa_nil)) (pe_callB (call_reprX gd hr) (by rfl) (He.free_ok KX G (c.1.fact 45)) (by decide +kernel) (pa_cons (pe_op op_rep (pe_lst (pa_cons (pv 11) pa_nil)) pe_int) pa_nil)) (nomark _)) (pss_one (ps_ret pe_bl)) pss_nil)))) (pss_cons (ps_for PassesOwn.never rfl (pi_seq (pe_lst (pa_cons (pe_tup (pa_cons (pv 4) (pa_cons (pv 5) pa_nil))) (pa_cons (pe_tup (pa_cons (pv 2) (pa_cons (pe_slice sl_list (pv 4) (po_some (pe_un un_neg pe_int)) po_none) pa_nil))) (pa_cons (pe_tup (pa_cons (pv 5) (pa_cons (pv 5) pa_nil))) pa_nil))))) (pg_tup rfl (pgs_cons (pg_name (i := 12) sc_law_right.nd rfl (by first | exact Or.inl rfl | exact Or.inr rfl)) (pgs_cons (pg_name (i := 13) sc_law_right.nd rfl (by first | exact Or.inl rfl | exact Or.inr rfl)) pgs_nil))) (pss_one (ps_if (pt_cmpR op_notBl (pe_call g_is_modulus (hr.mono (by decide)) rfl (He.glo_ok KX G (c.1.fact 14)) F_is_modulus.kp (b_is_modulus F_is_modulus) .nil pass0 (pa_cons (pv 1) (pa_cons (pe_call g_law_times (hr.mono (by decide)) rfl (He.glo_ok KX G (c.1.fact 22)) F_law_times.kp (b_law_times F_law_times) .nil pass0 (pa_cons (pv 1) (pa_cons (pv 12) (pa_cons (pv 13) pa_nil)))) pa_nil))) pe_bl (nomark _)) (pss_one (ps_ret pe_bl)) pss_nil))) (pss_one (ps_ret (pe_and (pe_cmpR op_isBl (pe_call g_is_modulus (hr.mono (by decide)) rfl (He.glo_ok KX G (c.1.fact 14)) F_is_modulus.kp (b_is_modulus F_is_modulus) .nil pass0 (pa_cons (pv 1) (pa_cons (pe_op op_cat (pe_op op_rep (pe_lst (pa_cons pe_int pa_nil)) pe_int) (pe_lst (pa_cons pe_int pa_nil))) pa_nil))) pe_bl (nomark _)) (pe_and (pe_cmpR op_isBl (pe_call g_is_modulus (hr.mono (by decide)) rfl (He.glo_ok KX G (c.1.fact 14)) F_is_modulus.kp (b_is_modulus F_is_modulus) .nil pass0 (pa_cons (pv 1) (pa_cons (pv 2) pa_nil))) pe_bl (nomark _)) (pe_one (pe_cmpR (op_eqA hr.units) (pe_callB (call_reprX gd hr) (by rfl) (He.free_ok KX G (c.1.fact 45)) (by decide +kernel) (pa_cons (pv 8) pa_nil)) (pv 9) (nomark _))))))))))))))))))))
theorem ok_law_pot (KX : K.In h) (G : h.Ns mainGlobals mg) (c : SaysM fa fn ex K) : ∃ fd, FunD K "_law_pot" "_law_pot" (defArgs s_law_pot) (defBody s_law_pot) (defScope s_law_pot) [] [] (d_law_pot.at_ K) fd ∧ FnOk P w K mg base CX0 1 (d_law_pot.at_ K) fd ["_law_script", "_law_k"] (sp_law_pot K) := by
  obtain ⟨fd, F⟩ := c.1.def_ 15 (d := d_law_pot) rfl
  refine ⟨fd, F, F.ok sc_law_pot len_law_pot (fun cdv A outer s H vs Q E hr h => ⟨t_law_pot K, PSs.nox ?_, pure_law_pot vs H Q E h⟩)⟩
  exact (pss_cons (ps_set (i := 2) sc_law_pot.nd rfl (by first | exact Or.inl rfl | exact Or.inr rfl) (pe_ifExp (pt_cmpR op_lt (pv 1) (pe_callB call_len_seq (by rfl) (He.free_ok KX G (c.1.fact 35)) (by decide +kernel) (pa_cons (pv 0) pa_nil)) (nomark _)) (pe_callB call_abs (by rfl) (He.free_ok KX G (c.1.fact 42)) (by decide +kernel) (pa_cons (pe_ix ix_list (pv 0) (pv 1) (fun _ _ => rfl)) pa_nil)) (pe_op op_add (pe_op op_add (pe_op op_mul pe_int (pv 1)) pe_int) (pe_op op_mod (pe_callB call_abs (by rfl) (He.free_ok KX G (c.1.fact 42)) (by decide +kernel) (pa_cons (pe_callB (cr_sum rfl) (by rfl) (He.free_ok KX G (c.1.fact 43)) (by decide +kernel) (pa_cons (pe_slice sl_list (pv 0) po_none (po_some pe_int)) pa_nil)) pa_nil)) pe_int)))) (pss_one (ps_ret (pe_lst (pa_cons (pe_callB (call_max2 rfl) (by rfl) (He.free_ok KX G (c.1.fact 40)) (by decide +kernel) (pa_cons pe_int (pa_cons (pe_op op_sub (pv 2) (pe_op op_pow pe_int pe_int)) pa_nil))) (pa_cons (pe_op op_add (pe_op op_mod (pe_callTy call_int1 (by rfl) (He.free_ok KX G (c.1.fact 31)) (by decide +kernel) (pa_cons (pe_op op_add (pe_op op_add (pe_op op_mul (pe_op op_mod (pe_callTy call_int1 (by rfl) (He.free_ok KX G (c.1.fact 31)) (by decide +kernel) (pa_cons (pv 2) pa_nil)) pe_int) pe_int) (pe_op op_mul pe_int (pv 1))) pe_int) pa_nil)) pe_int) pe_int) pa_nil))))))
theorem ok_law (KX : K.In h) (G : h.Ns mainGlobals mg) (c : SaysM fa fn ex K) {fd : FuncData} (F : FunD K "law" "law" (defArgs s_law) (defBody s_law) (defScope s_law) [] [] (d_law.at_ K) fd) : FnG P w K mg base 7 (d_law.at_ K) fd ["_law_script"] (sp_law K) := by
  obtain ⟨fd_law_right, F_law_right, g_law_right⟩ := ok_law_right (P := P) (w := w) (base := base) KX G c
  obtain ⟨fd_law_pot, F_law_pot, g_law_pot⟩ := ok_law_pot (P := P) (w := w) (base := base) KX G c
  refine okG F sc_law len_law (fun cdv A outer s H vs Q E gd hr h => ⟨t_law K, PSs.nox ?_, pure_law vs H Q E h⟩)
  exact (pss_one (ps_ret (pe_callG gd g_law_right (hr.mono (by decide)) rfl (He.glo_ok KX G (c.1.fact 24)) F_law_right.kp (b_law_right F_law_right) (pa_cons (pe_call g_law_pot (hr.mono (by decide)) rfl (He.glo_ok KX G (c.1.fact 15)) F_law_pot.kp (b_law_pot F_law_pot) .nil pass0 (pa_cons (pv 0) (pa_cons pe_int pa_nil))) pa_nil))))
theorem facts (KX : K.In h) (G : h.Ns mainGlobals mg) {f : Addr} (hfa : mg ("law" : Str) = some (.ref f)) (c : SaysM fa fn ex K) :
    ∃ fd : FuncData, (∀ (s : Shared) (v : Value), BindsTo s fd ⟨[v], []⟩ [("_law_script", v)]) ∧ ∀ base : Heap, K.In base → base.Ns mainGlobals mg → FnG P w K mg base 7 f fd ["_law_script"] (sp_law K) := by
  obtain ⟨fd, F⟩ := c.1.def_ 25 (d := d_law) rfl
  have e := hfa.symm.trans (He.glo_ok KX G (c.1.fact 25))
  cases e
  have b := FunD.bindsA (ps := ["_law_script"]) F fun _ _ _ _ _ _ us hl => match us, hl with | [_], _ => rfl
  exact ⟨fd, fun s v => b s [v] rfl, fun base _ _ => ok_law KX G c F⟩
end
end TP.K12.A12
/-! Z12 -/
set_option maxHeartbeats 0
open PySem PySem.W PySem.Calls PyProof.Rows
theorem PySem.Challenge.cw_turnpowers_k12_any_value_as_modulus_holds : PySem.Challenge.rw_turnpowers_k12_any_value_as_modulus.Holds := by
  w_on; o_law
  refine HandSHeadRun.head_any (r := OpenLaw.row PySem.Challenge.rw_turnpowers_k12_any_value_as_modulus) (q := view (OpenLaw.row PySem.Challenge.rw_turnpowers_k12_any_value_as_modulus).prog [34]) (H := TP.K12.A12.hk) (ob := TP.K12.A12.ob) (M := 12000) (loose := TP.K12.A12.nms) (d := HandSHeadRun.topDef (OpenLaw.row PySem.Challenge.rw_turnpowers_k12_any_value_as_modulus).prog 34) (kwd := []) TP.K12.A12.ob_eq
    (by kernel_rfl) (fun s => by kernel_rfl) TP.K12.A12.run (by kernel_rfl) (by kernel_rfl) (by kernel_rfl) (by rfl) (by first | assumption | decide +kernel) (by decide +kernel) ⟨rfl, rfl, rfl, rfl, rfl, by decide +kernel⟩ ?hw ?hc
  case hw => w_witness2
  case hc =>
    refine TP.walkG (l := PySem.Challenge.rw_turnpowers_k12_any_value_as_modulus) (n := 63) (k := 7) (y := "_law_script") rfl (by decide) (by kernel_rfl) ⟨rfl, by decide, by decide⟩ ?F
    intro w mg fa h Y G hmg0
    obtain ⟨K, KX, c⟩ := Y
    have hmg : mg ("law" : PySem.Str) = some (.ref fa) := by
      have e : (HandSHeadRun.topDef (OpenLaw.row PySem.Challenge.rw_turnpowers_k12_any_value_as_modulus).prog 34).name = ("law" : PySem.Str) := by kernel_rfl
      rw [← e]
      exact hmg0
    obtain ⟨fd, hb, hF⟩ := TP.K12.A12.facts (P := (PySem.Challenge.rw_turnpowers_k12_any_value_as_modulus).prog) (w := w) KX G hmg c
    exact ⟨K, fd, TP.K12.sp_law K, KX, hb, fun H a ns hl hS => ⟨a, ns, rfl, hS, fun _ _ => trivial, TP.K12.law_true, fun _ => rfl⟩, hF⟩
