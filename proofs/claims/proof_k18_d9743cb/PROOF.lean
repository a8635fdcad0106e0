import PyProof.Rows.All
import Wide.All
import OpenK.AllK
import Wide.FinOn
import KE.KStateDown
import HandS.ForExc
import HandS.Comp
import HandS.Dict
import HandS.Iter
import HandS.Text
import HandS.Flow
import HandS.Evl
import HandS.IsInst
import HandS.Wide
import HandS.WideBits
import HandS.Defaults
import HandS.Property
import HandS.ExcInit
import HandS.ExcInitHot
import HandS.More
import HandS.Head0
import HandS.Head1
import HandS.Head2
import HandS.HeadEnd
import HandS.HeadHook1
import HandS.HeadHook2
import HandS.HeadNt
import HandS.Zip
import HandS.DictComp
import HandS.FStr
import HandS.Lambda
import HandS.SortInts
import HandS.TupLe
import HandS.TupAny
import HandS.Walk
import HandS.Style
import HandS.MakeKwOnly
import PyProof.ReprRoads
import KE.KDictZip
import PyProof.ListNew
import HandS.Conv
import HandS.Exc
import HandS.ExcOwn
import HandS.TryOnly
import HandS.WordsExc
import PyProof.ExcBaseAll.RuntimeError
import HandS.Steps
import PySem.Challenge.RW_turnpowers_k18_whole_fields_as_fields
set_option Elab.async false
set_option linter.all false
set_option maxRecDepth 100000
/-! TPHead -/
set_option maxHeartbeats 4000000
/-! # What stands behind the top of a text: facts by names, with an own look beside them -/
namespace TP
open PySem PySem.Spec PyProof.Rows L2
abbrev Fr := PySem.W.Frag
abbrev AlM : Type := He.AlD × Bool
def obsM (fa : List He.Fa) (fn : List He5.DefA) (ex : Fr → Bool) (K : Fr) : AlM := (He5.obsA fa fn K, ex K)
def SaysM (fa : List He.Fa) (fn : List He5.DefA) (ex : Fr → Bool) (K : Fr) : Prop := He5.SaysA fa fn K ∧ ex K = true
def obsMG (n : Nat) (fa : List He.Fa) (fn : List He5.DefA) (ex : Fr → Bool) (g : Addr → Option Obj) : AlM := obsM fa fn ex (He.frG g (He.asD g n))
def hookM (n : Nat) (fa : List He.Fa) (fn : List He5.DefA) (ex : Fr → Bool) : PySem.W.Hook where
  α := AlM
  obs := fun s => obsMG n fa fn ex s.heap.get?
  val := fun _ => (He5.valA fn, true)
  says := fun _ h => ∃ K : Fr, K.In h ∧ SaysM fa fn ex K
  of := fun _ _ e => ⟨_, He.frG_in, congrArg (fun z : AlM => z.1) e, congrArg (fun z : AlM => z.2) e⟩
  keeps := fun _ _ _ ⟨K, hK, c⟩ k => ⟨K, PySem.W.Frag.In.keeps hK k, c⟩
theorem obsMG_eq {n : Nat} {fa : List He.Fa} {fn : List He5.DefA} {ex : Fr → Bool} {g : Addr → Option Obj} {s : Shared} (h : ∀ a, g a = s.heap.get? a) : obsMG n fa fn ex g = (hookM n fa fn ex).obs s := by
  have e : g = s.heap.get? := funext h
  rw [e] <;> rfl
/-- the getter behind a property -/
def gtr (K : Fr) (C f : Str) : Addr := match PySem.W.findIn K (.ref (He.ga K C)) f with
  | some (some (.ref p)) => (match PySem.W.recIn K p "property" with
    | some (.ref g :: _) => g
    | _ => 0)
  | _ => 0
end TP
/-! TPBase -/
set_option maxHeartbeats 4000000
/-! # Readings by short names, promises of defs that only make new things, the pot of draws -/
namespace TP
open PySem PySem.Spec PyProof.Rows L2
/-! ### rules by value, named -/
abbrev rAddI : R2 := rI0 fun i j => .int (i + j)
abbrev rSubI : R2 := rI0 fun i j => .int (i - j)
abbrev rMulI : R2 := rI CMul fun i j => .int (i * j)
abbrev rModI : R2 := rI (fun _ j => 0 < j) fun i j => .int (i % j)
abbrev rFdivI : R2 := rI CDiv fun i j => .int (i / j)
abbrev rPowI : R2 := rI CPow fun i j => .int (i ^ j.toNat)
abbrev rLtI : R2 := rI0 fun i j => .bl (decide (i < j))
abbrev rLeI : R2 := rI0 fun i j => .bl (decide (i ≤ j))
abbrev rGtI : R2 := rI0 fun i j => .bl (decide (j < i))
abbrev rGeI : R2 := rI0 fun i j => .bl (decide (j ≤ i))
abbrev rAddS : R2 := fun x y H Q => ∃ i j, x = .str i ∧ y = .str j ∧ i.length + j.length ≤ sizeLine ∧ Q (.str (i ++ j)) H
abbrev rNeg : V → Hp → VK → Prop := rU fun i => .int (-i)
abbrev rLenA (K : Fr) : List V → Hp → VK → Prop := fun xs H Q => ∃ p ys, xs = [.ref p] ∧ (SqL K H p ys ∨ SqT K H p ys) ∧ Q (.int ys.length) H
abbrev rListA (K : Fr) : List V → Hp → VK → Prop := fun xs H Q => ∃ p ys, xs = [.ref p] ∧ (SqL K H p ys ∨ SqT K H p ys) ∧ ∀ l, H l = none → Q (.ref l) (upd H l (.lst ys))
abbrev rTupA (K : Fr) : List V → Hp → VK → Prop := fun xs H Q => ∃ p ys, xs = [.ref p] ∧ ((SqL K H p ys ∧ ∀ l, H l = none → Q (.ref l) (upd H l (.tup ys))) ∨ (SqT K H p ys ∧ Q (.ref p) H))
abbrev rAbs : List V → Hp → VK → Prop := fun xs H Q => ∃ i, xs = [.int i] ∧ Q (.int (if i < 0 then -i else i)) H
abbrev rMax2 : List V → Hp → VK → Prop := fun xs H Q => ∃ i j, xs = [.int i, .int j] ∧ Q (.int (if j > i then j else i)) H
abbrev rMin2 : List V → Hp → VK → Prop := fun xs H Q => ∃ i j, xs = [.int i, .int j] ∧ Q (.int (if j < i then j else i)) H
abbrev rIntOf : List V → Hp → VK → Prop := fun xs H Q => (∃ i, xs = [.int i] ∧ Q (.int i) H) ∨ ∃ k, xs = [.bl k] ∧ Q (.int (if k then 1 else 0)) H
abbrev rDivmod : List V → Hp → VK → Prop := fun xs H Q => ∃ i j, xs = [.int i, .int j] ∧ CDiv i j ∧ ∀ p, H p = none → Q (.ref p) (upd H p (.tup [.int (i / j), .int (i % j)]))
abbrev tTru (K : Fr) (ta : TE) : TT := fun σ H Q => ta σ H fun x H' => ∃ k, TruV K x H' k ∧ Q k H'
section
variable {X : Cx}
theorem pe_gint {x : Str} {i : Int} {pos : Pos} (h : ∃ t, X.mg x = some (.int i t)) (hg : Gl X x := by rfl) (hd : (x == ("__debug__" : Str)) = false := by decide) : PE X (.Name x pos) (tC (.int i)) := by
  obtain ⟨t, e⟩ := h
  exact pe_glob hg e ⟨t, rfl⟩ hd
end
/-! ### what holds of a heap goes on -/
abbrev Ex := Evl.Ex
abbrev RetV := Evl.RetV
abbrev RetL := Evl.RetL
theorem Ex.refl (H : Hp) : Ex H H := fun _ _ h => h
theorem Ex.trans {H H1 H2 : Hp} (a : Ex H H1) (b : Ex H1 H2) : Ex H H2 := fun x o h => b x o (a x o h)
theorem Ex.new {H : Hp} {p : Addr} {o : HO} (h : H p = none) : Ex H (upd H p o) := Evl.Ex.new h
theorem Ex.mut {H H' : Hp} {p : Addr} {o : HO} (e : Ex H H') (h : H p = none) : Ex H (upd H' p o) := Evl.Ex.mut e h
theorem Ex.seq {K : Fr} {H H' : Hp} {a : Addr} {xs : List V} (e : Ex H H') (h : SqL K H a xs) : SqL K H' a xs := Evl.ex_l e h
theorem Ex.tup {K : Fr} {H H' : Hp} {a : Addr} {xs : List V} (e : Ex H H') (h : SqT K H a xs) : SqT K H' a xs := Evl.ex_t e h
theorem Ex.back {H H' : Hp} {p : Addr} (e : Ex H H') (h : H' p = none) : H p = none := Evl.fresh_back e h
theorem sqL {K : Fr} {H : Hp} {a : Addr} {xs : List V} (h : H a = some (.lst xs)) : SqL K H a xs := .inl (.inl h)
theorem sqT {K : Fr} {H : Hp} {a : Addr} {xs : List V} (h : H a = some (.tup xs)) : SqT K H a xs := .inl (.inl h)
theorem genE {H H1 : Hp} {p : Addr} {o : HO} (E : upd H p o = H1) (n : H p = none) : Ex H H1 := E ▸ Ex.new n
theorem genS {H H1 : Hp} {p : Addr} {o : HO} (E : upd H p o = H1) : H1 p = some o := E ▸ upd_same
/-- a new object: what follows is shown of any heap that has it besides -/
theorem newO {H : Hp} {o : HO} {Q : VK} (h : ∀ p H1, H p = none → Ex H H1 → H1 p = some o → Q (.ref p) H1) : ∀ p, H p = none → Q (.ref p) (upd H p o) :=
  fun p hp => h p _ hp (Ex.new hp) upd_same
/-! ### either a list or a tuple -/
def SqA (K : Fr) (H : Hp) (a : Addr) (xs : List V) : Prop := SqL K H a xs ∨ SqT K H a xs
theorem Ex.any {K : Fr} {H H' : Hp} {a : Addr} {xs : List V} (e : Ex H H') (h : SqA K H a xs) : SqA K H' a xs := h.imp e.seq e.tup
abbrev rIxA (K : Fr) : R2 := fun x y H Q => rIxL K x y H Q ∨ rIxT K x y H Q
theorem ix_any {X : Cx} : IxR X (rIxA X.K) := IxR.or ix_list ix_tup
theorem ixA {K : Fr} {H : Hp} {a : Addr} {xs : List V} {i : Int} {v : V} {Q : VK} (h : SqA K H a xs) (e : atI xs i = some v) (q : Q v H) : rIxA K (.ref a) (.int i) H Q := by
  rcases h with h | h
  · exact .inl ⟨a, xs, i, v, rfl, rfl, h, e, q⟩
  · exact .inr ⟨a, xs, i, v, rfl, rfl, h, e, q⟩
def iAny (K : Fr) (tl : TE) : TI := fun σ H R => iList K tl σ H R ∨ iTup K tl σ H R
theorem pi_any {X : Cx} {tg l : PySem.Expr} {tl : TE} (h1 : PI X tg l (iList X.K tl)) (h2 : PI X tg l (iTup X.K tl)) : PI X tg l (iAny X.K tl) :=
  ⟨fun pins s σ H R I h => h.elim (h1.run pins s σ H R I) (h2.run pins s σ H R I)⟩
abbrev rSlX (K : Fr) : V → Option Int → Option Int → Hp → VK → Prop := fun x lo hi H Q => rSlL K x lo hi H Q ∨ rSlA K x lo hi H Q
theorem sl_any {X : Cx} : SlR X (rSlX X.K) := SlR.or sl_list sl_tupA
/-! ### a step of a reading -/
section
variable {σ : L2.St} {H : Hp} {Q : VK} {D : Ends} {te tf : TE} {t u : TS} {g : TG} {r : List V → Hp → VK → Prop} {r2 : R2}
theorem tCB1 (h : te σ H fun x H1 => r [x] H1 Q) : tCB r (tCons te tNil) σ H Q := h
theorem tCB2 (h : te σ H fun x H1 => tf σ H1 fun y H2 => r [x, y] H2 Q) : tCB r (tCons te (tCons tf tNil)) σ H Q := h
theorem tSeqI (h : t { D with nx := u D } σ H) : tSeq t u D σ H := h
theorem tAsgI {i : Nat} (h : te σ H fun x H1 => D.nx (σ.set i (some x)) H1) : tAsg te (gName i) D σ H := h
theorem tAsgG (h : te σ H fun x H1 => g x σ H1 D.nx) : tAsg te g D σ H := h
theorem tRetI (h : te σ H D.rt) : tRet te D σ H := h
theorem tDropI (h : te σ H fun _ H1 => D.nx σ H1) : tDrop te D σ H := h
theorem tOpI (h : te σ H fun x H1 => tf σ H1 fun y H2 => r2 x y H2 Q) : tOp r2 te tf σ H Q := h
end
/-! ### loops in short -/
section
variable {K : Fr} {D : Ends} {tb : TS} {σ : L2.St} {H : Hp} {a : Addr}
/-- for i, x in enumerate(xs): the pair is a new tuple at each turn -/
theorem forEnum {xs : List V} {j1 j2 : Nat} {ta : TA} (Pv : Nat → L2.St → Hp → Prop) (hv : ∀ Q : List V → Hp → Prop, Q [.ref a] H → ta σ H Q) (h0 : Pv 0 σ H) (hG : ∀ i σ H, i ≤ xs.length → Pv i σ H → SqL K H a xs)
    (hs : ∀ i x σ H H1, i < xs.length → xs[i]? = some x → Pv i σ H → Ex H H1 → (∀ b, H1 b = none → H b = none) → tb { D with nx := Pv (i + 1), ct := Pv (i + 1), bk := D.nx } ((σ.set j1 (some (.int (i : Nat)))).set j2 (some x)) H1) (hd : ∀ σ H, Pv xs.length σ H → D.nx σ H) :
    tFor (iEnum K ta) (gTup K 2 (gCons (gName j1) (gCons (gName j2) gNil))) tb D σ H := by
  refine hv _ ⟨a, xs, rfl, hG 0 σ H (Nat.zero_le _) h0, ?_⟩
  refine for_it walk_enum Pv h0 hG (fun i v σ H H' hi p y => ?_) hd
  obtain ⟨T, x, y', rfl, nT, rfl, e1, e2⟩ := y
  cases e1
  refine ⟨T, _, rfl, sqT upd_same, rfl, _, _, rfl, _, _, rfl, rfl, ?_⟩
  exact hs i y' σ H _ hi e2 p (Ex.new nT) fun b hb => by
    by_cases z : b = T
    · rw [z, upd_same] at hb; cases hb
    · rwa [upd_ne z] at hb
/-- for x, y in zip(xs, ys) -/
theorem forZip {xs ys : List V} {b : Addr} {j1 j2 : Nat} {ta : TA} (hl : xs.length = ys.length) (Pv : Nat → L2.St → Hp → Prop) (hv : ∀ Q : List V → Hp → Prop, Q [.ref a, .ref b] H → ta σ H Q) (h0 : Pv 0 σ H) (hG : ∀ i σ H, i ≤ xs.length → Pv i σ H → SqL K H a xs ∧ SqL K H b ys)
    (hs : ∀ i x y σ H H1, i < xs.length → xs[i]? = some x → ys[i]? = some y → Pv i σ H → Ex H H1 → (∀ b, H1 b = none → H b = none) → tb { D with nx := Pv (i + 1), ct := Pv (i + 1), bk := D.nx } ((σ.set j1 (some x)).set j2 (some y)) H1) (hd : ∀ σ H, Pv xs.length σ H → D.nx σ H) :
    tFor (iZip K ta) (gTup K 2 (gCons (gName j1) (gCons (gName j2) gNil))) tb D σ H := by
  have g0 := hG 0 σ H (Nat.zero_le _) h0
  refine hv _ ⟨a, b, xs, ys, rfl, g0.1, g0.2, ?_⟩
  refine for_it (walk_zip (n := xs.length) (by omega)) Pv h0 hG (fun i v σ H H' hi p y => ?_) hd
  obtain ⟨T, x, y', rfl, nT, rfl, e1, e2⟩ := y
  refine ⟨T, _, rfl, sqT upd_same, rfl, _, _, rfl, _, _, rfl, rfl, ?_⟩
  exact hs i x y' σ H _ hi e1 e2 p (Ex.new nT) fun b hb => by
    by_cases z : b = T
    · rw [z, upd_same] at hb; cases hb
    · rwa [upd_ne z] at hb
/-- for i in range(n) -/
theorem forR1 {j : Nat} {ta : TA} {n : Int} (Pv : Nat → L2.St → Hp → Prop) (hv : ∀ Q : List V → Hp → Prop, Q [.int n] H → ta σ H Q) (hn : -(2 ^ 62) ≤ n ∧ n < 2 ^ 62) (h0 : Pv 0 σ H)
    (hs : ∀ (i : Nat) σ H, (i : Int) < n → Pv i σ H → tb { D with nx := Pv (i + 1), ct := Pv (i + 1), bk := D.nx } (σ.set j (some (.int (i : Int)))) H) (hd : ∀ σ H, Pv n.toNat σ H → D.nx σ H) : tFor (iRng1 ta) (gName j) tb D σ H := by
  refine hv _ ⟨n, rfl, hn.1, hn.2, for_range (lo := 0) (n := n.toNat) Pv h0 (fun i σ' H' hi p => ?_) hd⟩
  have e0 : (0 : Int) + (i : Int) = (i : Int) := Int.zero_add _
  show tb _ (σ'.set j (some (.int ((0 : Int) + (i : Int))))) H'
  rw [e0]
  exact hs i σ' H' (by omega) p
/-- for x in xs, a list -/
theorem forL {xs : List V} {j : Nat} {tl : TE} (Pv : Nat → L2.St → Hp → Prop) (hv : ∀ Q : VK, Q (.ref a) H → tl σ H Q) (h0 : Pv 0 σ H) (hG : ∀ i σ H, i ≤ xs.length → Pv i σ H → SqL K H a xs)
    (hs : ∀ i x σ H, i < xs.length → xs[i]? = some x → Pv i σ H → tb { D with nx := Pv (i + 1), ct := Pv (i + 1), bk := D.nx } (σ.set j (some x)) H) (hd : ∀ σ H, Pv xs.length σ H → D.nx σ H) : tFor (iList K tl) (gName j) tb D σ H := by
  refine hv _ ⟨a, rfl, ⟨xs, hG 0 σ H (Nat.zero_le _) h0⟩, for_list Pv h0 hG (fun i x σ' H' hi p => ?_) hd⟩
  exact hs i x σ' H' (List.getElem?_eq_some_iff.mp hi).1 hi p
end
/-! ### comprehensions: a new list -/
section
variable {K : Fr} {σ : L2.St} {H : Hp} {te : TE} {tt : TT} {Q : VK}
/-- te is worth v wherever what H knows holds -/
def Wv (te : TE) (σ : L2.St) (H : Hp) (v : V) : Prop := ∀ H1, Ex H H1 → ∀ Q : VK, (∀ H2, Ex H1 H2 → Q v H2) → te σ H1 Q
def WvT (te : TT) (σ : L2.St) (H : Hp) (b : Bool) : Prop := ∀ H1, Ex H H1 → ∀ Q : Bool → Hp → Prop, (∀ H2, Ex H1 H2 → Q b H2) → te σ H1 Q
theorem wvYes : WvT tYes σ H true := fun H1 _ Q q => q H1 (Ex.refl H1)
theorem lcTurn {H' : Hp} {D : Addr} {acc : List V} {b : Bool} {v : V} {σ2 : L2.St} (nD : H D = none) (e : Ex H H') (hD : H' D = some (.lst acc)) (hz : acc.length < sizeLine) (ht : WvT tt σ2 H b) (he : b = true → Wv te σ2 H v)
    (N : Hp → Prop) (hN : ∀ H2, Ex H H2 → H2 D = some (.lst (if b then acc ++ [v] else acc)) → N H2) :
    tt σ2 H' fun b H3 => if b = true then te σ2 H3 fun y H4 => ∃ acc, H4 D = some (.lst acc) ∧ acc.length < sizeLine ∧ N (upd H4 D (.lst (acc ++ [y]))) else N H3 := by
  refine ht H' e _ fun H3 e3 => ?_
  cases b with
  | true =>
    show te σ2 H3 _
    refine he rfl H3 (e.trans e3) _ fun H4 e4 => ⟨acc, e4 _ _ (e3 _ _ hD), hz, hN _ (Ex.mut ((e.trans e3).trans e4) nD) ?_⟩
    exact upd_same
  | false => exact hN H3 (e.trans e3) (e3 _ _ hD)
/-- [e for x in xs], a list -/
theorem lcMap {a : Addr} {xs : List V} {j : Nat} {tl : TE} (f : V → V) (hv : ∀ Q : VK, Q (.ref a) H → tl σ H Q) (hx : SqL K H a xs) (hz : xs.length ≤ 100000) (hw : ∀ x, wipe ((wipe σ [j]).set j (some x)) [j] = wipe σ [j])
    (he : ∀ (i : Nat) (x : V), xs[i]? = some x → Wv te ((wipe σ [j]).set j (some x)) H (f x)) (q : Evl.RetL (xs.map f) H Q) : tLc (iList K tl) (gName j) tYes te [j] σ H Q := by
  refine hv _ ⟨a, rfl, ⟨xs, hx⟩, fun D nD => lc_list (xs := xs) (fun i H' => Ex H H' ∧ H' D = some (.lst ((xs.take i).map f))) ⟨Ex.new nD, upd_same⟩ (fun i H' _ p => p.1.seq hx) (fun i x H' hi p => ⟨hw x, ?_⟩) (fun H' p => ?_)⟩
  · refine lcTurn nD p.1 p.2 ?_ wvYes (fun _ => he i x hi) (fun H' => Ex H H' ∧ H' D = some (.lst ((xs.take (i + 1)).map f))) (fun H2 e2 h2 => ⟨e2, ?_⟩)
    · rw [List.length_map, List.length_take]
      have : 100000 < sizeLine := by decide
      omega
    · rw [h2, List.take_add_one, hi, List.map_append]
      rfl
  · have h := p.2
    rw [List.take_of_length_le (Nat.le_refl _)] at h
    exact q D H' nD p.1 h
theorem lcMapT {a : Addr} {xs : List V} {j : Nat} {tl : TE} (f : V → V) (hv : ∀ Q : VK, Q (.ref a) H → tl σ H Q) (hx : SqT K H a xs) (hz : xs.length ≤ 100000) (hw : ∀ x, wipe ((wipe σ [j]).set j (some x)) [j] = wipe σ [j])
    (he : ∀ (i : Nat) (x : V), xs[i]? = some x → Wv te ((wipe σ [j]).set j (some x)) H (f x)) (q : Evl.RetL (xs.map f) H Q) : tLc (iTup K tl) (gName j) tYes te [j] σ H Q := by
  refine hv _ ⟨a, rfl, ⟨xs, hx⟩, fun D nD => lc_tup (xs := xs) (fun i H' => Ex H H' ∧ H' D = some (.lst ((xs.take i).map f))) ⟨Ex.new nD, upd_same⟩ (fun i H' _ p => p.1.tup hx) (fun i x H' hi p => ⟨hw x, ?_⟩) (fun H' p => ?_)⟩
  · refine lcTurn nD p.1 p.2 ?_ wvYes (fun _ => he i x hi) (fun H' => Ex H H' ∧ H' D = some (.lst ((xs.take (i + 1)).map f))) (fun H2 e2 h2 => ⟨e2, ?_⟩)
    · rw [List.length_map, List.length_take]
      have : 100000 < sizeLine := by decide
      omega
    · rw [h2, List.take_add_one, hi, List.map_append]
      rfl
  · have h := p.2
    rw [List.take_of_length_le (Nat.le_refl _)] at h
    exact q D H' nD p.1 h
theorem lcMapA {a : Addr} {xs : List V} {j : Nat} {tl : TE} (f : V → V) (hv : ∀ Q : VK, Q (.ref a) H → tl σ H Q) (hx : SqA K H a xs) (hz : xs.length ≤ 100000) (hw : ∀ x, wipe ((wipe σ [j]).set j (some x)) [j] = wipe σ [j])
    (he : ∀ (i : Nat) (x : V), xs[i]? = some x → Wv te ((wipe σ [j]).set j (some x)) H (f x)) (q : Evl.RetL (xs.map f) H Q) : tLc (iAny K tl) (gName j) tYes te [j] σ H Q := by
  rcases hx with hx | hx
  · exact .inl (lcMap f hv hx hz hw he q)
  · exact .inr (lcMapT f hv hx hz hw he q)
/-- [e for i in range(lo, hi) if t]: what the turns give -/
theorem lcRng {j : Nat} {lo hi : Int} {ta : TA} (b : Nat → Bool) (v : Nat → V) (hv : ∀ Q : List V → Hp → Prop, Q [.int lo, .int hi] H → ta σ H Q) (hb : -(2 ^ 62) ≤ lo ∧ lo < 2 ^ 62 ∧ -(2 ^ 62) ≤ hi ∧ hi < 2 ^ 62) (hz : (hi - lo).toNat ≤ 100000) (hw : ∀ x, wipe ((wipe σ [j]).set j (some x)) [j] = wipe σ [j])
    (ht : ∀ i, i < (hi - lo).toNat → WvT tt ((wipe σ [j]).set j (some (.int (lo + (i : Int))))) H (b i)) (he : ∀ i, i < (hi - lo).toNat → b i = true → Wv te ((wipe σ [j]).set j (some (.int (lo + (i : Int))))) H (v i))
    (q : Evl.RetL (Evl.given (hi - lo).toNat b v) H Q) : tLc (iRng2 ta) (gName j) tt te [j] σ H Q := by
  refine hv _ ⟨lo, hi, rfl, hb, fun D nD => lc_range (lo := lo) (n := (hi - lo).toNat) (fun i H' => i ≤ (hi - lo).toNat → Ex H H' ∧ H' D = some (.lst (Evl.given i b v))) (fun _ => ⟨Ex.new nD, upd_same⟩) (fun i H' hi' p => ⟨hw _, ?_⟩) (fun H' p => q D H' nD (p (Nat.le_refl _)).1 (p (Nat.le_refl _)).2)⟩
  have p := p (Nat.le_of_lt hi')
  refine lcTurn nD p.1 p.2 ?_ (ht i hi') (he i hi') (fun H' => i + 1 ≤ (hi - lo).toNat → Ex H H' ∧ H' D = some (.lst (Evl.given (i + 1) b v))) (fun H2 e2 h2 _ => ⟨e2, ?_⟩)
  · have h1 := Evl.given_len i b v
    have : 100000 < sizeLine := by decide
    omega
  · rw [h2]
    cases hb' : b i with
    | true => rw [Evl.given_yes hb']; rfl
    | false => rw [Evl.given_no hb']; rfl
theorem lcRng1 {j : Nat} {n : Int} {ta : TA} (b : Nat → Bool) (v : Nat → V) (hv : ∀ Q : List V → Hp → Prop, Q [.int n] H → ta σ H Q) (hb : -(2 ^ 62) ≤ n ∧ n < 2 ^ 62) (hz : n.toNat ≤ 100000) (hw : ∀ x, wipe ((wipe σ [j]).set j (some x)) [j] = wipe σ [j])
    (ht : ∀ i, i < n.toNat → WvT tt ((wipe σ [j]).set j (some (.int (i : Int)))) H (b i)) (he : ∀ i, i < n.toNat → b i = true → Wv te ((wipe σ [j]).set j (some (.int (i : Int)))) H (v i))
    (q : Evl.RetL (Evl.given n.toNat b v) H Q) : tLc (iRng1 ta) (gName j) tt te [j] σ H Q := by
  refine hv _ ⟨n, rfl, hb.1, hb.2, fun D nD => lc_range (lo := 0) (n := n.toNat) (fun i H' => i ≤ n.toNat → Ex H H' ∧ H' D = some (.lst (Evl.given i b v))) (fun _ => ⟨Ex.new nD, upd_same⟩) (fun i H' hi' p => ⟨hw _, ?_⟩) (fun H' p => q D H' nD (p (Nat.le_refl _)).1 (p (Nat.le_refl _)).2)⟩
  have p := p (Nat.le_of_lt hi')
  have e0 : (0 : Int) + (i : Int) = (i : Int) := Int.zero_add _
  show tt ((wipe σ [j]).set j (some (.int ((0 : Int) + (i : Int))))) H' fun b2 H3 => if b2 = true then te ((wipe σ [j]).set j (some (.int ((0 : Int) + (i : Int))))) H3 fun y H4 => ∃ acc, H4 D = some (.lst acc) ∧ acc.length < sizeLine ∧ (i + 1 ≤ n.toNat → Ex H (upd H4 D (.lst (acc ++ [y]))) ∧ (upd H4 D (.lst (acc ++ [y]))) D = some (.lst (Evl.given (i + 1) b v))) else (i + 1 ≤ n.toNat → Ex H H3 ∧ H3 D = some (.lst (Evl.given (i + 1) b v)))
  rw [e0]
  refine lcTurn nD p.1 p.2 ?_ (ht i hi') (he i hi') (fun H' => i + 1 ≤ n.toNat → Ex H H' ∧ H' D = some (.lst (Evl.given (i + 1) b v))) (fun H2 e2 h2 _ => ⟨e2, ?_⟩)
  · have h1 := Evl.given_len i b v
    have : 100000 < sizeLine := by decide
    omega
  · rw [h2]
    cases hb' : b i with
    | true => rw [Evl.given_yes hb']; rfl
    | false => rw [Evl.given_no hb']; rfl
end
/-- of any kind of value -/
inductive Kd (K : Fr) (H : Hp) : V → Prop where
  | int (i : Int) : Kd K H (.int i)
  | bl (b : Bool) : Kd K H (.bl b)
  | oth {v : V} {t : Value} (ty : TyX K H v t) (k : PySem.W.kitOne K t (.type "int") = some false) : Kd K H v
end TP
/-! PFa -/
set_option maxHeartbeats 4000000
namespace TP
open PySem PySem.Spec PyProof.Rows L2
local macro_rules | `(tactic| walk_at "s1") => `(tactic| first | refine ⟨_, rfl, ?_⟩ | refine ⟨_, _, rfl, rfl, ?_⟩ | refine ⟨rfl, ?_⟩ | refine iteT ?_ | refine iteF ?_)
local macro_rules | `(tactic| walk_at "st") => `(tactic| (repeat (walk_at "s1")))
local macro_rules | `(tactic| walk_at "sq") => `(tactic| first | assumption | exact sqL (by assumption) | exact sqT (by assumption) | (refine Ex.seq (by assumption) ?_; walk_at "sq") | (refine Ex.tup (by assumption) ?_; walk_at "sq"))
local macro_rules | `(tactic| walk_at "at") => `(tactic| first | assumption | (refine (show Ex _ _ by assumption) _ _ ?_; walk_at "at"))

variable {K : Fr}
def isInt : V → Bool | .int _ => true | _ => false
def isCnt : V → Bool | .int i => decide (0 ≤ i) | _ => false
def below (n : Int) : V → Bool | .int i => decide (0 ≤ i) && decide (i < n) | _ => false
theorem kit_int_bool : PySem.W.kitOne K (.type "int") (.type "bool") = some false := kit_ty (by decide +kernel)
theorem kit_bool_int : PySem.W.kitOne K (.type "bool") (.type "int") = some true := kit_ty (by decide +kernel)
theorem kit_refl {t : Value} : PySem.W.kitOne K t t = some true := by unfold PySem.W.kitOne; rw [if_pos (by simp)]
theorem Kd.ty {H : Hp} {v : V} (k : Kd K H v) : ∃ t b, TyX K H v t ∧ PySem.W.kitOne K t (.type "int") = some b := by
  cases k with
  | int i => exact ⟨_, true, .base (.int i), kit_refl⟩
  | bl b => exact ⟨_, true, .base (.bl b), kit_bool_int⟩
  | oth ty k => exact ⟨_, _, ty, k⟩
/-! ### is_integer -/
def sp_is_integer (K : Fr) : Sp := fun vs H Q _ => ∃ v, vs = [v] ∧ Kd K H v ∧ Q (.bl (isInt v)) H
theorem len_is_integer (vs : List V) (H : Hp) (Q : VK) (E : XK) (h : sp_is_integer K vs H Q E) : vs.length = 1 := by obtain ⟨_, rfl, _⟩ := h; rfl
def t_is_integer (K : Fr) : TS := (tRet (tAndV (tCB (rIsi K) (tCons (tVar 0) (tCons (tC (.ty "int")) tNil))) (tNotV (tCB (rIsi K) (tCons (tVar 0) (tCons (tC (.ty "bool")) tNil))))))
theorem isInt_oth {H : Hp} {v : V} {t : Value} (ty : TyX K H v t) (k : PySem.W.kitOne K t (.type "int") = some false) : isInt v = false := by
  cases v with
  | int i =>
    cases ty with
    | base b =>
      cases b
      rw [kit_refl] at k; cases k
  | _ => rfl
theorem pure_is_integer (vs : List V) (H : Hp) (Q : VK) (E : XK) (h : sp_is_integer K vs H Q E) : t_is_integer K { nx := fun _ H' => Q .non H', rt := Q } (L2.start ["value"] vs) H := by
  obtain ⟨v, rfl, k, q⟩ := h
  cases k with
  | int i =>
    refine ⟨_, rfl, _, .ty "int", _, _, true, rfl, .ty _, .base (.int i), kit_refl, true, rfl, iteT ?_⟩
    exact ⟨_, rfl, _, .ty "bool", _, _, false, rfl, .ty _, .base (.int i), kit_int_bool, false, rfl, q⟩
  | bl b =>
    refine ⟨_, rfl, _, .ty "int", _, _, true, rfl, .ty _, .base (.bl b), kit_bool_int, true, rfl, iteT ?_⟩
    exact ⟨_, rfl, _, .ty "bool", _, _, true, rfl, .ty _, .base (.bl b), kit_refl, true, rfl, q⟩
  | oth ty k =>
    refine ⟨_, rfl, _, .ty "int", _, _, false, rfl, .ty _, ty, k, false, rfl, iteF ?_⟩
    rw [isInt_oth ty k] at q
    exact q
/-! ### is_count, is_below -/
def sp_is_count (K : Fr) : Sp := fun vs H Q _ => ∃ v, vs = [v] ∧ Kd K H v ∧ Q (.bl (isCnt v)) H
theorem len_is_count (vs : List V) (H : Hp) (Q : VK) (E : XK) (h : sp_is_count K vs H Q E) : vs.length = 1 := by obtain ⟨_, rfl, _⟩ := h; rfl
def t_is_count (K : Fr) : TS := (tRet (tAndV (tCall (sp_is_integer K) [] E0 (tCons (tVar 0) tNil)) (tOp rGeI (tVar 0) (tC (.int 0)))))
theorem isCnt_of {v : V} (h : isInt v = false) : isCnt v = false := by
  cases v with
  | int i => cases h
  | _ => rfl
theorem pure_is_count (vs : List V) (H : Hp) (Q : VK) (E : XK) (h : sp_is_count K vs H Q E) : t_is_count K { nx := fun _ H' => Q .non H', rt := Q } (L2.start ["value"] vs) H := by
  obtain ⟨v, rfl, k, q⟩ := h
  refine ⟨_, rfl, v, rfl, k, isInt v, rfl, ?_⟩
  cases e : isInt v with
  | false =>
    refine iteF ?_
    rw [isCnt_of e] at q
    exact q
  | true =>
    refine iteT ?_
    cases v with
    | int i => exact ⟨_, rfl, _, _, rfl, rfl, q⟩
    | _ => cases e
def sp_is_below (K : Fr) : Sp := fun vs H Q _ => ∃ v n, vs = [v, .int n] ∧ Kd K H v ∧ Q (.bl (below n v)) H
theorem len_is_below (vs : List V) (H : Hp) (Q : VK) (E : XK) (h : sp_is_below K vs H Q E) : vs.length = 2 := by obtain ⟨_, _, rfl, _⟩ := h; rfl
def t_is_below (K : Fr) : TS := (tRet (tAndV (tCall (sp_is_count K) [] E0 (tCons (tVar 0) tNil)) (tOp rLtI (tVar 0) (tVar 1))))
theorem pure_is_below (vs : List V) (H : Hp) (Q : VK) (E : XK) (h : sp_is_below K vs H Q E) : t_is_below K { nx := fun _ H' => Q .non H', rt := Q } (L2.start ["value", "bound"] vs) H := by
  obtain ⟨v, n, rfl, k, q⟩ := h
  refine ⟨_, rfl, v, rfl, k, isCnt v, rfl, ?_⟩
  cases e : isCnt v with
  | false =>
    refine iteF ?_
    have : below n v = false := by
      cases v with
      | int i => show (decide (0 ≤ i) && decide (i < n)) = false; rw [show decide (0 ≤ i) = false from e]; rfl
      | _ => rfl
    rw [this] at q
    exact q
  | true =>
    refine iteT ?_
    cases v with
    | int i =>
      refine ⟨_, rfl, _, rfl, _, _, rfl, rfl, ?_⟩
      have : below n (.int i) = decide (i < n) := by show (decide (0 ≤ i) && decide (i < n)) = _; rw [show decide (0 ≤ i) = true from e]; rfl
      rw [this] at q
      exact q
    | _ => cases e
/-! ### is_list -/
/-- a value's items, where it is a list or a tuple -/
inductive Itm (K : Fr) (H : Hp) : V → Option (List V) → Prop where
  | seq {a : Addr} {xs : List V} (h : SqA K H a xs) : Itm K H (.ref a) (some xs)
  | oth {v : V} {t : Value} (ty : TyX K H v t) (k1 : PySem.W.kitOne K t (.type "list") = some false) (k2 : PySem.W.kitOne K t (.type "tuple") = some false) : Itm K H v none
theorem tyL {H : Hp} {a : Addr} {xs : List V} (h : SqL K H a xs) : TyX K H (.ref a) (.type "list") := by
  rcases h with (h | ⟨o, h⟩) | ⟨o, its, n, h, c, _⟩
  · exact .base (.lst h)
  · exact .base (.frz h)
  · exact .kList h c
theorem tyT {H : Hp} {a : Addr} {xs : List V} (h : SqT K H a xs) : TyX K H (.ref a) (.type "tuple") := by
  rcases h with (h | ⟨o, h⟩) | ⟨o, its, n, h, c, _⟩
  · exact .base (.tup h)
  · exact .fTuple h
  · exact .kTuple h c
theorem tyx_ex {H H' : Hp} {v : V} {t : Value} (e : Ex H H') (h : TyX K H v t) : TyX K H' v t := by
  cases h with
  | base b =>
    refine .base ?_
    cases b with
    | non => exact .non
    | bl x => exact .bl x
    | int i => exact .int i
    | str x => exact .str x
    | flt x => exact .flt x
    | lst h => exact .lst (e _ _ h)
    | frz h => exact .frz (e _ _ h)
    | tup h => exact .tup (e _ _ h)
    | dK h => exact .dK (e _ _ h)
    | dT h => exact .dT (e _ _ h)
    | ins h cl ha hn ht hm => exact .ins (e _ _ h) cl ha hn ht hm
  | byt b => exact .byt b
  | set h => exact .set (e _ _ h)
  | kList h c => exact .kList h c
  | kTuple h c => exact .kTuple h c
  | kDict h c => exact .kDict h c
  | fTuple h => exact .fTuple (e _ _ h)
  | fDict h => exact .fDict (e _ _ h)
theorem Kd.ex {H H' : Hp} {v : V} (e : Ex H H') (h : Kd K H v) : Kd K H' v := by
  cases h with
  | int i => exact .int i
  | bl b => exact .bl b
  | oth ty k => exact .oth (tyx_ex e ty) k
theorem Itm.ex {H H' : Hp} {v : V} {o : Option (List V)} (e : Ex H H') (h : Itm K H v o) : Itm K H' v o := by
  cases h with
  | seq h => exact .seq (e.any h)
  | oth ty k1 k2 => exact .oth (tyx_ex e ty) k1 k2
def sp_is_list (K : Fr) : Sp := fun vs H Q _ => ∃ v o, vs = [v] ∧ Itm K H v o ∧ Evl.RetV (.bl o.isSome) H Q
theorem len_is_list (vs : List V) (H : Hp) (Q : VK) (E : XK) (h : sp_is_list K vs H Q E) : vs.length = 1 := by obtain ⟨_, _, rfl, _⟩ := h; rfl
def t_is_list (K : Fr) : TS := (tRet (tCB (rIsiT K) (tCons (tVar 0) (tCons (tTup (tCons (tC (.ty "list")) (tCons (tC (.ty "tuple")) tNil))) tNil))))
theorem two_ok : 2 ≤ sizeLine := by decide
theorem pure_is_list (vs : List V) (H : Hp) (Q : VK) (E : XK) (h : sp_is_list K vs H Q E) : t_is_list K { nx := fun _ H' => Q .non H', rt := Q } (L2.start ["value"] vs) H := by
  obtain ⟨v, o, rfl, k, q⟩ := h
  refine ⟨_, rfl, two_ok, ?_⟩
  intro p n1; generalize E_ : upd _ p _ = H1; have e1 := genE E_ n1; have h1 := genS E_; clear E_
  have hc : Paired ClsV [V.ty "list", V.ty "tuple"] [Value.type "list", Value.type "tuple"] := .cons (.ty _) (.cons (.ty _) .nil)
  cases k with
  | seq h =>
    rcases h with h | h
    · exact ⟨_, p, _, _, _, true, rfl, h1, hc, tyx_ex e1 (tyL h), by unfold PySem.W.kitAny; rw [kit_refl], q H1 e1⟩
    · exact ⟨_, p, _, _, _, true, rfl, h1, hc, tyx_ex e1 (tyT h), by
        unfold PySem.W.kitAny
        rw [show PySem.W.kitOne K (.type "tuple") (.type "list") = some false from kit_ty (by decide +kernel)]
        show PySem.W.kitAny K _ [_] = _
        unfold PySem.W.kitAny; rw [kit_refl], q H1 e1⟩
  | oth ty k1 k2 =>
    exact ⟨_, p, _, _, _, false, rfl, h1, hc, tyx_ex e1 ty, by
      unfold PySem.W.kitAny; rw [k1]
      show PySem.W.kitAny K _ [_] = _
      unfold PySem.W.kitAny; rw [k2]; rfl, q H1 e1⟩
/-! ### are_below -/
def allB (n : Int) : Option (List V) → Bool | some xs => xs.all (below n) | none => false
def sp_are_below (K : Fr) : Sp := fun vs H Q _ => ∃ v n o, vs = [v, .int n] ∧ Itm K H v o ∧ (∀ xs, o = some xs → xs.length ≤ 100000 ∧ ∀ x ∈ xs, Kd K H x) ∧ Evl.RetV (.bl (allB n o)) H Q
theorem len_are_below (vs : List V) (H : Hp) (Q : VK) (E : XK) (h : sp_are_below K vs H Q E) : vs.length = 2 := by obtain ⟨_, _, _, rfl, _⟩ := h; rfl
def t_are_below (K : Fr) : TS := (tRet (tAndV (tCall (sp_is_list K) [] E0 (tCons (tVar 0) tNil)) (tCB (rAll K) (tCons (tLc (iAny K (tVar 0)) (gName 2) tYes (tCall (sp_is_below K) [] E0 (tCons (tVar 2) (tCons (tVar 1) tNil))) [2]) tNil))))
theorem pure_are_below (vs : List V) (H : Hp) (Q : VK) (E : XK) (h : sp_are_below K vs H Q E) : t_are_below K { nx := fun _ H' => Q .non H', rt := Q } (L2.start ["value", "bound", "one"] vs) H := by
  obtain ⟨v, n, o, rfl, k, hx, q⟩ := h
  refine ⟨_, rfl, v, o, rfl, k, fun H1 e1 => ⟨o.isSome, rfl, ?_⟩⟩
  cases k with
  | oth ty k1 k2 => exact iteF (q H1 e1)
  | seq h =>
    rename_i a xs
    obtain ⟨hz, hk⟩ := hx _ rfl
    refine iteT ?_
    refine tCB1 (lcMapA (fun x => .bl (below n x)) (fun Q q => ⟨_, rfl, q⟩) (Ex.any e1 h) hz (fun x => rfl) (fun i x hi H2 e2 Q2 q2 => ?_) (fun p H2 np e2 hp => ?_))
    · exact ⟨_, rfl, _, rfl, x, n, rfl, (hk x (List.mem_of_getElem? hi)).ex (Ex.trans e1 e2), q2 H2 (Ex.refl _)⟩
    · refine ⟨p, xs.map (below n), rfl, sqL (by rw [hp, List.map_map]; rfl), ?_⟩
      have e : (xs.map (below n)).all id = xs.all (below n) := by rw [List.all_map]; rfl
      rw [e]
      exact q H2 (Ex.trans e1 e2)
/-! ### without_noughts -/
/-- without the noughts at the end -/
def wn : List Int → List Int
  | [] => []
  | x :: r => match wn r with
    | [] => if x = 0 then [] else [x]
    | y :: s => x :: y :: s
theorem wn_take : ∀ (l : List Int) (m : Nat), m ≤ l.length → (∀ j, m ≤ j → j < l.length → l[j]? = some 0) → (m = 0 ∨ ∃ x, l[m - 1]? = some x ∧ x ≠ 0) → wn l = l.take m
  | [], m, hm, _, _ => by
    have : m = 0 := by simpa using hm
    subst this; rfl
  | x :: r, 0, _, h0, _ => by
    have ih := wn_take r 0 (Nat.zero_le _) (fun j _ hj => by have := h0 (j + 1) (Nat.zero_le _) (by simp; omega); simpa using this) (.inl rfl)
    have hx := h0 0 (Nat.le_refl _) (by simp)
    simp at hx
    unfold wn
    rw [ih]
    simp [hx]
  | x :: r, m + 1, hm, h0, h1 => by
    by_cases z : m = 0
    · subst z
      have ih := wn_take r 0 (Nat.zero_le _) (fun j _ hj => by have := h0 (j + 1) (by omega) (by simp; omega); simpa using this) (.inl rfl)
      rcases h1 with h1 | ⟨y, h1, h2⟩
      · omega
      · simp at h1
        subst h1
        unfold wn
        rw [ih]
        simp [h2]
    · have hm' : m ≤ r.length := by simpa using hm
      have ih := wn_take r m hm' (fun j h hj => by have := h0 (j + 1) (by omega) (by simp; omega); simpa using this) (by
        rcases h1 with h1 | ⟨y, h1, h2⟩
        · omega
        · refine .inr ⟨y, ?_, h2⟩
          have e : m + 1 - 1 = (m - 1) + 1 := by omega
          rw [e] at h1
          simpa using h1)
      unfold wn
      rw [ih]
      obtain ⟨y, s, e⟩ : ∃ y s, r.take m = y :: s := by
        cases hr : r.take m with
        | nil =>
          have h5 := congrArg List.length hr
          rw [List.length_take, List.length_nil] at h5
          clear h1 h0 ih
          omega
        | cons y s => exact ⟨y, s, rfl⟩
      rw [e]
      simp [e]
def sp_without_noughts (K : Fr) : Sp := fun vs H Q _ => ∃ a ns, vs = [.ref a] ∧ SqA K H a (ns.map V.int) ∧ ns.length ≤ 100000 ∧ Evl.RetL ((wn ns).map V.int) H Q
theorem len_without_noughts (vs : List V) (H : Hp) (Q : VK) (E : XK) (h : sp_without_noughts K vs H Q E) : vs.length = 1 := by obtain ⟨_, _, rfl, _⟩ := h; rfl
def t_without_noughts (K : Fr) : TS := (tSeq (tAsg (tCB (rLenA K) (tCons (tVar 0) tNil)) (gName 1)) (tSeq (tWhile (tAnd (tTest (tOp rGtI (tVar 1) (tC (.int 0)))) (tTest (tOp rEq (tOp (rIxA K) (tVar 0) (tOp rSubI (tVar 1) (tC (.int 1)))) (tC (.int 0))))) (tAug 1 (tC (.int 1)) (ipI fun i j => i - j))) (tRet (tCB (rListA K) (tCons (tSl (rSlX K) (tVar 0) tNoPart (tPart (tVar 1))) tNil)))))
theorem sIx_hi (n m : Nat) (h : m ≤ n) : HT.sIx n n (some (m : Int)) = m := by
  rw [HT.sIx_nat n n m]; omega
theorem cut_to (xs : List V) (m : Nat) (h : m ≤ xs.length) : cutV xs none (some (m : Int)) = xs.take m := by
  unfold cutV
  rw [sIx_hi _ _ h, HT.sIx_none]
  simp
theorem pure_without_noughts (vs : List V) (H : Hp) (Q : VK) (E : XK) (h : sp_without_noughts K vs H Q E) : t_without_noughts K { nx := fun _ H' => Q .non H', rt := Q } (L2.start ["row", "many"] vs) H := by
  obtain ⟨a, ns, rfl, hs, hz, q⟩ := h
  refine ⟨_, rfl, a, _, rfl, hs, ?_⟩
  refine ⟨fun m σ H' => σ = [some (.ref a), some (.int (m : Nat))] ∧ H' = H ∧ m ≤ ns.length ∧ (∀ j, m ≤ j → j < ns.length → ns[j]? = some 0), ⟨ns.length, by simp [L2.start], rfl, Nat.le_refl _, fun j h1 h2 => by omega⟩, ?_⟩
  rintro m σ H' ⟨rfl, rfl, hm, h0⟩
  have fin : (m = 0 ∨ ∃ x, ns[m - 1]? = some x ∧ x ≠ 0) → (tRet (tCB (rListA K) (tCons (tSl (rSlX K) (tVar 0) tNoPart (tPart (tVar 1))) tNil))) { nx := fun _ H' => Q .non H', rt := Q } [some (.ref a), some (.int (m : Nat))] H' := fun hl => by
    have ew := wn_take ns m hm h0 hl
    have ec : cutV (ns.map V.int) none (some (m : Int)) = (wn ns).map V.int := by
      rw [cut_to _ _ (by simpa using hm), ew, List.map_take]
    refine ⟨_, rfl, _, rfl, _, rfl, ?_⟩
    rcases hs with hs | hs
    · refine .inl ⟨a, _, rfl, hs, ?_⟩
      intro p n1; generalize E_ : upd _ p _ = H1; have e1 := genE E_ n1; have h1 := genS E_; clear E_
      rw [ec] at h1
      refine ⟨p, _, rfl, .inl (sqL h1), ?_⟩
      intro p2 n2; generalize E_ : upd _ p2 _ = H2; have e2 := genE E_ n2; have h2 := genS E_; clear E_
      exact q p2 H2 (Ex.back e1 n2) (Ex.trans e1 e2) h2
    · refine .inr ⟨a, _, rfl, hs, fun ⟨w1, w2⟩ => ?_, fun _ => ?_⟩
      · have ew2 : (wn ns).map V.int = ns.map V.int := by
          rw [← ec]
          unfold cutV
          rw [w1, w2, List.drop_zero]
          exact List.take_of_length_le (Nat.le_refl _)
        refine ⟨a, _, rfl, .inr hs, ?_⟩
        intro p2 n2; generalize E_ : upd _ p2 _ = H2; have e2 := genE E_ n2; have h2 := genS E_; clear E_
        exact q p2 H2 n2 e2 (by rw [ew2]; exact h2)
      · intro p n1; generalize E_ : upd _ p _ = H1; have e1 := genE E_ n1; have h1 := genS E_; clear E_
        rw [ec] at h1
        refine ⟨p, _, rfl, .inr (sqT h1), ?_⟩
        intro p2 n2; generalize E_ : upd _ p2 _ = H2; have e2 := genE E_ n2; have h2 := genS E_; clear E_
        exact q p2 H2 (Ex.back e1 n2) (Ex.trans e1 e2) h2
  refine ⟨_, rfl, _, _, rfl, rfl, _, rfl, ?_⟩
  by_cases c : (0 : Int) < (m : Int)
  · rw [decide_eq_true c]
    refine iteT ?_
    have hm1 : m - 1 < ns.length := by omega
    refine ⟨_, rfl, _, rfl, _, _, rfl, rfl, ?_⟩
    refine ixA hs (v := .int ns[m - 1]) ?_ ?_
    · have e : (m : Int) - 1 = ((m - 1 : Nat) : Int) := by omega
      rw [e]
      exact atI_nat (by rw [List.getElem?_map, List.getElem?_eq_getElem hm1]; rfl)
    · refine ⟨rfl, _, rfl, ?_⟩
      by_cases z : ns[m - 1] = 0
      · rw [decide_eq_true (by rw [z])]
        refine iteT ⟨fun σ' H2 => σ' = [some (.ref a), some (.int ((m - 1 : Nat) : Int))] ∧ H2 = H', fun σ' H2 ⟨h1, h2⟩ => ⟨m - 1, by omega, h1, h2, by omega, fun j g1 g2 => ?_⟩, ?_⟩
        · by_cases gj : j = m - 1
          · subst gj; rw [List.getElem?_eq_getElem hm1, z]
          · exact h0 j (by omega) g2
        · refine ⟨_, rfl, _, _, rfl, rfl, ?_⟩
          have e : (m : Int) - 1 = ((m - 1 : Nat) : Int) := by omega
          exact ⟨congrArg (fun z => [some (V.ref a), some (V.int z)]) e, rfl⟩
      · rw [decide_eq_false (fun e => z (V.int.inj e))]
        exact iteF (fin (.inr ⟨_, List.getElem?_eq_getElem hm1, z⟩))
  · rw [decide_eq_false c]
    exact iteF (iteF (fin (.inl (by omega))))

end TP
/-! PFb -/
set_option maxHeartbeats 4000000
namespace TP
open PySem PySem.Spec PyProof.Rows L2
local macro_rules | `(tactic| walk_at "s1") => `(tactic| first | refine ⟨_, rfl, ?_⟩ | refine ⟨_, _, rfl, rfl, ?_⟩ | refine ⟨rfl, ?_⟩ | refine iteT ?_ | refine iteF ?_)
local macro_rules | `(tactic| walk_at "st") => `(tactic| (repeat (walk_at "s1")))
local macro_rules | `(tactic| walk_at "sq") => `(tactic| first | assumption | exact sqL (by assumption) | exact sqT (by assumption) | (refine Ex.seq (by assumption) ?_; walk_at "sq") | (refine Ex.tup (by assumption) ?_; walk_at "sq"))
local macro_rules | `(tactic| walk_at "at") => `(tactic| first | assumption | (refine (show Ex _ _ by assumption) _ _ ?_; walk_at "at"))
local macro_rules | `(tactic| walk_at "sl") => `(tactic| ((try dsimp only); refine tSeqI ?_; (try dsimp only)))

variable {K : Fr}
/-! ### lists of ints as data -/
def dI (ns : List Int) : PyData := .list (ns.map PyData.int)
theorem dpAll_ints {H : Hp} : ∀ ns : List Int, DpAll K H (ns.map V.int) (ns.map PyData.int)
  | [] => .nil
  | n :: r => .cons (.int n) (dpAll_ints r)
theorem dp_ints {H : Hp} {a : Addr} {ns : List Int} (h : SqL K H a (ns.map V.int)) : Dp K H (.ref a) (dI ns) := .lst h (dpAll_ints ns)
theorem lay_ints : ∀ ns : List Int, PyData.canLayAll0 (ns.map PyData.int) = true
  | [] => by simp [PyData.canLayAll0]
  | n :: r => by simp [PyData.canLayAll0, PyData.canLay0, lay_ints r]
theorem dep_ints : ∀ ns : List Int, PyData.depthAll (ns.map PyData.int) = 0
  | [] => by simp [PyData.depthAll]
  | n :: r => by simp [PyData.depthAll, PyData.depth, dep_ints r]
theorem shaped_ints (ns : List Int) : SeqAt.shaped (dI ns) = true := by
  unfold SeqAt.shaped dI
  simp [PyData.canLay0, PyData.depth, lay_ints, dep_ints]
theorem eqv_ints : ∀ xs ys : List Int, PyData.eqv (dI xs) (dI ys) = decide (xs = ys) := by
  intro xs
  show ∀ ys : List Int, PyData.eqv (.list _) (.list _) = _
  induction xs with
  | nil =>
    intro ys
    cases ys with
    | nil => simp [PyData.eqv, PyData.eqvAll]
    | cons y ys => simp [PyData.eqv, PyData.eqvAll]
  | cons x xs ih =>
    intro ys
    cases ys with
    | nil => simp [PyData.eqv, PyData.eqvAll]
    | cons y ys =>
      have h := ih ys
      simp only [PyData.eqv] at h
      simp only [PyData.eqv, PyData.eqvAll, List.map_cons, h, List.cons.injEq, Bool.decide_and]
      rfl
theorem at_ints {ns : List Int} {j : Nat} (h : j < ns.length) : atI (ns.map V.int) (j : Int) = some (.int (ns.getD j 0)) := by
  refine atI_nat ?_
  rw [List.getElem?_map, List.getElem?_eq_getElem h, List.getD_eq_getElem?_getD, List.getElem?_eq_getElem h]
  rfl
theorem lastD_eq {ns : List Int} (h : ns ≠ []) : ns.getLastD 0 = ns.getLast h := by
  rw [List.getLastD_eq_getLast?, List.getLast?_eq_some_getLast h]; rfl
theorem at_lastI {ns : List Int} (h : ns ≠ []) : atI (ns.map V.int) (-1) = some (.int (ns.getLastD 0)) := by
  have e : ns = ns.dropLast ++ [ns.getLastD 0] := by
    rw [lastD_eq h]
    exact (List.dropLast_concat_getLast h).symm
  have e2 : ns.map V.int = ns.dropLast.map V.int ++ [V.int (ns.getLastD 0)] := by
    rw [← List.map_singleton, ← List.map_append, ← e]
  rw [e2]
  exact atI_last _ _
theorem set_ints (ns : List Int) (j : Nat) (x : Int) : (ns.map V.int).set j (.int x) = (ns.set j x).map V.int := by rw [List.map_set]
theorem ixN_of {n : Nat} {i : Int} {j : Nat} (e : i = (j : Int)) (h : j < n) : ixN n i = some j := by rw [e]; exact Evl.ixN_nat h
theorem rep_ints (k : Nat) : (List.replicate k ([.int 0] : List V)).flatten = (List.replicate k (0 : Int)).map V.int := by
  induction k with
  | zero => rfl
  | succ n ih => rw [List.replicate_succ, List.flatten_cons, ih, List.replicate_succ]; rfl
/-! ### product_of -/
def pRow (p : Int) (i : Nat) (x : Int) : List Int → Nat → List Int → List Int
  | [], _, s => s
  | y :: ys, j, s => pRow p i x ys (j + 1) (s.set (i + j) ((s.getD (i + j) 0 + x * y) % p))
def pAll (p : Int) (ys : List Int) : List Int → Nat → List Int → List Int
  | [], _, s => s
  | x :: xs, i, s => pAll p ys xs (i + 1) (pRow p i x ys 0 s)
theorem pRow_nil {p : Int} {i : Nat} {x : Int} {j : Nat} {s : List Int} : pRow p i x [] j s = s := rfl
theorem pRow_cons {p : Int} {i : Nat} {x y : Int} {ys : List Int} {j : Nat} {s : List Int} : pRow p i x (y :: ys) j s = pRow p i x ys (j + 1) (s.set (i + j) ((s.getD (i + j) 0 + x * y) % p)) := rfl
theorem pAll_nil {p : Int} {ys : List Int} {i : Nat} {s : List Int} : pAll p ys [] i s = s := rfl
theorem pAll_cons {p : Int} {x : Int} {xs ys : List Int} {i : Nat} {s : List Int} : pAll p ys (x :: xs) i s = pAll p ys xs (i + 1) (pRow p i x ys 0 s) := rfl
def prodP (p : Int) (xs ys : List Int) : List Int := wn (pAll p ys xs 0 (List.replicate (xs.length + ys.length - 1) 0))
theorem pRow_len (p : Int) (i : Nat) (x : Int) : ∀ (ys : List Int) (j : Nat) (s : List Int), (pRow p i x ys j s).length = s.length
  | [], _, _ => rfl
  | y :: ys, j, s => by unfold pRow; rw [pRow_len p i x ys (j + 1)]; simp
/-- figures below p -/
def Cf (p : Int) (xs : List Int) : Prop := ∀ x ∈ xs, 0 ≤ x ∧ x < p
instance (p : Int) (xs : List Int) : Decidable (Cf p xs) := by unfold Cf; infer_instance
def sp_product_of (K : Fr) : Sp := fun vs H Q _ => ∃ p a b xs ys, vs = [.int p, .ref a, .ref b] ∧ SqL K H a (xs.map V.int) ∧ SqL K H b (ys.map V.int) ∧ (0 < p ∧ p ≤ 7) ∧ xs.length ≤ 1000 ∧ ys.length ≤ 1000 ∧ Cf p xs ∧ Evl.RetL ((prodP p xs ys).map V.int) H Q
theorem len_product_of (vs : List V) (H : Hp) (Q : VK) (E : XK) (h : sp_product_of K vs H Q E) : vs.length = 3 := by obtain ⟨_, _, _, _, _, rfl, _⟩ := h; rfl
def t_product_of (K : Fr) : TS := (tSeq (tAsg (tOp rRep (tLst (tCons (tC (.int 0)) tNil)) (tOp rSubI (tOp rAddI (tCB (rLenA K) (tCons (tVar 1) tNil)) (tCB (rLenA K) (tCons (tVar 2) tNil))) (tC (.int 1)))) (gName 3)) (tSeq (tFor (iEnum K (tCons (tVar 1) tNil)) (gTup K 2 (gCons (gName 4) (gCons (gName 5) gNil))) (tFor (iEnum K (tCons (tVar 2) tNil)) (gTup K 2 (gCons (gName 6) (gCons (gName 7) gNil))) (tAsg (tOp rModI (tOp rAddI (tOp (rIxL K) (tVar 3) (tOp rAddI (tVar 4) (tVar 6))) (tOp rMulI (tVar 5) (tVar 7))) (tVar 0)) (gSub (tVar 3) (tOp rAddI (tVar 4) (tVar 6)) rSetL)))) (tRet (tCall (sp_without_noughts K) [] E0 (tCons (tVar 3) tNil)))))
theorem small_sz {n : Nat} (h : n ≤ 100000) : n ≤ sizeLine := Nat.le_trans h (by decide)
theorem cf_mul {p : Int} {xs : List Int} {x : Int} (hp : p ≤ 7) (h : Cf p xs) (hx : x ∈ xs) : -(2 ^ 64) < x ∧ x < 2 ^ 64 := by
  have := h x hx
  omega
theorem getD_of {ns : List Int} {i : Nat} {x : V} (h : (ns.map V.int)[i]? = some x) : x = .int (ns.getD i 0) ∧ i < ns.length := by
  rw [List.getElem?_map] at h
  cases e : ns[i]? with
  | none => rw [e] at h; cases h
  | some y =>
    rw [e] at h
    cases h
    rw [List.getD_eq_getElem?_getD, e]
    exact ⟨rfl, (List.getElem?_eq_some_iff.mp e).1⟩
theorem drop_get {ns : List Int} {i : Nat} (h : i < ns.length) : ns.drop i = ns.getD i 0 :: ns.drop (i + 1) := by
  rw [List.drop_eq_getElem_cons h, List.getD_eq_getElem?_getD, List.getElem?_eq_getElem h]; rfl
theorem getD_mem {ns : List Int} {i : Nat} (h : i < ns.length) : ns.getD i 0 ∈ ns := by
  rw [List.getD_eq_getElem?_getD, List.getElem?_eq_getElem h]; exact List.getElem_mem h
theorem pure_product_of (vs : List V) (H : Hp) (Q : VK) (E : XK) (h : sp_product_of K vs H Q E) :
    t_product_of K { nx := fun _ H' => Q .non H', rt := Q } (start ["prime", "one", "other", "sums", "at", "figure", "beside", "factor"] vs) H := by
  obtain ⟨p, a, b, xs, ys, rfl, ha, hb, hp, hx, hy, hc, q⟩ := h
  refine ⟨by decide, ?_⟩
  intro l0 n0; generalize E_ : upd _ l0 _ = H0; have e0 := genE E_ n0; have h0 := genS E_; clear E_
  refine ⟨_, rfl, a, _, rfl, .inl (Ex.seq e0 ha), _, rfl, b, _, rfl, .inl (Ex.seq e0 hb), _, _, rfl, rfl, _, _, rfl, rfl, ?_⟩
  have z0 : 100000 < (2 : Int) ^ 63 := by decide
  rw [List.length_map, List.length_map]
  refine ⟨l0, _, _, rfl, rfl, h0, by omega, by omega, small_sz (by simp; omega), ?_⟩
  have eK : ((xs.length : Int) + (ys.length : Int) - 1).toNat = xs.length + ys.length - 1 := by omega
  rw [eK, rep_ints]
  intro l n1; generalize E_ : upd _ l _ = H1; have e1 := genE E_ n1; have h1 := genS E_; clear E_
  have nl : H l = none := Ex.back e0 n1
  have e01 : Ex H H1 := Ex.trans e0 e1
  walk_at "sl"
  refine forEnum (a := a) (xs := xs.map V.int) (fun i σ H' => ∃ y4 y5 y6 y7 s, σ = [some (.int p), some (.ref a), some (.ref b), some (.ref l), y4, y5, y6, y7] ∧ Ex H H' ∧ H' l = some (.lst (s.map V.int)) ∧ s.length = xs.length + ys.length - 1 ∧ pAll p ys (xs.drop i) i s = pAll p ys xs 0 (List.replicate (xs.length + ys.length - 1) 0))
    (fun Q q => ⟨_, rfl, q⟩) ⟨none, none, none, none, _, rfl, e01, h1, by simp, rfl⟩ (fun i σ H' _ ⟨_, _, _, _, _, _, e, _⟩ => Ex.seq e ha) (fun i x σ H' H2 hi gx hP e2 _ => ?_) (fun σ H' hP => ?_)
  · obtain ⟨y4, y5, y6, y7, s, rfl, eH, hl, hs, hF⟩ := hP
    obtain ⟨rfl, hi⟩ := getD_of gx
    rw [drop_get hi, pAll_cons] at hF
    dsimp only
    refine forEnum (a := b) (xs := ys.map V.int) (fun j σ H' => ∃ y6 y7 s2, σ = [some (.int p), some (.ref a), some (.ref b), some (.ref l), some (.int (i : Nat)), some (.int (xs.getD i 0)), y6, y7] ∧ Ex H H' ∧ H' l = some (.lst (s2.map V.int)) ∧ s2.length = xs.length + ys.length - 1 ∧ pRow p i (xs.getD i 0) (ys.drop j) j s2 = pRow p i (xs.getD i 0) ys 0 s)
      (fun Q q => ⟨_, rfl, q⟩) ⟨y6, y7, s, rfl, Ex.trans eH e2, e2 _ _ hl, hs, rfl⟩ (fun j σ H' _ ⟨_, _, _, _, e, _⟩ => Ex.seq e hb) (fun j y σ H' H3 hj gy hP e3 _ => ?_) (fun σ H' hP => ?_)
    · obtain ⟨z6, z7, s2, rfl, eH2, hl2, hs2, hF2⟩ := hP
      obtain ⟨rfl, hj⟩ := getD_of gy
      rw [drop_get hj, pRow_cons] at hF2
      have hij : i + j < s2.length := by omega
      have eij : (i : Int) + (j : Int) = ((i + j : Nat) : Int) := by omega
      have h3 := e3 _ _ hl2
      refine ⟨_, rfl, _, rfl, _, rfl, _, _, rfl, rfl, l, _, _, _, rfl, rfl, sqL h3, by rw [eij]; exact at_ints hij, ?_⟩
      refine ⟨_, rfl, _, rfl, _, _, rfl, rfl, .inl (cf_mul hp.2 hc (getD_mem hi)), _, _, rfl, rfl, _, rfl, _, _, rfl, rfl, hp.1, ?_⟩
      refine ⟨_, rfl, _, rfl, _, rfl, _, _, rfl, rfl, l, _, _, i + j, rfl, rfl, h3, ixN_of eij (by simpa using hij), ?_⟩
      refine ⟨_, _, _, rfl, Ex.mut (Ex.trans eH2 e3) nl, by rw [upd_same, set_ints], by rw [List.length_set]; exact hs2, hF2⟩
    · obtain ⟨z6, z7, s2, rfl, eH2, hl2, hs2, hF2⟩ := hP
      rw [List.length_map, List.drop_length, pRow_nil] at hF2
      exact ⟨_, _, z6, z7, s2, rfl, eH2, hl2, hs2, by rw [hF2]; exact hF⟩
  · obtain ⟨y4, y5, y6, y7, s, rfl, eH, hl, hs, hF⟩ := hP
    rw [List.length_map, List.drop_length, pAll_nil] at hF
    refine ⟨_, rfl, l, s, rfl, .inl (sqL hl), by omega, fun p2 H2 n2 e2 h2 => ?_⟩
    rw [hF] at h2
    exact q p2 H2 (Ex.back eH n2) (Ex.trans eH e2) h2
/-! ### inverse_of -/
def invP (p f : Int) : Option Int := (((List.range (p - 1).toNat).filter fun (i : Nat) => decide (f * (1 + (i : Int)) % p = 1)).head?).map fun (i : Nat) => 1 + (i : Int)
def sp_inverse_of (K : Fr) : Sp := fun vs H Q _ => ∃ p f g, vs = [.int p, .int f] ∧ (2 ≤ p ∧ p ≤ 7) ∧ (0 ≤ f ∧ f < p) ∧ invP p f = some g ∧ Evl.RetV (.int g) H Q
theorem len_inverse_of (vs : List V) (H : Hp) (Q : VK) (E : XK) (h : sp_inverse_of K vs H Q E) : vs.length = 2 := by obtain ⟨_, _, _, rfl, _⟩ := h; rfl
def t_inverse_of (K : Fr) : TS := (tRet (tOp (rIxL K) (tLc (iRng2 (tCons (tC (.int 1)) (tCons (tVar 0) tNil))) (gName 2) (tTest (tOp rEq (tOp rModI (tOp rMulI (tVar 1) (tVar 2)) (tVar 0)) (tC (.int 1)))) (tVar 2) [2]) (tC (.int 0))))
theorem pure_inverse_of (vs : List V) (H : Hp) (Q : VK) (E : XK) (h : sp_inverse_of K vs H Q E) : t_inverse_of K { nx := fun _ H' => Q .non H', rt := Q } (start ["prime", "figure", "other"] vs) H := by
  obtain ⟨p, f, g, rfl, hp, hf, hg, q⟩ := h
  refine tRetI (tOpI ?_)
  refine lcRng (lo := 1) (hi := p) (fun i => decide (f * (1 + (i : Int)) % p = 1)) (fun i => .int (1 + (i : Int))) (fun Q q => ⟨_, rfl, q⟩) (by omega) (by omega) (fun x => rfl) (fun i hi H1 e1 Q1 q1 => ?_) (fun i hi hb H1 e1 Q1 q1 => ⟨_, rfl, q1 H1 (Ex.refl _)⟩) (fun l H1 nl e1 hl => ?_)
  · refine ⟨_, rfl, _, rfl, _, _, rfl, rfl, .inl (by omega), _, rfl, _, _, rfl, rfl, by omega, rfl, _, rfl, ?_⟩
    have e : decide (V.int (f * (1 + (i : Int)) % p) = V.int 1) = decide (f * (1 + (i : Int)) % p = 1) := by
      by_cases c : f * (1 + (i : Int)) % p = 1
      · rw [decide_eq_true c, c]; rfl
      · rw [decide_eq_false c, decide_eq_false fun z => c (V.int.inj z)]
    rw [e]
    exact q1 H1 (Ex.refl _)
  · unfold invP at hg
    cases e : (List.range (p - 1).toNat).filter fun (i : Nat) => decide (f * (1 + (i : Int)) % p = 1) with
    | nil => rw [e] at hg; cases hg
    | cons i r =>
      rw [e] at hg
      cases hg
      have hl2 : H1 l = some (.lst (.int (1 + (i : Int)) :: r.map fun (i : Nat) => V.int (1 + (i : Int)))) := by
        rw [hl]
        unfold Evl.given
        rw [e]
        rfl
      exact ⟨l, _, 0, _, rfl, rfl, sqL hl2, atI_nat (j := 0) rfl, q H1 e1⟩
/-! ### rest_of -/
def subRow (p f : Int) (st : Nat) : List Int → Nat → List Int → List Int
  | [], _, l => l
  | y :: ys, j, l => subRow p f st ys (j + 1) (l.set (st + j) ((l.getD (st + j) 0 - f * y) % p))
theorem subRow_nil {p f : Int} {st j : Nat} {l : List Int} : subRow p f st [] j l = l := rfl
theorem subRow_cons {p f y : Int} {st j : Nat} {ys l : List Int} : subRow p f st (y :: ys) j l = subRow p f st ys (j + 1) (l.set (st + j) ((l.getD (st + j) 0 - f * y) % p)) := rfl
def restGo (p inv : Int) (other : List Int) : Nat → List Int → List Int
  | 0, l => l
  | n + 1, l => if l.length < other.length then l else restGo p inv other n (wn (subRow p (l.getLastD 0 * inv % p) (l.length - other.length) other 0 l))
def restP (p : Int) (one other : List Int) : List Int := restGo p ((invP p (other.getLastD 0)).getD 0) other one.length one
theorem subRow_len (p f : Int) (st : Nat) : ∀ (ys : List Int) (j : Nat) (l : List Int), (subRow p f st ys j l).length = l.length
  | [], _, _ => rfl
  | y :: ys, j, l => by unfold subRow; rw [subRow_len p f st ys (j + 1)]; simp
theorem wn_len : ∀ l : List Int, (wn l).length ≤ l.length
  | [] => Nat.le_refl _
  | x :: r => by
    have ih := wn_len r
    unfold wn
    cases e : wn r with
    | nil =>
      dsimp only
      split <;> simp
    | cons y s => rw [e] at ih; simp at ih ⊢; exact ih
theorem wn_last0 : ∀ l : List Int, l ≠ [] → l.getLastD 0 = 0 → (wn l).length < l.length
  | [], h, _ => absurd rfl h
  | [x], _, h => by
    simp at h
    subst h
    decide
  | x :: y :: r, _, h => by
    have h2 : (y :: r).getLastD 0 = 0 := by simpa [List.getLastD_cons] using h
    have ih := wn_last0 (y :: r) (by simp) h2
    show (match wn (y :: r) with
      | [] => if x = 0 then [] else [x]
      | z :: s => x :: z :: s).length < _
    cases e : wn (y :: r) with
    | nil => dsimp only; split <;> simp
    | cons z s => rw [e] at ih; simp at ih ⊢; omega
theorem subRow_keep (p f : Int) (st : Nat) : ∀ (ys : List Int) (j k : Nat) (l : List Int), (k < st + j ∨ st + j + ys.length ≤ k) → (subRow p f st ys j l).getD k 0 = l.getD k 0
  | [], _, _, _, _ => rfl
  | y :: ys, j, k, l, h => by
    unfold subRow
    rw [subRow_keep p f st ys (j + 1) k _ (by simp at h; omega)]
    simp only [List.getD_eq_getElem?_getD]
    rw [List.getElem?_set_ne (by simp at h; omega)]
theorem subRow_last (p f : Int) (st : Nat) : ∀ (ys : List Int) (j : Nat) (l : List Int), ys ≠ [] → st + j + ys.length = l.length → (subRow p f st ys j l).getD (l.length - 1) 0 = (l.getD (l.length - 1) 0 - f * ys.getLastD 0) % p
  | [], _, _, h, _ => absurd rfl h
  | [y], j, l, _, h => by
    simp at h
    unfold subRow subRow
    have e : st + j = l.length - 1 := by omega
    rw [e]
    simp only [List.getD_eq_getElem?_getD]
    rw [List.getElem?_set_self (by omega)]
    rfl
  | y :: z :: ys, j, l, _, h => by
    unfold subRow
    have h2 := subRow_last p f st (z :: ys) (j + 1) (l.set (st + j) ((l.getD (st + j) 0 - f * y) % p)) (by simp) (by simp at h ⊢; omega)
    rw [List.length_set] at h2
    rw [h2]
    congr 1
    simp only [List.getD_eq_getElem?_getD]
    rw [List.getElem?_set_ne (by simp at h; omega)]
    simp [List.getLastD_cons]
theorem getLastD_getD {l : List Int} (h : l ≠ []) : l.getLastD 0 = l.getD (l.length - 1) 0 := by
  rw [List.getLastD_eq_getLast?, List.getLast?_eq_getElem?, List.getD_eq_getElem?_getD]
/-- the step takes the last number away -/
theorem sub_shorter {p inv : Int} {other l : List Int} (ho : other ≠ []) (hl : other.length ≤ l.length) (hk : ∀ x : Int, (x - x * inv % p * other.getLastD 0) % p = 0) :
    (wn (subRow p (l.getLastD 0 * inv % p) (l.length - other.length) other 0 l)).length < l.length := by
  have h0 : other.length ≠ 0 := fun e => ho (List.length_eq_zero_iff.mp e)
  have hn : l ≠ [] := fun e => by subst e; simp at hl; exact ho hl
  have hn2 : subRow p (l.getLastD 0 * inv % p) (l.length - other.length) other 0 l ≠ [] := fun e => by
    have := congrArg List.length e
    rw [subRow_len] at this
    exact hn (List.length_eq_zero_iff.mp this)
  have hlast := subRow_last p (l.getLastD 0 * inv % p) (l.length - other.length) other 0 l ho (by omega)
  rw [← getLastD_getD hn, hk] at hlast
  have := wn_last0 _ hn2 (by rw [getLastD_getD hn2, subRow_len]; exact hlast)
  rwa [subRow_len] at this
/-- what the inverse does -/
def InvOk (p last : Int) : Prop := ∃ g, invP p last = some g ∧ ∀ x : Int, (x - x * g % p * last) % p = 0
def sp_rest_of (K : Fr) : Sp := fun vs H Q _ => ∃ p a b xs ys, vs = [.int p, .ref a, .ref b] ∧ SqL K H a (xs.map V.int) ∧ SqL K H b (ys.map V.int) ∧ (2 ≤ p ∧ p ≤ 7) ∧ xs.length ≤ 1000 ∧ ys ≠ [] ∧ ys.length ≤ 1000 ∧ Cf p xs ∧ Cf p ys ∧ InvOk p (ys.getLastD 0) ∧
  Evl.RetL ((restP p xs ys).map V.int) H Q
theorem len_rest_of (vs : List V) (H : Hp) (Q : VK) (E : XK) (h : sp_rest_of K vs H Q E) : vs.length = 3 := by obtain ⟨_, _, _, _, _, rfl, _⟩ := h; rfl
def t_rest_of (K : Fr) : TS := (tSeq (tAsg (tCall (sp_inverse_of K) [] E0 (tCons (tVar 0) (tCons (tOp (rIxL K) (tVar 2) (tUn rNeg (tC (.int 1)))) tNil))) (gName 3)) (tSeq (tAsg (tCB (rListA K) (tCons (tVar 1) tNil)) (gName 4)) (tSeq (tWhile (tTest (tOp rGeI (tCB (rLenA K) (tCons (tVar 4) tNil)) (tCB (rLenA K) (tCons (tVar 2) tNil)))) (tSeq (tAsg (tOp rModI (tOp rMulI (tOp (rIxL K) (tVar 4) (tUn rNeg (tC (.int 1)))) (tVar 3)) (tVar 0)) (gName 5)) (tSeq (tAsg (tOp rSubI (tCB (rLenA K) (tCons (tVar 4) tNil)) (tCB (rLenA K) (tCons (tVar 2) tNil))) (gName 6)) (tSeq (tFor (iEnum K (tCons (tVar 2) tNil)) (gTup K 2 (gCons (gName 7) (gCons (gName 8) gNil))) (tAsg (tOp rModI (tOp rSubI (tOp (rIxL K) (tVar 4) (tOp rAddI (tVar 6) (tVar 7))) (tOp rMulI (tVar 5) (tVar 8))) (tVar 0)) (gSub (tVar 4) (tOp rAddI (tVar 6) (tVar 7)) rSetL))) (tAsg (tCall (sp_without_noughts K) [] E0 (tCons (tVar 4) tNil)) (gName 4)))))) (tRet (tVar 4)))))
theorem cf_set {p : Int} {l : List Int} (hp : 0 < p) (h : Cf p l) (i : Nat) (x : Int) : Cf p (l.set i (x % p)) := fun y hy => by
  rcases List.mem_or_eq_of_mem_set hy with hy | rfl
  · exact h y hy
  · exact ⟨Int.emod_nonneg _ (by omega), Int.emod_lt_of_pos _ hp⟩
theorem cf_wn {p : Int} : ∀ {l : List Int}, Cf p l → Cf p (wn l)
  | [], h => h
  | x :: r, h => by
    have ih := cf_wn (l := r) fun y hy => h y (List.mem_cons_of_mem _ hy)
    have hx := h x List.mem_cons_self
    unfold wn
    cases e : wn r with
    | nil =>
      dsimp only
      split
      · intro y hy; cases hy
      · intro y hy
        rcases List.mem_cons.mp hy with rfl | hy
        · exact hx
        · cases hy
    | cons y s =>
      rw [e] at ih
      intro z hz
      rcases List.mem_cons.mp hz with rfl | hz
      · exact hx
      · exact ih z hz
theorem lastD_mem {l : List Int} (h : l ≠ []) : l.getLastD 0 ∈ l := by
  rw [lastD_eq h]
  exact List.getLast_mem h
theorem pure_rest_of (vs : List V) (H : Hp) (Q : VK) (E : XK) (h : sp_rest_of K vs H Q E) :
    t_rest_of K { nx := fun _ H' => Q .non H', rt := Q } (start ["prime", "one", "other", "inverse", "left", "factor", "start", "at", "figure"] vs) H := by
  obtain ⟨p, a, b, xs, ys, rfl, ha, hb, hp, hx, hn, hy, cx, cy, ⟨g, hg, hk⟩, q⟩ := h
  have hlast := cy _ (lastD_mem hn)
  have hy0 : ys.length ≠ 0 := fun e => hn (List.length_eq_zero_iff.mp e)
  refine ⟨_, rfl, _, rfl, _, rfl, b, _, _, _, rfl, rfl, hb, at_lastI hn, p, _, g, rfl, hp, hlast, hg, fun H0 e0 => ?_⟩
  refine ⟨_, rfl, a, _, rfl, .inl (Ex.seq e0 ha), ?_⟩
  intro l n1; generalize E_ : upd _ l _ = H1; have e1 := genE E_ n1; have h1 := genS E_; clear E_
  have eF : restP p xs ys = restGo p g ys xs.length xs := by unfold restP; rw [hg]; rfl
  refine tSeqI ⟨fun m σ H' => ∃ l s n y5 y6 y7 y8, σ = [some (.int p), some (.ref a), some (.ref b), some (.int g), some (.ref l), y5, y6, y7, y8] ∧ m = s.length ∧ Ex H H' ∧ H l = none ∧ H' l = some (.lst (s.map V.int)) ∧ Cf p s ∧ s.length ≤ n ∧ s.length ≤ 1000 ∧ restGo p g ys n s = restP p xs ys,
    ⟨xs.length, l, xs, xs.length, none, none, none, none, rfl, rfl, Ex.trans e0 e1, Ex.back e0 n1, h1, cx, Nat.le_refl _, hx, eF.symm⟩, ?_⟩
  rintro m σ H' ⟨l, s, n, y5, y6, y7, y8, rfl, rfl, eH, nl, hl, cs, hsn, hs, hF⟩
  refine ⟨_, rfl, l, _, rfl, .inl (sqL hl), _, rfl, b, _, rfl, .inl (Ex.seq eH hb), _, _, rfl, rfl, _, rfl, ?_⟩
  rw [List.length_map, List.length_map]
  by_cases c : (ys.length : Int) ≤ (s.length : Int)
  · rw [decide_eq_true c]
    refine iteT ?_
    have hsl : ys.length ≤ s.length := by omega
    have hsn' : s ≠ [] := fun e => by subst e; simp at hsl; exact hn hsl
    obtain ⟨n', rfl⟩ : ∃ n', n = n' + 1 := ⟨n - 1, by omega⟩
    have short := sub_shorter hn hsl hk
    have hf : -(2 ^ 64) < s.getLastD 0 ∧ s.getLastD 0 < 2 ^ 64 := cf_mul hp.2 cs (lastD_mem hsn')
    refine ⟨fun σ' H2 => ∃ l2 z5 z6 z7 z8, σ' = [some (.int p), some (.ref a), some (.ref b), some (.int g), some (.ref l2), z5, z6, z7, z8] ∧ Ex H H2 ∧ H l2 = none ∧ H2 l2 = some (.lst ((wn (subRow p (s.getLastD 0 * g % p) (s.length - ys.length) ys 0 s)).map V.int)), fun σ' H2 ⟨l2, z5, z6, z7, z8, h1, h2, h3, h4⟩ => ?_, ?_⟩
    · refine ⟨_, short, l2, _, n', z5, z6, z7, z8, h1, rfl, h2, h3, h4, ?_, by omega, by omega, ?_⟩
      · refine cf_wn ?_
        have : ∀ (ys : List Int) (j : Nat) (l : List Int), Cf p l → Cf p (subRow p (s.getLastD 0 * g % p) (s.length - ys.length) ys j l) := by
          intro ys
          generalize s.length - ys.length = st
          induction ys with
          | nil => intro j l h; exact h
          | cons y ys ih => intro j l h; exact ih _ _ (cf_set (by omega) h _ _)
        exact this ys 0 s cs
      · rw [← hF]
        show _ = if s.length < ys.length then s else _
        rw [if_neg (by omega)]
    · refine ⟨_, rfl, _, rfl, l, _, _, _, rfl, rfl, sqL hl, at_lastI hsn', _, rfl, _, _, rfl, rfl, .inl hf, _, rfl, _, _, rfl, rfl, by omega, ?_⟩
      refine ⟨_, rfl, l, _, rfl, .inl (sqL hl), _, rfl, b, _, rfl, .inl (Ex.seq eH hb), _, _, rfl, rfl, ?_⟩
      rw [List.length_map, List.length_map]
      have eS : (s.length : Int) - (ys.length : Int) = ((s.length - ys.length : Nat) : Int) := by omega
      walk_at "sl"
      rw [eS]
      generalize hfa : s.getLastD 0 * g % p = f
      have hfp : 0 ≤ f ∧ f < p := hfa ▸ ⟨Int.emod_nonneg _ (by omega), Int.emod_lt_of_pos _ (by omega)⟩
      refine forEnum (a := b) (xs := ys.map V.int) (fun j σ H2 => ∃ z7 z8 s2, σ = [some (.int p), some (.ref a), some (.ref b), some (.int g), some (.ref l), some (.int f), some (.int ((s.length - ys.length : Nat) : Int)), z7, z8] ∧ Ex H H2 ∧ H2 l = some (.lst (s2.map V.int)) ∧ s2.length = s.length ∧ subRow p f (s.length - ys.length) (ys.drop j) j s2 = subRow p f (s.length - ys.length) ys 0 s)
        (fun Q q => ⟨_, rfl, q⟩) ⟨y7, y8, s, rfl, eH, hl, rfl, rfl⟩ (fun j σ H' _ ⟨_, _, _, _, e, _⟩ => Ex.seq e hb) (fun j y σ H2 H3 hj gy hP e3 _ => ?_) (fun σ H2 hP => ?_)
      · obtain ⟨z7, z8, s2, rfl, eH2, hl2, hs2, hF2⟩ := hP
        obtain ⟨rfl, hj⟩ := getD_of gy
        rw [drop_get hj, subRow_cons] at hF2
        have hij : s.length - ys.length + j < s2.length := by omega
        have eij : ((s.length - ys.length : Nat) : Int) + (j : Int) = ((s.length - ys.length + j : Nat) : Int) := by omega
        have h3 := e3 _ _ hl2
        refine ⟨_, rfl, _, rfl, _, rfl, _, _, rfl, rfl, l, _, _, _, rfl, rfl, sqL h3, by rw [eij]; exact at_ints hij, ?_⟩
        refine ⟨_, rfl, _, rfl, _, _, rfl, rfl, .inl (by omega), _, _, rfl, rfl, _, rfl, _, _, rfl, rfl, by omega, ?_⟩
        refine ⟨_, rfl, _, rfl, _, rfl, _, _, rfl, rfl, l, _, _, s.length - ys.length + j, rfl, rfl, h3, ixN_of eij (by simpa using hij), ?_⟩
        exact ⟨_, _, _, rfl, Ex.mut (Ex.trans eH2 e3) nl, by rw [upd_same, set_ints], by rw [List.length_set]; exact hs2, hF2⟩
      · obtain ⟨z7, z8, s2, rfl, eH2, hl2, hs2, hF2⟩ := hP
        rw [List.length_map, List.drop_length, subRow_nil] at hF2
        refine ⟨_, rfl, l, s2, rfl, .inl (sqL hl2), by omega, fun p2 H3 n3 e3 h3 => ?_⟩
        rw [hF2] at h3
        exact ⟨p2, _, _, _, _, rfl, Ex.trans eH2 e3, Ex.back eH2 n3, h3⟩
  · rw [decide_eq_false c]
    refine iteF ⟨_, rfl, ?_⟩
    have e : restP p xs ys = s := by
      rw [← hF]
      cases n with
      | zero => rfl
      | succ n => show (if s.length < ys.length then s else _) = s; rw [if_pos (by omega)]
    exact q l H' nl eH (by rw [e]; exact hl)

end TP
/-! PFc -/
set_option maxHeartbeats 4000000
namespace TP
open PySem PySem.Spec PyProof.Rows L2
local macro_rules | `(tactic| walk_at "s1") => `(tactic| first | refine ⟨_, rfl, ?_⟩ | refine ⟨_, _, rfl, rfl, ?_⟩ | refine ⟨rfl, ?_⟩ | refine iteT ?_ | refine iteF ?_)
local macro_rules | `(tactic| walk_at "st") => `(tactic| (repeat (walk_at "s1")))
local macro_rules | `(tactic| walk_at "sq") => `(tactic| first | assumption | exact sqL (by assumption) | exact sqT (by assumption) | (refine Ex.seq (by assumption) ?_; walk_at "sq") | (refine Ex.tup (by assumption) ?_; walk_at "sq"))
local macro_rules | `(tactic| walk_at "at") => `(tactic| first | assumption | (refine (show Ex _ _ by assumption) _ _ ?_; walk_at "at"))
local macro_rules | `(tactic| walk_at "sl") => `(tactic| ((try dsimp only); refine tSeqI ?_; (try dsimp only)))

variable {K : Fr}
/-! ### inverses are there -/
def Prm (p : Int) : Prop := p = 2 ∨ p = 3 ∨ p = 5 ∨ p = 7
theorem Prm.le {p : Int} (h : Prm p) : 2 ≤ p ∧ p ≤ 7 := by unfold Prm at h; omega
theorem inv_there {p f : Int} (hp : Prm p) (h0 : 0 < f) (h1 : f < p) : ∃ g, invP p f = some g ∧ f * g % p = 1 := by
  unfold Prm at hp
  have : (p = 2 ∧ f = 1) ∨ (p = 3 ∧ (f = 1 ∨ f = 2)) ∨ (p = 5 ∧ (f = 1 ∨ f = 2 ∨ f = 3 ∨ f = 4)) ∨ (p = 7 ∧ (f = 1 ∨ f = 2 ∨ f = 3 ∨ f = 4 ∨ f = 5 ∨ f = 6)) := by omega
  rcases this with ⟨rfl, rfl⟩ | ⟨rfl, rfl | rfl⟩ | ⟨rfl, rfl | rfl | rfl | rfl⟩ | ⟨rfl, rfl | rfl | rfl | rfl | rfl | rfl⟩
  · exact ⟨1, by decide, by decide⟩
  · exact ⟨1, by decide, by decide⟩
  · exact ⟨2, by decide, by decide⟩
  · exact ⟨1, by decide, by decide⟩
  · exact ⟨3, by decide, by decide⟩
  · exact ⟨2, by decide, by decide⟩
  · exact ⟨4, by decide, by decide⟩
  · exact ⟨1, by decide, by decide⟩
  · exact ⟨4, by decide, by decide⟩
  · exact ⟨5, by decide, by decide⟩
  · exact ⟨2, by decide, by decide⟩
  · exact ⟨3, by decide, by decide⟩
  · exact ⟨6, by decide, by decide⟩
theorem inv_ok {p f : Int} (hp : Prm p) (h0 : 0 < f) (h1 : f < p) : InvOk p f := by
  obtain ⟨g, e, hg⟩ := inv_there hp h0 h1
  refine ⟨g, e, fun x => ?_⟩
  have h2 := Int.mul_ediv_add_emod (x * g) p
  have h3 := Int.mul_ediv_add_emod (f * g) p
  rw [hg] at h3
  generalize x * g / p = k at h2
  generalize f * g / p = m at h3
  have h4 : x * g % p = x * g - p * k := by omega
  rw [h4]
  have h5 : x - (x * g - p * k) * f = p * (k * f - x * m) := by
    have : x * g * f = x * (p * m + 1) := by rw [h3, Int.mul_assoc, Int.mul_comm g f]
    rw [Int.sub_mul, this, Int.mul_sub, Int.mul_add, Int.mul_assoc p k f, Int.mul_one]
    have e2 : x * (p * m) = p * (x * m) := by rw [Int.mul_left_comm]
    rw [e2]
    omega
  rw [h5]
  exact Int.mul_emod_right ..
/-! ### lengths, figures, heads -/
def Told (l : List Int) : Prop := l = [] ∨ l.getLastD 0 ≠ 0
theorem wn_told : ∀ l : List Int, Told (wn l)
  | [] => .inl rfl
  | x :: r => by
    have ih := wn_told r
    unfold wn
    cases e : wn r with
    | nil =>
      dsimp only
      split
      · exact .inl rfl
      · rename_i h; exact .inr h
    | cons y s =>
      rw [e] at ih
      rcases ih with ih | ih
      · cases ih
      · refine .inr ?_
        dsimp only
        rw [List.getLastD_cons, List.getLastD_cons]
        rw [List.getLastD_cons] at ih
        exact ih
theorem told_inv {p : Int} {l : List Int} (hp : Prm p) (hc : Cf p l) (ht : Told l) (hn : l ≠ []) : InvOk p (l.getLastD 0) := by
  have h1 := hc _ (lastD_mem hn)
  have h2 : l.getLastD 0 ≠ 0 := ht.resolve_left hn
  exact inv_ok hp (by omega) h1.2
theorem restGo_len {p g : Int} {other : List Int} (ho : other ≠ []) (hk : ∀ x : Int, (x - x * g % p * other.getLastD 0) % p = 0) : ∀ (n : Nat) (l : List Int), l.length ≤ n → (restGo p g other n l).length < other.length ∧ ((restGo p g other n l) = l ∨ Told (restGo p g other n l))
  | 0, l, h => by
    have : other.length ≠ 0 := fun e => ho (List.length_eq_zero_iff.mp e)
    have h2 : l.length = 0 := by omega
    refine ⟨?_, .inl rfl⟩
    show l.length < _
    omega
  | n + 1, l, h => by
    unfold restGo
    split
    · rename_i c; exact ⟨c, .inl rfl⟩
    · rename_i c
      have s := sub_shorter (p := p) (inv := g) (other := other) (l := l) ho (by omega) hk
      have ih := restGo_len ho hk n _ (show (wn (subRow p (l.getLastD 0 * g % p) (l.length - other.length) other 0 l)).length ≤ n by omega)
      refine ⟨ih.1, .inr ?_⟩
      rcases ih.2 with e | e
      · rw [e]; exact wn_told _
      · exact e
theorem cf_subRow {p : Int} (hp : 0 < p) (f : Int) (st : Nat) : ∀ (ys : List Int) (j : Nat) (l : List Int), Cf p l → Cf p (subRow p f st ys j l)
  | [], _, _, h => h
  | y :: ys, j, l, h => by rw [subRow_cons]; exact cf_subRow hp f st ys _ _ (cf_set hp h _ _)
theorem cf_restGo {p g : Int} (hp : 0 < p) {other : List Int} : ∀ (n : Nat) (l : List Int), Cf p l → Cf p (restGo p g other n l)
  | 0, _, h => h
  | n + 1, l, h => by
    unfold restGo
    split
    · exact h
    · exact cf_restGo hp n _ (cf_wn (cf_subRow hp _ _ _ _ _ h))
theorem restP_facts {p : Int} {one other : List Int} (hp : 0 < p) (ho : other ≠ []) (hi : InvOk p (other.getLastD 0)) (hc : Cf p one) : (restP p one other).length < other.length ∧ Cf p (restP p one other) ∧ (Told one → Told (restP p one other)) := by
  obtain ⟨g, e, hk⟩ := hi
  unfold restP
  rw [e]
  have h := restGo_len (p := p) (g := g) ho hk one.length one (Nat.le_refl _)
  refine ⟨h.1, cf_restGo hp _ _ hc, fun ht => ?_⟩
  rcases h.2 with h | h
  · show Told (restGo p g other one.length one); rw [h]; exact ht
  · exact h
theorem cf_pRow {p : Int} (hp : 0 < p) (i : Nat) (x : Int) : ∀ (ys : List Int) (j : Nat) (s : List Int), Cf p s → Cf p (pRow p i x ys j s)
  | [], _, _, h => h
  | y :: ys, j, s, h => by rw [pRow_cons]; exact cf_pRow hp i x ys _ _ (cf_set hp h _ _)
theorem cf_pAll {p : Int} (hp : 0 < p) (ys : List Int) : ∀ (xs : List Int) (i : Nat) (s : List Int), Cf p s → Cf p (pAll p ys xs i s)
  | [], _, _, h => h
  | x :: xs, i, s, h => by rw [pAll_cons]; exact cf_pAll hp ys xs _ _ (cf_pRow hp _ _ _ _ _ h)
theorem pAll_len (p : Int) (ys : List Int) : ∀ (xs : List Int) (i : Nat) (s : List Int), (pAll p ys xs i s).length = s.length
  | [], _, _ => rfl
  | x :: xs, i, s => by rw [pAll_cons, pAll_len p ys xs, pRow_len]
theorem cf_zeros {p : Int} (hp : 0 < p) (n : Nat) : Cf p (List.replicate n 0) := fun x hx => by
  rw [(List.mem_replicate.mp hx).2]; omega
theorem prodP_facts {p : Int} (hp : 0 < p) (xs ys : List Int) : Cf p (prodP p xs ys) ∧ (prodP p xs ys).length ≤ xs.length + ys.length ∧ Told (prodP p xs ys) := by
  refine ⟨cf_wn (cf_pAll hp _ _ _ _ (cf_zeros hp _)), ?_, wn_told _⟩
  have h := wn_len (pAll p ys xs 0 (List.replicate (xs.length + ys.length - 1) 0))
  rw [pAll_len, List.length_replicate] at h
  unfold prodP
  omega
/-! ### common_of -/
def comGo (p : Int) : Nat → List Int → List Int → List Int
  | 0, a, _ => a
  | n + 1, a, b => if b = [] then a else comGo p n b (restP p a b)
def commonP (p : Int) (a b : List Int) : List Int := comGo p (b.length + 1) a b
/-- a list, new or not -/
def RetS (K : Fr) (xs : List V) (H : Hp) (Q : VK) : Prop := ∀ p H2, Ex H H2 → SqL K H2 p xs → Q (.ref p) H2
def sp_common_of (K : Fr) : Sp := fun vs H Q _ => ∃ p a b xs ys, vs = [.int p, .ref a, .ref b] ∧ SqL K H a (xs.map V.int) ∧ SqL K H b (ys.map V.int) ∧ Prm p ∧ xs.length ≤ 1000 ∧ ys.length ≤ 1000 ∧ Cf p xs ∧ Cf p ys ∧ Told xs ∧ Told ys ∧ RetS K ((commonP p xs ys).map V.int) H Q
theorem len_common_of (vs : List V) (H : Hp) (Q : VK) (E : XK) (h : sp_common_of K vs H Q E) : vs.length = 3 := by obtain ⟨_, _, _, _, _, rfl, _⟩ := h; rfl
def t_common_of (K : Fr) : TS := (tSeq (tWhile (tTest (tOp (rNeD K) (tVar 2) (tLst tNil))) (tPar 1 2 (tCons (tVar 2) (tCons (tCall (sp_rest_of K) [] E0 (tCons (tVar 0) (tCons (tVar 1) (tCons (tVar 2) tNil)))) tNil)))) (tRet (tVar 1)))
theorem pure_common_of (vs : List V) (H : Hp) (Q : VK) (E : XK) (h : sp_common_of K vs H Q E) : t_common_of K { nx := fun _ H' => Q .non H', rt := Q } (start ["prime", "one", "other"] vs) H := by
  obtain ⟨p, a, b, xs, ys, rfl, ha, hb, hp, hx, hy, cx, cy, tx, ty, q⟩ := h
  have hpl := hp.le
  refine tSeqI ⟨fun m σ H' => ∃ a b s t n, σ = [some (.int p), some (.ref a), some (.ref b)] ∧ m = t.length ∧ Ex H H' ∧ SqL K H' a (s.map V.int) ∧ SqL K H' b (t.map V.int) ∧ s.length ≤ 1000 ∧ t.length ≤ 1000 ∧ Cf p s ∧ Cf p t ∧ Told s ∧ Told t ∧ t.length < n ∧ comGo p n s t = commonP p xs ys,
    ⟨_, a, b, xs, ys, ys.length + 1, rfl, rfl, Ex.refl _, ha, hb, hx, hy, cx, cy, tx, ty, by omega, rfl⟩, ?_⟩
  rintro m σ H' ⟨a, b, s, t, n, rfl, rfl, eH, ha, hb, hs, ht, cs, ct, ts, tt, hn, hF⟩
  obtain ⟨n, rfl⟩ : ∃ n', n = n' + 1 := ⟨n - 1, by omega⟩
  refine ⟨_, rfl, Nat.zero_le _, ?_⟩
  intro l n1; generalize E_ : upd _ l _ = H1; have e1 := genE E_ n1; have h1 := genS E_; clear E_
  refine ⟨dI t, dI [], dp_ints (Ex.seq e1 hb), dp_ints (sqL h1), shaped_ints _, shaped_ints _, _, rfl, ?_⟩
  rw [eqv_ints]
  by_cases c : t = []
  · rw [decide_eq_true c]
    refine iteF ⟨_, rfl, ?_⟩
    have e : commonP p xs ys = s := by rw [← hF]; show (if t = [] then s else _) = s; rw [if_pos c]
    exact q a H1 (Ex.trans eH e1) (by rw [e]; exact Ex.seq e1 ha)
  · rw [decide_eq_false c]
    refine iteT ?_
    have hi := told_inv hp ct tt c
    have f := restP_facts (by omega) c hi cs
    refine ⟨fun σ' H2 => ∃ l2, σ' = [some (.int p), some (.ref b), some (.ref l2)] ∧ Ex H1 H2 ∧ H2 l2 = some (.lst ((restP p s t).map V.int)), fun σ' H2 ⟨l2, h1, h2, h3⟩ => ⟨_, f.1, b, l2, t, restP p s t, n, h1, rfl, Ex.trans (Ex.trans eH e1) h2, Ex.seq h2 (Ex.seq e1 hb), sqL h3, ht, by omega, ct, f.2.1, tt, f.2.2 ts, by omega, ?_⟩, ?_⟩
    · rw [← hF]; show _ = (if t = [] then s else _); rw [if_neg c]
    · refine ⟨_, rfl, _, rfl, _, rfl, _, rfl, p, a, b, s, t, rfl, Ex.seq e1 ha, Ex.seq e1 hb, hpl, hs, c, ht, cs, ct, hi, fun l2 H2 n2 e2 h2 => ?_⟩
      exact ⟨_, _, rfl, l2, rfl, e2, h2⟩
/-! ### power_rest -/
def prGo (p : Int) (one md : List Int) : Nat → List Int → List Int
  | 0, f => f
  | n + 1, f => prGo p one md n (restP p (prodP p f one) md)
def powRest (p : Int) (one : List Int) (many : Nat) (md : List Int) : List Int := prGo p one md many (restP p [1] md)
def sp_power_rest (K : Fr) : Sp := fun vs H Q _ => ∃ p a b xs ys, ∃ n : Nat, vs = [.int p, .ref a, .int n, .ref b] ∧ SqL K H a (xs.map V.int) ∧ SqL K H b (ys.map V.int) ∧ Prm p ∧ xs.length ≤ 100 ∧ ys ≠ [] ∧ ys.length ≤ 100 ∧ n ≤ 1000 ∧ Cf p xs ∧ Cf p ys ∧ Told ys ∧
  Evl.RetL ((powRest p xs n ys).map V.int) H Q
theorem len_power_rest (vs : List V) (H : Hp) (Q : VK) (E : XK) (h : sp_power_rest K vs H Q E) : vs.length = 4 := by obtain ⟨_, _, _, _, _, _, rfl, _⟩ := h; rfl
def t_power_rest (K : Fr) : TS := (tSeq (tAsg (tCall (sp_rest_of K) [] E0 (tCons (tVar 0) (tCons (tLst (tCons (tC (.int 1)) tNil)) (tCons (tVar 3) tNil)))) (gName 4)) (tSeq (tFor (iRng1 (tCons (tVar 2) tNil)) (gName 5) (tAsg (tCall (sp_rest_of K) [] E0 (tCons (tVar 0) (tCons (tCall (sp_product_of K) [] E0 (tCons (tVar 0) (tCons (tVar 4) (tCons (tVar 1) tNil)))) (tCons (tVar 3) tNil)))) (gName 4))) (tRet (tVar 4))))
theorem cf_one {p : Int} (h : 2 ≤ p) : Cf p [1] := fun x hx => by
  rcases List.mem_cons.mp hx with rfl | hx
  · omega
  · cases hx
theorem pure_power_rest (vs : List V) (H : Hp) (Q : VK) (E : XK) (h : sp_power_rest K vs H Q E) : t_power_rest K { nx := fun _ H' => Q .non H', rt := Q } (start ["prime", "one", "many", "modulus", "found", "_"] vs) H := by
  obtain ⟨p, a, b, xs, ys, n, rfl, ha, hb, hp, hx, hn, hy, hz, cx, cy, ty, q⟩ := h
  have hpl := hp.le
  have hi := told_inv hp cy ty hn
  have f0 := restP_facts (p := p) (one := [1]) (by omega) hn hi (cf_one (by omega))
  refine ⟨_, rfl, by decide, ?_⟩
  intro l0 n0; generalize E_ : upd _ l0 _ = H0; have e0 := genE E_ n0; have h0 := genS E_; clear E_
  refine ⟨_, rfl, p, l0, b, [1], ys, rfl, sqL h0, Ex.seq e0 hb, hpl, by decide, hn, by omega, cf_one (by omega), cy, hi, fun l H1 n1 e1 h1 => ?_⟩
  walk_at "sl"
  refine forR1 (n := (n : Int)) (fun i σ H' => ∃ l y5 s, σ = [some (.int p), some (.ref a), some (.int n), some (.ref b), some (.ref l), y5] ∧ Ex H H' ∧ H l = none ∧ H' l = some (.lst (s.map V.int)) ∧ s.length < ys.length ∧ Cf p s ∧ prGo p xs ys (n - i) s = powRest p xs n ys)
    (fun Q q => ⟨_, rfl, q⟩) (by omega) ⟨l, none, _, rfl, Ex.trans e0 e1, Ex.back e0 n1, h1, f0.1, f0.2.1, rfl⟩ (fun i σ H' hi' hP => ?_) (fun σ H' hP => ?_)
  · obtain ⟨l, y5, s, rfl, eH, nl, hl, hs, cs, hF⟩ := hP
    have g := prodP_facts (p := p) (by omega) s xs
    have f := restP_facts (p := p) (by omega) hn hi g.1
    refine ⟨_, rfl, _, rfl, _, rfl, _, rfl, p, l, a, s, xs, rfl, sqL hl, Ex.seq eH ha, by omega, by omega, by omega, cs, fun l2 H2 n2 e2 h2 => ?_⟩
    refine ⟨_, rfl, p, l2, b, _, ys, rfl, sqL h2, Ex.seq e2 (Ex.seq eH hb), hpl, by omega, hn, by omega, g.1, cy, hi, fun l3 H3 n3 e3 h3 => ?_⟩
    refine ⟨l3, _, _, rfl, Ex.trans eH (Ex.trans e2 e3), Ex.back eH (Ex.back e2 n3), h3, f.1, f.2.1, ?_⟩
    rw [← hF]
    have : n - i = (n - (i + 1)) + 1 := by omega
    rw [this]
    rfl
  · obtain ⟨l, y5, s, rfl, eH, nl, hl, hs, cs, hF⟩ := hP
    have e : n - (n : Int).toNat = 0 := by omega
    rw [e] at hF
    refine ⟨_, rfl, q l H' nl eH ?_⟩
    rw [← hF]
    exact hl
/-! ### less_x -/
def lessX (p : Int) (one : List Int) : List Int := wn ((one ++ List.replicate (2 - one.length) 0).set 1 (((one ++ List.replicate (2 - one.length) 0).getD 1 0 - 1) % p))
def sp_less_x (K : Fr) : Sp := fun vs H Q _ => ∃ p a xs, vs = [.int p, .ref a] ∧ H a = some (.lst (xs.map V.int)) ∧ Prm p ∧ xs.length ≤ 1000 ∧ Evl.RetL ((lessX p xs).map V.int) H Q
theorem len_less_x (vs : List V) (H : Hp) (Q : VK) (E : XK) (h : sp_less_x K vs H Q E) : vs.length = 2 := by obtain ⟨_, _, _, rfl, _⟩ := h; rfl
def t_less_x (K : Fr) : TS := (tSeq (tAsg (tOp rCat (tVar 1) (tOp rRep (tLst (tCons (tC (.int 0)) tNil)) (tOp rSubI (tC (.int 2)) (tCB (rLenA K) (tCons (tVar 1) tNil))))) (gName 2)) (tSeq (tAsg (tOp rModI (tOp rSubI (tOp (rIxL K) (tVar 2) (tC (.int 1))) (tC (.int 1))) (tVar 0)) (gSub (tVar 2) (tC (.int 1)) rSetL)) (tRet (tCall (sp_without_noughts K) [] E0 (tCons (tVar 2) tNil)))))
theorem pure_less_x (vs : List V) (H : Hp) (Q : VK) (E : XK) (h : sp_less_x K vs H Q E) : t_less_x K { nx := fun _ H' => Q .non H', rt := Q } (start ["prime", "one", "row"] vs) H := by
  obtain ⟨p, a, xs, rfl, ha, hp, hx, q⟩ := h
  have hpl := hp.le
  refine ⟨_, rfl, by decide, ?_⟩
  intro l0 n0; generalize E_ : upd _ l0 _ = H0; have e0 := genE E_ n0; have h0 := genS E_; clear E_
  refine ⟨_, rfl, a, _, rfl, .inl (sqL (e0 _ _ ha)), _, _, rfl, rfl, l0, _, _, rfl, rfl, h0, by rw [List.length_map]; omega, by omega, small_sz (by simp; omega), ?_⟩
  rw [List.length_map]
  have eK : ((2 : Int) - (xs.length : Int)).toNat = 2 - xs.length := by omega
  rw [eK, rep_ints]
  intro l1 n1; generalize E_ : upd _ l1 _ = H1; have e1 := genE E_ n1; have h1 := genS E_; clear E_
  refine ⟨a, l1, _, _, rfl, rfl, e1 _ _ (e0 _ _ ha), h1, small_sz (by simp; omega), ?_⟩
  rw [← List.map_append]
  intro l n2; generalize E_ : upd _ l _ = H2; have e2 := genE E_ n2; have h2 := genS E_; clear E_
  have hl : 1 < (xs ++ List.replicate (2 - xs.length) 0).length := by simp; omega
  generalize hrow : xs ++ List.replicate (2 - xs.length) 0 = row at h2 hl
  have nl : H l = none := Ex.back e0 (Ex.back e1 n2)
  refine ⟨_, rfl, l, _, _, _, rfl, rfl, sqL h2, at_ints (j := 1) hl, _, _, rfl, rfl, _, rfl, _, _, rfl, rfl, by omega, ?_⟩
  refine ⟨_, rfl, l, _, _, 1, rfl, rfl, h2, ixN_of rfl (by simpa using hl), ?_⟩
  have e02 : Ex H (upd H2 l (.lst ((row.map V.int).set 1 (.int ((row.getD 1 0 - 1) % p))))) := Ex.mut (Ex.trans e0 (Ex.trans e1 e2)) nl
  have hl2 : (upd H2 l (.lst ((row.map V.int).set 1 (.int ((row.getD 1 0 - 1) % p))))) l = some (.lst ((row.set 1 ((row.getD 1 0 - 1) % p)).map V.int)) := by rw [upd_same, set_ints]
  have e2 : lessX p xs = wn (row.set 1 ((row.getD 1 0 - 1) % p)) := by rw [← hrow]; rfl
  have hlen : row.length ≤ 2000 := by rw [← hrow]; simp; omega
  exact ⟨_, rfl, l, _, rfl, .inl (sqL hl2), by rw [List.length_set]; omega, fun p2 H3 n3 e3 h3 => q p2 H3 (Ex.back e02 n3) (Ex.trans e02 e3) (by rw [e2]; exact h3)⟩
theorem lessX_facts {p : Int} (hp : 0 < p) {xs : List Int} (h : Cf p xs) : Cf p (lessX p xs) ∧ Told (lessX p xs) ∧ (lessX p xs).length ≤ xs.length + 2 := by
  refine ⟨cf_wn (cf_set hp ?_ _ _), wn_told _, ?_⟩
  · intro x hx
    rcases List.mem_append.mp hx with hx | hx
    · exact h x hx
    · exact cf_zeros hp _ x hx
  · have := wn_len ((xs ++ List.replicate (2 - xs.length) 0).set 1 (((xs ++ List.replicate (2 - xs.length) 0).getD 1 0 - 1) % p))
    rw [List.length_set, List.length_append, List.length_replicate] at this
    unfold lessX
    omega
/-! ### cannot_be_parted -/
def cbGo (p : Int) (md : List Int) : Nat → List Int → Bool
  | 0, _ => true
  | n + 1, t => if 1 < (commonP p md (lessX p (powRest p t p.toNat md))).length then false else cbGo p md n (powRest p t p.toNat md)
def noPart (p : Int) (md : List Int) : Bool := cbGo p md ((md.length - 1) / 2) [0, 1]
def sp_cannot_be_parted (K : Fr) : Sp := fun vs H Q _ => ∃ p a xs, vs = [.int p, .ref a] ∧ SqL K H a (xs.map V.int) ∧ Prm p ∧ 3 ≤ xs.length ∧ xs.length ≤ 100 ∧ Cf p xs ∧ Told xs ∧ Evl.RetV (.bl (noPart p xs)) H Q
theorem len_cannot_be_parted (vs : List V) (H : Hp) (Q : VK) (E : XK) (h : sp_cannot_be_parted K vs H Q E) : vs.length = 2 := by obtain ⟨_, _, _, rfl, _⟩ := h; rfl
def t_cannot_be_parted (K : Fr) : TS := (tSeq (tAsg (tLst (tCons (tC (.int 0)) (tCons (tC (.int 1)) tNil))) (gName 2)) (tSeq (tFor (iRng1 (tCons (tOp rFdivI (tOp rSubI (tCB (rLenA K) (tCons (tVar 1) tNil)) (tC (.int 1))) (tC (.int 2))) tNil)) (gName 3) (tSeq (tAsg (tCall (sp_power_rest K) [] E0 (tCons (tVar 0) (tCons (tVar 2) (tCons (tVar 0) (tCons (tVar 1) tNil))))) (gName 2)) (tIfS (tTest (tOp rGtI (tCB (rLenA K) (tCons (tCall (sp_common_of K) [] E0 (tCons (tVar 0) (tCons (tVar 1) (tCons (tCall (sp_less_x K) [] E0 (tCons (tVar 0) (tCons (tVar 2) tNil))) tNil)))) tNil)) (tC (.int 1)))) (tRet (tC (.bl false))) tNext))) (tRet (tC (.bl true)))))
theorem prGo_facts {p : Int} (hp : 0 < p) {md : List Int} (hn : md ≠ []) (hi : InvOk p (md.getLastD 0)) (one : List Int) : ∀ (n : Nat) (f : List Int), f.length < md.length ∧ Cf p f → (prGo p one md n f).length < md.length ∧ Cf p (prGo p one md n f)
  | 0, _, h => h
  | n + 1, f, h => by
    have g := prodP_facts hp f one
    have r := restP_facts hp hn hi g.1
    exact prGo_facts hp hn hi one n _ ⟨r.1, r.2.1⟩
theorem pure_cannot_be_parted (vs : List V) (H : Hp) (Q : VK) (E : XK) (h : sp_cannot_be_parted K vs H Q E) : t_cannot_be_parted K { nx := fun _ H' => Q .non H', rt := Q } (start ["prime", "modulus", "turned", "_"] vs) H := by
  obtain ⟨p, a, xs, rfl, ha, hp, h3, hx, cx, tx, q⟩ := h
  have hpl := hp.le
  have hn : xs ≠ [] := fun e => by subst e; simp at h3
  have hi := told_inv hp cx tx hn
  refine ⟨by decide, ?_⟩
  intro l0 n0; generalize E_ : upd _ l0 _ = H0; have e0 := genE E_ n0; have h0 := genS E_; clear E_
  walk_at "sl"
  have h0' : H0 l0 = some (.lst (([0, 1] : List Int).map V.int)) := h0
  have cz : Cf p [0, 1] := fun x hx => by
    rcases List.mem_cons.mp hx with rfl | hx
    · omega
    · rcases List.mem_cons.mp hx with rfl | hx
      · omega
      · cases hx
  refine forR1 (n := ((xs.length : Int) - 1) / 2) (fun i σ H' => ∃ l y3 t, σ = [some (.int p), some (.ref a), some (.ref l), y3] ∧ Ex H H' ∧ H' l = some (.lst (t.map V.int)) ∧ t.length < xs.length ∧ Cf p t ∧ cbGo p xs ((xs.length - 1) / 2 - i) t = noPart p xs)
    (fun Q q => ⟨_, rfl, a, _, rfl, .inl (Ex.seq e0 ha), _, _, rfl, rfl, _, _, rfl, rfl, ⟨by decide, by decide⟩, by rw [List.length_map]; exact q⟩) (by omega) ⟨l0, none, [0, 1], rfl, e0, h0', by show 2 < _; omega, cz, rfl⟩ (fun i σ H' hi' hP => ?_) (fun σ H' hP => ?_)
  · obtain ⟨l, y3, t, rfl, eH, hl, hs, ct, hF⟩ := hP
    have f0 := restP_facts (p := p) (one := [1]) (by omega) hn hi (cf_one (by omega))
    have g : (powRest p t p.toNat xs).length < xs.length ∧ Cf p (powRest p t p.toNat xs) := prGo_facts (by omega) hn hi t _ _ ⟨f0.1, f0.2.1⟩
    have hlx := lessX_facts (p := p) (by omega) g.2
    refine ⟨_, rfl, _, rfl, _, rfl, _, rfl, p, l, a, t, xs, p.toNat, ?_, sqL hl, Ex.seq eH ha, hp, by omega, hn, hx, by omega, ct, cx, tx, fun l2 H2 n2 e2 h2 => ?_⟩
    · have : ((p.toNat : Nat) : Int) = p := by omega
      rw [this]; rfl
    refine ⟨_, rfl, _, rfl, _, rfl, _, rfl, p, l2, _, rfl, h2, hp, by omega, fun l4 H4 n4 e4 h4 => ?_⟩
    refine ⟨p, a, l4, xs, _, rfl, Ex.seq e4 (Ex.seq e2 (Ex.seq eH ha)), sqL h4, hp, by omega, by omega, cx, hlx.1, tx, hlx.2.1, fun l5 H5 e5 h5 => ?_⟩
    refine ⟨l5, _, rfl, .inl h5, _, _, rfl, rfl, _, rfl, ?_⟩
    rw [List.length_map]
    have en : (xs.length - 1) / 2 - i = ((xs.length - 1) / 2 - (i + 1)) + 1 := by omega
    rw [en] at hF
    have eU : cbGo p xs (((xs.length - 1) / 2 - (i + 1)) + 1) t = if 1 < (commonP p xs (lessX p (powRest p t p.toNat xs))).length then false else cbGo p xs ((xs.length - 1) / 2 - (i + 1)) (powRest p t p.toNat xs) := rfl
    rw [eU] at hF
    by_cases c : 1 < (commonP p xs (lessX p (powRest p t p.toNat xs))).length
    · rw [decide_eq_true (by omega)]
      rw [if_pos c] at hF
      refine iteT ?_
      have := q H5 (Ex.trans eH (Ex.trans e2 (Ex.trans e4 e5)))
      rw [← hF] at this
      exact this
    · rw [decide_eq_false (by omega)]
      rw [if_neg c] at hF
      exact iteF ⟨l2, _, _, rfl, Ex.trans eH (Ex.trans e2 (Ex.trans e4 e5)), e5 _ _ (e4 _ _ h2), g.1, g.2, hF⟩
  · obtain ⟨l, y3, t, rfl, eH, hl, hs, ct, hF⟩ := hP
    have e : (xs.length - 1) / 2 - (((xs.length : Int) - 1) / 2).toNat = 0 := by omega
    rw [e] at hF
    have := q H' eH
    rw [← hF] at this
    exact this
/-! ### check_prime, is_modulus -/
def PrimesOk (K : Fr) : Prop := ∀ H, SqT K H (He.ga K "PRIMES") [.int 2, .int 3, .int 5, .int 7]
def sp_check_prime (K : Fr) : Sp := fun vs H Q _ => ∃ p, vs = [.int p] ∧ Prm p ∧ Evl.RetV .non H Q
theorem len_check_prime (vs : List V) (H : Hp) (Q : VK) (E : XK) (h : sp_check_prime K vs H Q E) : vs.length = 1 := by obtain ⟨_, rfl, _⟩ := h; rfl
def t_check_prime (K : Fr) : TS := (tIfS (tOr (tNot (tB (tCall (sp_is_integer K) [] E0 (tCons (tVar 0) tNil)))) (tTest (tOp (rIn K true) (tVar 0) (tC (.ref (He.ga K "PRIMES")))))) tNever tNext)
theorem pure_check_prime (hP : PrimesOk K) (vs : List V) (H : Hp) (Q : VK) (E : XK) (h : sp_check_prime K vs H Q E) : t_check_prime K { nx := fun _ H' => Q .non H', rt := Q } (start ["value"] vs) H := by
  obtain ⟨p, rfl, hp, q⟩ := h
  refine ⟨_, rfl, _, rfl, .int p, true, rfl, iteF ⟨_, rfl, _, _, rfl, .inr (hP H), rfl, rfl, _, rfl, ?_⟩⟩
  have e : inV (.int p) [.int 2, .int 3, .int 5, .int 7] = true := by
    rcases hp with rfl | rfl | rfl | rfl <;> decide
  rw [e]
  exact iteF (q H (Ex.refl _))
def intOf : V → Int | .int i => i | _ => 0
def isModV (p : Int) : Option (List V) → Bool
  | none => false
  | some xs => decide (3 ≤ xs.length) && decide (xs.length ≤ 13) && (xs.all (below p) && (decide ((xs.map intOf).getLastD 0 = 1) && noPart p (xs.map intOf)))
def sp_is_modulus (K : Fr) : Sp := fun vs H Q _ => ∃ p v o, vs = [.int p, v] ∧ Prm p ∧ Itm K H v o ∧ (∀ xs, o = some xs → ∀ x ∈ xs, Kd K H x) ∧ Evl.RetV (.bl (isModV p o)) H Q
theorem len_is_modulus (vs : List V) (H : Hp) (Q : VK) (E : XK) (h : sp_is_modulus K vs H Q E) : vs.length = 2 := by obtain ⟨_, _, _, rfl, _⟩ := h; rfl
def t_is_modulus (K : Fr) : TS := (tSeq (tDrop (tCall (sp_check_prime K) [] E0 (tCons (tVar 0) tNil))) (tSeq (tIfS (tOr (tNot (tB (tCall (sp_is_list K) [] E0 (tCons (tVar 1) tNil)))) (tNot (tTest (tChain rLeI rLeI (tC (.int 3)) (tCB (rLenA K) (tCons (tVar 1) tNil)) (tC (.int 13)))))) (tRet (tC (.bl false))) tNext) (tRet (tAndV (tCall (sp_are_below K) [] E0 (tCons (tVar 1) (tCons (tVar 0) tNil))) (tAndV (tOp rEq (tOp (rIxA K) (tVar 1) (tUn rNeg (tC (.int 1)))) (tC (.int 1))) (tCall (sp_cannot_be_parted K) [] E0 (tCons (tVar 0) (tCons (tCB (rListA K) (tCons (tVar 1) tNil)) tNil))))))))
theorem ints_of {p : Int} : ∀ {xs : List V}, xs.all (below p) = true → xs = (xs.map intOf).map V.int ∧ Cf p (xs.map intOf)
  | [], _ => ⟨rfl, fun x hx => by cases hx⟩
  | x :: r, h => by
    rw [List.all_cons, Bool.and_eq_true] at h
    obtain ⟨e, c⟩ := ints_of (xs := r) h.2
    cases x with
    | int i =>
      have h1 : (decide (0 ≤ i) && decide (i < p)) = true := h.1
      rw [Bool.and_eq_true, decide_eq_true_eq, decide_eq_true_eq] at h1
      refine ⟨by rw [List.map_cons, List.map_cons, ← e]; rfl, fun y hy => ?_⟩
      rcases List.mem_cons.mp hy with rfl | hy
      · exact h1
      · exact c y hy
    | _ => cases h.1
theorem pure_is_modulus (vs : List V) (H : Hp) (Q : VK) (E : XK) (h : sp_is_modulus K vs H Q E) : t_is_modulus K { nx := fun _ H' => Q .non H', rt := Q } (start ["prime", "value"] vs) H := by
  obtain ⟨p, v, o, rfl, hp, hv, hk, q⟩ := h
  refine ⟨_, rfl, p, rfl, hp, fun H0 e0 => ?_⟩
  refine ⟨_, rfl, v, o, rfl, Itm.ex e0 hv, fun H1 e1 => ⟨_, rfl, ?_⟩⟩
  cases hv with
  | oth ty k1 k2 => exact iteT (iteT (q H1 (Ex.trans e0 e1)))
  | seq hs =>
    rename_i a xs
    have e01 := Ex.trans e0 e1
    refine iteF ⟨_, rfl, a, xs, rfl, Ex.any e01 hs, _, _, rfl, rfl, _, rfl, ?_⟩
    by_cases c1 : (3 : Int) ≤ (xs.length : Int)
    · rw [decide_eq_true c1]
      refine iteT ⟨_, _, rfl, rfl, _, rfl, ?_⟩
      by_cases c2 : (xs.length : Int) ≤ 13
      · rw [decide_eq_true c2]
        refine iteF ?_
        have eM : isModV p (some xs) = (xs.all (below p) && (decide ((xs.map intOf).getLastD 0 = 1) && noPart p (xs.map intOf))) := by
          show (decide (3 ≤ xs.length) && decide (xs.length ≤ 13) && (xs.all (below p) && (decide ((xs.map intOf).getLastD 0 = 1) && noPart p (xs.map intOf)))) = _
          rw [decide_eq_true (by omega : 3 ≤ xs.length), decide_eq_true (by omega : xs.length ≤ 13)]
          rfl
        rw [eM] at q
        refine ⟨_, rfl, _, rfl, .ref a, p, some xs, rfl, .seq (Ex.any e01 hs), fun ys e => by cases e; exact ⟨by omega, fun x hx => (hk _ rfl x hx).ex e01⟩, fun H2 e2 => ⟨_, rfl, ?_⟩⟩
        show if xs.all (below p) = true then _ else _
        cases hb : xs.all (below p) with
        | false =>
          rw [hb] at q
          exact iteF (q H2 (Ex.trans e01 e2))
        | true =>
          rw [hb] at q
          refine iteT ?_
          obtain ⟨ex, cx⟩ := ints_of hb
          generalize xs.map intOf = ns at ex cx q
          subst ex
          rw [List.length_map] at c1 c2
          have hn : ns ≠ [] := fun e => by subst e; simp at c1
          refine ⟨_, rfl, 1, rfl, ?_⟩
          refine ixA (Ex.any e2 (Ex.any e01 hs)) (at_lastI hn) ?_
          refine ⟨rfl, _, rfl, ?_⟩
          by_cases c3 : ns.getLastD 0 = 1
          · rw [decide_eq_true (by rw [c3])]
            rw [decide_eq_true c3] at q
            refine iteT ⟨_, rfl, _, rfl, a, _, rfl, Ex.any e2 (Ex.any e01 hs), ?_⟩
            intro l3 n3; generalize E_ : upd _ l3 _ = H3; have e3 := genE E_ n3; have h3 := genS E_; clear E_
            exact ⟨p, l3, ns, rfl, sqL h3, hp, by omega, by omega, cx, .inr (by rw [c3]; decide), fun H4 e4 => q H4 (Ex.trans e01 (Ex.trans e2 (Ex.trans e3 e4)))⟩
          · rw [decide_eq_false (fun e => c3 (V.int.inj e))]
            rw [decide_eq_false c3] at q
            exact iteF (q H2 (Ex.trans e01 e2))
      · rw [decide_eq_false c2]
        have eM : isModV p (some xs) = false := by
          show (decide (3 ≤ xs.length) && decide (xs.length ≤ 13) && (xs.all (below p) && (decide ((xs.map intOf).getLastD 0 = 1) && noPart p (xs.map intOf)))) = _
          rw [decide_eq_false (by omega : ¬ xs.length ≤ 13), Bool.and_false]
          rfl
        rw [eM] at q
        exact iteT (q H1 e01)
    · rw [decide_eq_false c1]
      have eM : isModV p (some xs) = false := by
        show (decide (3 ≤ xs.length) && decide (xs.length ≤ 13) && (xs.all (below p) && (decide ((xs.map intOf).getLastD 0 = 1) && noPart p (xs.map intOf)))) = _
        rw [decide_eq_false (by omega : ¬ 3 ≤ xs.length)]
        rfl
      rw [eM] at q
      exact iteF ⟨_, rfl, iteT (q H1 e01)⟩

end TP
/-! TPZip -/
set_option maxHeartbeats 4000000
/-! # list(zip(xs, ys)) over two lists: a new list of new pairs -/
namespace TP
open PySem PySem.Spec PyProof.Rows L2
theorem zip_no_len : typeLookup (.type "zip") "__len__" = pure none := by rw [typeLookup_type, builtinLookup_eq_fast]; kernel_rfl
theorem zip_no_hint : typeLookup (.type "zip") "__length_hint__" = pure none := by rw [typeLookup_type, builtinLookup_eq_fast]; kernel_rfl
section
variable {prog : Program} {w : World} {A : Around} {R : Result → Shared → Prop} {z TI TO i1 i2 l1 l2 S : Addr} {xs ys : Array Value}
theorem far {z S t : Nat} (h : z < S) (h2 : S < t) : t ≠ z := by omega
theorem far5 {b n k : Nat} (h : b < n) : b ≠ n + k := by omega
theorem far6 {S n t : Nat} (e : S = n + 5) (h : S < t) : n ≤ t := by omega
theorem far7 {b n : Nat} (h : b < n) : ¬ n + 5 < b := by omega
theorem fa2 {S t : Nat} (h2 : S < t) : t ≠ S := by omega
/-- where the zip stands behind i turns -/
structure ZSt (z TI TO i1 i2 l1 l2 S : Addr) (xs ys : Array Value) (i : Nat) (h : Heap) : Prop where
  ti : IsPair h TI (.ref i1) (.ref i2)
  g1 : h.IsListIter i1 l1 i
  g2 : h.IsListIter i2 l2 i
  g3 : h.IsList l1 xs
  g4 : h.IsList l2 ys
  gz : (IsZip h z TI TO .none ∧ ∃ a b, IsPair h TO a b) ∨ ∃ T f oT, IsZipHeld h z TI TO T f ∧ h.get? T = some oT ∧ T ≠ z ∧ T ≠ i1 ∧ T ≠ i2 ∧ T ≠ S
/-- the list's place is none of the zip's -/
structure ZOff (z TI TO i1 i2 l1 l2 S : Addr) : Prop where
  z : S ≠ z
  ti : S ≠ TI
  to : S ≠ TO
  i1 : S ≠ i1
  i2 : S ≠ i2
  l1 : S ≠ l1
  l2 : S ≠ l2
theorem ZSt.frame {i : Nat} {h h' : Heap} (O : ZOff z TI TO i1 i2 l1 l2 S) (st : ZSt z TI TO i1 i2 l1 l2 S xs ys i h) (hk : ∀ b o, b ≠ S → h.get? b = some o → h'.get? b = some o) : ZSt z TI TO i1 i2 l1 l2 S xs ys i h' := by
  obtain ⟨hTI, h1, h2, hl1, hl2, hz⟩ := st
  refine ⟨hk _ _ O.ti.symm hTI, h1.at fun o e => hk _ o O.i1.symm e, h2.at fun o e => hk _ o O.i2.symm e, hl1.at fun o e => hk _ o O.l1.symm e, hl2.at fun o e => hk _ o O.l2.symm e, ?_⟩
  rcases hz with ⟨hz, a, b, hTO⟩ | ⟨T, f, oT, hz, hT, r1, r2, r3, r4⟩
  · exact .inl ⟨hk _ _ O.z.symm hz, a, b, hk _ _ O.to.symm hTO⟩
  · exact .inr ⟨T, f, oT, hk _ _ O.z.symm hz, hk _ _ r4 hT, r1, r2, r3, r4⟩
/-- what has been made of it: the pairs stand at ts, all above lo -/
structure ZMade (xs ys : Array Value) (lo : Nat) (ts : List Addr) (h : Heap) : Prop where
  at_ : ∀ (j : Nat) (t : Addr), ts[j]? = some t → ∃ x y, xs[j]? = some x ∧ ys[j]? = some y ∧ IsPair h t x y
  lo : ∀ t ∈ ts, lo < t
  lt : ∀ t ∈ ts, t < h.objs.size
  nd : ts.Nodup
def zKeep (z TO i1 i2 S : Addr) (h h' : Heap) : Prop := ∀ b o, b ≠ z → b ≠ TO → b ≠ i1 → b ≠ i2 → b ≠ S → h.get? b = some o → h'.get? b = some o
theorem zip_loop (hh : A.handled = none) (D : ZipApart z TI TO i1 i2 l1 l2) (O : ZOff z TI TO i1 i2 l1 l2 S) (hn : min xs.size ys.size ≤ sizeLine) (res : Value) (hzS : z < S ∧ TO < S ∧ i1 < S ∧ i2 < S) :
    ∀ (k i : Nat) (s : Shared) (acc : Array Value) (c : Nat) (ts : List Addr), min xs.size ys.size - i = k → i ≤ min xs.size ys.size → ZSt z TI TO i1 i2 l1 l2 S xs ys i s.heap →
    s.heap.get? S = some { cls := .type "list", dict := none, data := .seq acc c, slots := #[] } → acc.toList = ts.map Value.ref → ts.length = i → ZMade xs ys S ts s.heap →
    (∀ (h' : Heap) (acc' : Array Value) (c' : Nat) (ts' : List Addr), zKeep z TO i1 i2 S s.heap h' → h'.get? S = some { cls := .type "list", dict := none, data := .seq acc' c', slots := #[] } → acc'.toList = ts'.map Value.ref → ts'.length = min xs.size ys.size → ZMade xs ys S ts' h' →
      R (.ok (.ret res)) { s with heap := h' }) →
    codeAny (model prog w) A (.builtin "list.extend.loop" ⟨[.ref S, .ref z, res], []⟩) R s := by
  have hA : A.in1.handled = none := hh
  intro k
  induction k with
  | zero =>
    intro i s acc c ts hk hi hst hS hacc hl hM hR
    have hin : i = min xs.size ys.size := by omega
    subst hin
    refine codeAny_builtin F.entry_extend_loop ?_
    rw [Around.under_plainId F.plain_extend_loop _]
    show wpAny _ A.in1 (pyNext (.ref z) >>= _) _ _ s
    have hend : xs[min xs.size ys.size]? = none ∨ ys[min xs.size ys.size]? = none := by
      rcases Nat.le_total xs.size ys.size with h | h
      · exact .inl (Array.getElem?_eq_none (by rw [Nat.min_eq_left h]; exact Nat.le_refl _))
      · exact .inr (Array.getElem?_eq_none (by rw [Nat.min_eq_right h]; exact Nat.le_refl _))
    obtain ⟨hTI, h1, h2, hl1, hl2, hz⟩ := hst
    have fin : ∀ h' : Heap, (∀ c o, c ≠ z → c ≠ TO → c ≠ i1 → c ≠ i2 → s.heap.get? c = some o → h'.get? c = some o) → R (.ok (.ret res)) { s with heap := h' } := fun h' hk => by
      refine hR h' acc c ts (fun b o b1 b2 b3 b4 _ e => hk b o b1 b2 b3 b4 e) (hk S _ O.z O.to O.i1 O.i2 hS) hacc hl ⟨fun j t e => ?_, hM.lo, fun t ht => ?_, hM.nd⟩
      · obtain ⟨x, y, e1, e2, e3⟩ := hM.at_ j t e
        have hlo := hM.lo t (List.mem_of_getElem? e)
        exact ⟨x, y, e1, e2, hk t _ (far hzS.1 hlo) (far hzS.2.1 hlo) (far hzS.2.2.1 hlo) (far hzS.2.2.2 hlo) e3⟩
      · obtain ⟨j, e⟩ := List.getElem?_of_mem ht
        obtain ⟨x, y, e1, e2, e3⟩ := hM.at_ j t e
        have hlo := hM.lo t ht
        exact Heap.lt_size (hk t _ (far hzS.1 hlo) (far hzS.2.1 hlo) (far hzS.2.2.1 hlo) (far hzS.2.2.2 hlo) e3)
    rcases hz with ⟨hz, a, b, hTO⟩ | ⟨T, f, oT, hz, hT, r1, r2, r3, r4⟩
    · exact wpAny_bind (wpAny_pyNext_zip_end hA D hz hTI hTO h1 h2 hl1 hl2 hend fun h' hk => wpAny_pure (fin h' hk))
    · exact wpAny_bind (wpAny_pyNext_zip_end_held hA D hz hT hTI h1 h2 hl1 hl2 hend fun h' hk => wpAny_pure (fin h' fun c o c1 c2 c3 c4 e => hk c o c1 c3 c4 e))
  | succ k ih =>
    intro i s acc c ts hk hi hst hS hacc hl hM hR
    have hlt : i < min xs.size ys.size := by omega
    have hix : i < xs.size := by omega
    have hiy : i < ys.size := by omega
    have ex := Array.getElem?_eq_getElem hix
    have ey := Array.getElem?_eq_getElem hiy
    refine codeAny_builtin F.entry_extend_loop ?_
    rw [Around.under_plainId F.plain_extend_loop _]
    show wpAny _ A.in1 (pyNext (.ref z) >>= _) _ _ s
    obtain ⟨hTI, h1, h2, hl1, hl2, hz⟩ := hst
    have lt : ∀ {c o}, s.heap.get? c = some o → s.heap.objs.size ≠ c := fun e => Nat.ne_of_gt (Heap.lt_size e)
    have n1 : s.heap.objs.size ≠ i1 := let ⟨_, e, _⟩ := h1; lt e
    have n2 : s.heap.objs.size ≠ i2 := let ⟨_, e, _⟩ := h2; lt e
    have hSl : S < s.heap.objs.size := Heap.lt_size hS
    have sz : acc.size = i := by rw [← hl, ← List.length_map (f := Value.ref), ← hacc]; simp
    have go : ∀ h' : Heap, ZSt z TI TO i1 i2 l1 l2 S xs ys (i + 1) h' → IsPair h' s.heap.objs.size xs[i] ys[i] → h'.objs.size = s.heap.objs.size + 1 → (∀ c o, c ≠ z → c ≠ TO → c ≠ i1 → c ≠ i2 → s.heap.get? c = some o → h'.get? c = some o) →
        wpAny (model prog w) A.in1 (Builtin.List.listUpdate (.ref S) (·.push (.ref s.heap.objs.size)) >>= fun _ => again (.builtin "list.extend.loop" ⟨[.ref S, .ref z, res], []⟩))
          (fun fin s' => match fin with | .done f => R (.ok f) s' | .again c' => c'.quiet = true ∧ codeAny (model prog w) A c' R s') (fun e s' => R (.error e) s') { s with heap := h' } := fun h' st' hT hsz hk => by
      have hS' := hk S _ O.z O.to O.i1 O.i2 hS
      show wpAny _ A.in1 (updateSeq S (·.push (.ref s.heap.objs.size)) >>= _) _ _ _
      refine wpAny_bind ?_
      have hS2 := Heap.get?_update_self (Obj.mapSeq (·.push (Value.ref s.heap.objs.size))) hS' rfl
      have oth : ∀ b o, b ≠ S → h'.get? b = some o → (h'.update S (Obj.mapSeq (·.push (Value.ref s.heap.objs.size)))).get? b = some o := fun b o hb e => (Heap.get?_update_other _ _ (Ne.symm hb)).trans e
      refine wpAny_updateSeq hS' rfl (wpAny_pure ⟨plainId_quiet F.plain_extend_loop _, ih (i + 1) { s with heap := h'.update S (Obj.mapSeq (·.push (Value.ref s.heap.objs.size))) } (acc.push (.ref s.heap.objs.size)) _ (ts ++ [s.heap.objs.size]) (by omega) hlt (st'.frame O oth) hS2 ?_ ?_ ?_ fun h2 acc' c' ts' k2 g1 g2 g3 g4 => ?_⟩) (by omega) (by show (acc.push _).size ≤ sizeLine + 1; rw [Array.size_push]; omega)
      · rw [Array.toList_push, hacc, List.map_append]; rfl
      · rw [List.length_append, hl]; rfl
      · have atT : ∀ t, t ∈ ts → ∀ o, s.heap.get? t = some o → (h'.update S (Obj.mapSeq (·.push (Value.ref s.heap.objs.size)))).get? t = some o := fun t ht o e => by
          have hlo := hM.lo t ht
          exact oth t o (fa2 hlo) (hk t o (far hzS.1 hlo) (far hzS.2.1 hlo) (far hzS.2.2.1 hlo) (far hzS.2.2.2 hlo) e)
        have atN : IsPair (h'.update S (Obj.mapSeq (·.push (Value.ref s.heap.objs.size)))) s.heap.objs.size xs[i] ys[i] := oth _ _ (Nat.ne_of_gt hSl) hT
        refine ⟨fun j t e => ?_, fun t ht => ?_, fun t ht => ?_, ?_⟩
        · by_cases hj : j < ts.length
          · rw [List.getElem?_append_left hj] at e
            obtain ⟨x, y, e1, e2, e3⟩ := hM.at_ j t e
            exact ⟨x, y, e1, e2, atT t (List.mem_of_getElem? e) _ e3⟩
          · rw [List.getElem?_append_right (by omega)] at e
            have hj2 : j - ts.length = 0 := by
              by_cases h0 : j - ts.length = 0
              · exact h0
              · rw [List.getElem?_eq_none (by simp; omega)] at e; cases e
            rw [hj2] at e
            cases e
            have : j = i := by omega
            subst this
            exact ⟨_, _, ex, ey, atN⟩
        · rcases List.mem_append.mp ht with ht | ht
          · exact hM.lo t ht
          · rw [List.mem_singleton.mp ht]; exact hSl
        · rcases List.mem_append.mp ht with ht | ht
          · obtain ⟨j, e⟩ := List.getElem?_of_mem ht
            obtain ⟨x, y, e1, e2, e3⟩ := hM.at_ j t e
            exact Heap.lt_size (atT t ht _ e3)
          · rw [List.mem_singleton.mp ht]; exact Heap.lt_size atN
        · refine List.nodup_append.mpr ⟨hM.nd, by simp, fun a ha b hb => ?_⟩
          rw [List.mem_singleton.mp hb]
          exact Nat.ne_of_lt (hM.lt a ha)
      · refine hR h2 acc' c' ts' (fun b o b1 b2 b3 b4 b5 e => k2 b o b1 b2 b3 b4 b5 (oth b o b5 (hk b o b1 b2 b3 b4 e))) g1 g2 g3 g4
    rcases hz with ⟨hz, a, b, hTO⟩ | ⟨T, f, oT, hz, hT, r1, r2, r3, r4⟩
    · refine wpAny_bind (wpAny_pyNext_zip_item D hz hTI hTO h1 h2 hl1 hl2 ex ey fun h' a1 a2 a3 a4 a5 a6 hk => ?_)
      exact go h' ⟨hk _ _ D.TIz D.TITO D.TIi1 D.TIi2 hTI, a3, a4, hl1.at fun o e => hk _ o D.l1z D.l1TO D.l1i1 D.l1i2 e, hl2.at fun o e => hk _ o D.l2z D.l2TO D.l2i1 D.l2i2 e,
        .inr ⟨s.heap.objs.size, false, _, a1, a5, lt hz, n1, n2, Nat.ne_of_gt hSl⟩⟩ a5 a6 hk
    · refine wpAny_bind (wpAny_pyNext_zip_item_held D hz hT hTI h1 h2 hl1 hl2 ex ey fun h' a1 a3 a4 a5 a6 hk => ?_)
      exact go h' ⟨hk _ _ D.TIz D.TIi1 D.TIi2 hTI, a3, a4, hl1.at fun o e => hk _ o D.l1z D.l1i1 D.l1i2 e, hl2.at fun o e => hk _ o D.l2z D.l2i1 D.l2i2 e,
        .inr ⟨T, true, oT, a1, hk _ _ r1 r2 r3 hT, r1, r2, r3, r4⟩⟩ a5 a6 fun c o c1 c2 c3 c4 e => hk c o c1 c3 c4 e
end
section
variable {prog : Program} {w : World} {A : Around} {E : Value → Shared → Prop} {s : Shared} {z TI TO i1 i2 l1 l2 : Addr} {xs ys : Array Value}
/-- list(the zip) -/
theorem call_list_zip {Q : Value → Shared → Prop} (hh : A.handled = none) (D : ZipApart z TI TO i1 i2 l1 l2) (hn : min xs.size ys.size ≤ sizeLine)
    (hz : IsZip s.heap z TI TO .none) (hTI : IsPair s.heap TI (.ref i1) (.ref i2)) (hTO : ∃ a b, IsPair s.heap TO a b) (h1 : s.heap.IsListIter i1 l1 0) (h2 : s.heap.IsListIter i2 l2 0) (hl1 : s.heap.IsList l1 xs) (hl2 : s.heap.IsList l2 ys)
    (hQ : ∀ (h' : Heap) (acc' : Array Value) (c' : Nat) (ts' : List Addr), zKeep z TO i1 i2 s.heap.objs.size s.heap h' → h'.get? s.heap.objs.size = some { cls := .type "list", dict := none, data := .seq acc' c', slots := #[] } → acc'.toList = ts'.map Value.ref → ts'.length = min xs.size ys.size →
      ZMade xs ys s.heap.objs.size ts' h' → Q (.ref s.heap.objs.size) { s with heap := h' }) :
    wpAny (model prog w) A (call (.type "list") [.ref z]) Q E s := by
  obtain ⟨o1, g1, _⟩ := id h1
  obtain ⟨o2, g2, _⟩ := id h2
  obtain ⟨a0, b0, hTO0⟩ := id hTO
  have e1 := Heap.lt_size g1
  have e2 := Heap.lt_size g2
  have ez := Heap.lt_size hz
  have eTO := Heap.lt_size hTO0
  have eTI := Heap.lt_size hTI
  obtain ⟨o3, g3, _⟩ := id hl1
  obtain ⟨o4, g4, _⟩ := id hl2
  have e3 := Heap.lt_size g3
  have e4 := Heap.lt_size g4
  have O : ZOff z TI TO i1 i2 l1 l2 s.heap.objs.size := ⟨Nat.ne_of_gt ez, Nat.ne_of_gt eTI, Nat.ne_of_gt eTO, Nat.ne_of_gt e1, Nat.ne_of_gt e2, Nat.ne_of_gt e3, Nat.ne_of_gt e4⟩
  have st0 : ZSt z TI TO i1 i2 l1 l2 s.heap.objs.size xs ys 0 s.heap := ⟨hTI, h1, h2, hl1, hl2, .inl ⟨hz, hTO⟩⟩
  refine callType_codes (Q₁ := fun obj s₁ => obj = .ref s.heap.objs.size ∧ s₁ = { s with heap := s.heap.push { cls := .type "list", data := .seq #[] } }) F.called_list (F.typeCall_list_1 _) F.entry_list_init
    (code_list_new _ ⟨rfl, rfl⟩) fun obj s₁ h₁ => ?_
  obtain ⟨rfl, rfl⟩ := h₁
  have hS : (s.heap.push { cls := .type "list", data := .seq #[] }).get? s.heap.objs.size = some { cls := .type "list", data := .seq #[] } := Heap.get?_push_size _ rfl
  refine ⟨⟨_, hS, rfl⟩, F.args_list_init_2 _ _, ?_⟩
  show wpAny _ A.in1.in1 (do let old ← Builtin.List.listItems (.ref s.heap.objs.size); Builtin.List.listUpdate (.ref s.heap.objs.size) (fun _ => #[]); letGo old.toList.reverse; Builtin.List.listExtendWith (.ref s.heap.objs.size) (.ref z) .none) _ _ _
  refine wpAny_bind ?_
  unfold Builtin.List.listItems
  refine wpAny_bind (wpAny_seqItems hS rfl (wpAny_pure ?_))
  show wpAny _ A.in1.in1 (updateSeq s.heap.objs.size (fun _ => #[]) >>= fun _ => letGo (#[] : Array Value).toList.reverse >>= fun _ => Builtin.List.listExtendWith (.ref s.heap.objs.size) (.ref z) .none) _ _ _
  refine wpAny_bind (wpAny_updateSeq hS rfl ?_)
  have hS₂ := Heap.get?_update_self (Obj.mapSeq (fun _ => (#[] : Array Value))) hS rfl
  have k0 : ∀ b o, s.heap.get? b = some o → (s.heap.push { cls := .type "list", data := .seq #[] }).get? b = some o := fun b o e => Heap.get?_push_of_some _ e
  have oth : ∀ b o, b ≠ s.heap.objs.size → (s.heap.push { cls := .type "list", data := .seq #[] }).get? b = some o → ((s.heap.push { cls := .type "list", data := .seq #[] }).update s.heap.objs.size (Obj.mapSeq (fun _ => (#[] : Array Value)))).get? b = some o :=
    fun b o hb e => (Heap.get?_update_other _ _ (Ne.symm hb)).trans e
  generalize hH : (s.heap.push { cls := .type "list", data := .seq #[] }).update s.heap.objs.size (Obj.mapSeq (fun _ => (#[] : Array Value))) = H₂ at hS₂ oth
  have k2 : ∀ b o, s.heap.get? b = some o → H₂.get? b = some o := fun b o e => oth b o (Nat.ne_of_lt (Heap.lt_size e)) (k0 b o e)
  refine wpAny_bind (wpAny_letGo ?_)
  have hT2 : ∀ s' : Shared, s'.heap = H₂ → s'.TypeIs (.ref z) "zip" := fun s' e => ⟨_, by rw [e]; exact k2 _ _ hz, rfl⟩
  unfold Builtin.List.listExtendWith
  refine wpAny_bind (wpAny_typeOf (hT2 _ rfl) ?_)
  have q1 : Builtin.List.listSameRef (.ref s.heap.objs.size) (.ref z) = false := by simp [Builtin.List.listSameRef, O.z]
  have q2 : (Value.type "zip" == Value.type "list") = false := by decide
  have q3 : (Value.type "zip" == Value.type "tuple") = false := by decide
  simp only [q1, q2, q3, Bool.or_false, Bool.false_eq_true, if_false]
  refine wpAny_bind (wpAny_pyIter_zip (k2 _ _ hz) ?_)
  refine wpAny_bind (wpAny_holding ?_)
  unfold Builtin.List.listLengthHint
  refine wpAny_bind (wpAny_specialOf (hT2 _ rfl) zip_no_len ?_)
  show wpAny _ A.in1.in1 (specialOf (Value.ref z) (Str.ofString "__length_hint__") >>= _) _ _ _
  refine wpAny_bind (wpAny_specialOf (hT2 _ rfl) zip_no_hint ?_)
  refine wpAny_pure ?_
  show wpAny _ A.in1.in1 (rule "list.extend.makes-room" >>= fun _ => Builtin.List.listTouch (.ref s.heap.objs.size) >>= fun _ =>
    again (.builtin "list.extend.loop" ⟨[.ref s.heap.objs.size, .ref z, .none], []⟩)) _ _ _
  refine wpAny_bind (wpAny_rule ?_)
  refine wpAny_bind ?_
  show wpAny _ A.in1.in1 (updateSeq s.heap.objs.size (·.push .none) >>= fun _ => updateSeq s.heap.objs.size (·.pop)) _ _ _
  refine wpAny_bind (wpAny_updateSeq hS₂ rfl ?_)
  have hS₃ := Heap.get?_update_self (Obj.mapSeq (·.push Value.none)) hS₂ rfl
  refine wpAny_updateSeq (hz := by seq_fits) hS₃ rfl ?_
  have hS₄ := Heap.get?_update_self (Obj.mapSeq (·.pop)) hS₃ rfl
  have oth2 : ∀ b o, b ≠ s.heap.objs.size → H₂.get? b = some o → ((H₂.update s.heap.objs.size (Obj.mapSeq (·.push Value.none))).update s.heap.objs.size (Obj.mapSeq (·.pop))).get? b = some o :=
    fun b o hb e => (Heap.get?_update_other _ _ (Ne.symm hb)).trans ((Heap.get?_update_other _ _ (Ne.symm hb)).trans e)
  have k4 : ∀ b o, s.heap.get? b = some o → ((H₂.update s.heap.objs.size (Obj.mapSeq (·.push Value.none))).update s.heap.objs.size (Obj.mapSeq (·.pop))).get? b = some o := fun b o e => oth2 b o (Nat.ne_of_lt (Heap.lt_size e)) (k2 b o e)
  refine wpAny_pure ⟨plainId_quiet F.plain_extend_loop _, zip_loop (A := A.in1) (ts := []) (show A.in1.handled = none from hh) D O hn .none ⟨ez, eTO, e1, e2⟩ _ 0 _ _ _ rfl (Nat.zero_le _) (st0.frame O fun b o _ e => k4 b o e) hS₄ rfl rfl ⟨fun j t e => by simp at e, fun t ht => by simp at ht, fun t ht => by simp at ht, List.nodup_nil⟩ fun h' acc' c' ts' kk r1 r2 r3 r4 => ?_⟩
  exact ⟨rfl, hQ h' acc' c' ts' (fun b o b1 b2 b3 b4 b5 e => kk b o b1 b2 b3 b4 b5 (k4 b o e)) r1 r2 r3 r4⟩
end
/-! ### the rule -/
/-- the pairs tracked at their addresses -/
def putP : Hp → List Addr → List (V × V) → Hp
  | H, a :: as, p :: r => putP (upd H a (.tup [p.1, p.2])) as r
  | H, _, _ => H
theorem putP_off {b : Addr} : ∀ (as : List Addr) (r : List (V × V)) (H : Hp), b ∉ as → putP H as r b = H b
  | [], _, _, _ => rfl
  | _ :: _, [], _, _ => rfl
  | a :: as, p :: r, H, h => by
    show putP (upd H a (.tup [p.1, p.2])) as r b = H b
    rw [putP_off as r _ (fun z => h (List.mem_cons_of_mem _ z)), upd_ne (fun z => h (by rw [z]; exact List.mem_cons_self))]
theorem putP_at : ∀ (as : List Addr) (r : List (V × V)) (H : Hp), as.length = r.length → as.Nodup → Paired (fun (t : Addr) (p : V × V) => putP H as r t = some (.tup [p.1, p.2])) as r
  | [], [], _, _, _ => .nil
  | [], _ :: _, _, h, _ => by cases h
  | _ :: _, [], _, h, _ => by cases h
  | a :: as, p :: r, H, h, hn => by
    have hn' := List.nodup_cons.mp hn
    have ih := putP_at as r (upd H a (.tup [p.1, p.2])) (Nat.succ.inj h) hn'.2
    refine .cons ?_ ih
    show putP (upd H a (.tup [p.1, p.2])) as r a = some (.tup [p.1, p.2])
    rw [putP_off as r _ hn'.1, upd_same]
theorem paired_ix {α β : Type} {F : α → β → Prop} : ∀ {xs : List α} {ys : List β}, Paired F xs ys → ∀ {x : α}, x ∈ xs → ∃ (j : Nat) (y : β), xs[j]? = some x ∧ ys[j]? = some y ∧ F x y
  | _, _, .cons h t, x, hx => by
    rcases List.mem_cons.mp hx with e | hx
    · rw [e]
      exact ⟨0, _, rfl, rfl, h⟩
    · obtain ⟨j, y, e1, e2, e3⟩ := paired_ix t hx
      exact ⟨j + 1, y, e1, e2, e3⟩
theorem vals_refs : ∀ as : List Addr, Vals (as.map V.ref) (as.map Value.ref)
  | [] => .nil
  | _ :: as => .cons rfl (vals_refs as)
/-- list(zip(a, b)) -/
def tListZip (K : Fr) (ta : TA) : TE := fun σ H Q => ta σ H fun vs H1 => ∃ a b xs ys, vs = [.ref a, .ref b] ∧ SqL K H1 a xs ∧ SqL K H1 b ys ∧
  ∀ (H' : Hp) (p : Addr) (ts : List Addr), Ex H1 H' → H1 p = none → (∀ t ∈ ts, H1 t = none) → p ∉ ts → H' p = some (.lst (ts.map V.ref)) → Paired (fun (t : Addr) (q : V × V) => H' t = some (.tup [q.1, q.2])) ts (xs.zip ys) → Q (.ref p) H'
section
variable {X : Cx} {e e2 : PySem.Expr} {ta : TA} {p p2 pos pos2 : Pos}
theorem pe_listZip (hc : X.calm = true) (hl : X.mg "list" = none) (hz : X.mg "zip" = none) (ha : PA X [e, e2] ta) (hgl : Gl X "list" := by rfl) (hgz : Gl X "zip" := by rfl) (hv : bootBuiltins "list" = some (.type "list") := by decide +kernel)
    (hs0 : starEach [.Call (.Name "zip" p2) [e, e2] [] pos2] X.env = (false, eval (.Call (.Name "zip" p2) [e, e2] [] pos2) X.env) :: starEach [] X.env := by rfl)
    (hs : starEach [e, e2] X.env = (false, eval e X.env) :: starEach [e2] X.env := by rfl) (hpl : (backTo pos2 (starEach [e2] X.env)).any (·.1) = false := by rfl) :
    PE X (.Call (.Name "list" p) [.Call (.Name "zip" p2) [e, e2] [] pos2] [] pos) (tListZip X.K ta) := by
  refine ⟨fun pins s σ H Q I h => ?_⟩
  refine wpAny_Call_Name_kw (ld_blt I hgl hl hv ?_)
  refine PyProof.Rows.callWith_type1 ?_ hs0 rfl
  rw [hs0]
  show wpAny _ _ (spliced ((false, eval (.Call (.Name "zip" p2) [e, e2] [] pos2) X.env) :: backTo pos (starEach [] X.env))) _ _ s
  refine Calls.spliced_cons ?_
  refine wpAny_Call_Name_kw (ld_blt I hgz hz PyProof.Rows.boot_zip ?_)
  refine PyProof.Rows.callWith_type1 (thn (ha.run pos2 pins s σ H _ I h) fun us s1 ⟨vs, H1, I1, r1, q1⟩ => ?_) hs hpl
  obtain ⟨a, b, xs, ys, ex, hqx, hqy, q⟩ := q1
  subst ex
  cases r1 with
  | cons r rr =>
    cases rr with
    | cons r' rr =>
      cases rr
      cases r
      cases r'
      obtain ⟨its, rv, p1, sz1⟩ := I1.list hqx
      obtain ⟨its2, rv2, p2, sz2⟩ := I1.list hqy
      have la : a < s1.heap.objs.size := p1.lt
      have lb : b < s1.heap.objs.size := p2.lt
      refine call_zip_2 p1.isList p2.isList fun h' hz hTI hTO h1 h2 hsz hk => ?_
      have lx := rv.length
      have ly := rv2.length
      refine Calls.spliced_nil ?_
      refine call_list_zip (I1.ok.hd hc) (PySem.W.ktu_apart s1.heap.objs.size a b la lb) (by simp; omega) hz hTI ⟨_, _, hTO⟩ h1 h2 (p1.isList.at fun o e => hk _ o e) (p2.isList.at fun o e => hk _ o e) fun h2' acc' c' ts kk g1 g2 g3 g4 => ?_
      generalize hSS : (Shared.heap { s1 with heap := h' }).objs.size = S at kk g1 g4
      have eS : S = s1.heap.objs.size + 5 := hSS.symm.trans hsz
      have k0 : ∀ b o, s1.heap.get? b = some o → h2'.get? b = some o := fun b o e => by
        have lt : b < s1.heap.objs.size := Heap.lt_size e
        refine kk b o (far5 lt) (far5 lt) (Nat.ne_of_lt lt) (far5 lt) (by rw [eS]; exact far5 lt) (hk b o e)
      have lz : ts.length = (xs.zip ys).length := by rw [g3, List.length_zip]; simp; omega
      have hSn : S ∉ ts := fun z => Nat.lt_irrefl _ (g4.lo _ z)
      have new : ∀ t ∈ ts, H1 t = none := fun t ht => I1.hok.fresh (by have := g4.lo t ht; exact far6 eS this)
      have newS : H1 S = none := I1.hok.fresh (by rw [eS]; exact Nat.le_add_right _ _)
      have atP := putP_at ts (xs.zip ys) (upd H1 S (.lst (ts.map V.ref))) lz g4.nd
      have off : ∀ b, b ∉ ts → b ≠ S → putP (upd H1 S (.lst (ts.map V.ref))) ts (xs.zip ys) b = H1 b := fun b h1 h2 => by rw [putP_off ts _ _ h1, upd_ne h2]
      have low : ∀ b o, s1.heap.get? b = some o → b ∉ ts ∧ b ≠ S := fun b o e => by
        have lt : b < s1.heap.objs.size := Heap.lt_size e
        exact ⟨fun z => absurd (g4.lo b z) (by rw [eS]; exact far7 lt), by rw [eS]; exact far5 lt⟩
      have kp : ∀ b u, H1 b = some u → (putP (upd H1 S (.lst (ts.map V.ref))) ts (xs.zip ys)) b = some u := fun b u e => by
        rw [off b (fun z => by rw [new b z] at e; cases e) (fun z => by rw [z, newS] at e; cases e)]
        exact e
      have eAt : putP (upd H1 S (.lst (ts.map V.ref))) ts (xs.zip ys) S = some (.lst (ts.map V.ref)) := by rw [putP_off ts _ _ hSn, upd_same]
      have J : Inv X pins σ (putP (upd H1 S (.lst (ts.map V.ref))) ts (xs.zip ys)) { s1 with heap := h2' } := by
        refine I1.call' (ch := []) rfl ⟨fun b o q _ _ _ => k0 b o q, fun b o q _ _ _ => ⟨o.slots, k0 b o q⟩, fun b o q n _ => ?_, fun b o q _ => ⟨o, k0 b o q⟩, fun b xs q => kp b _ q, fun b o u q => kp b _ q, fun b ps q => ⟨#[], by rw [kp b _ q]; simp⟩⟩ (fun b u q => ?_) I1.bare fun b z => by simp at z
        · obtain ⟨z1, z2⟩ := low b o q
          rw [off b z1 z2]
          exact n
        · by_cases hb : b ∈ ts
          · obtain ⟨j, pk, e1, e2, e3⟩ := paired_ix atP hb
            rw [e3] at q
            cases q
            obtain ⟨x, y, f1, f2, f3⟩ := g4.at_ j b e1
            rw [List.getElem?_zip_eq_some] at e2
            obtain ⟨u1, v1, w1⟩ := rv.get e2.1
            obtain ⟨u2, v2, w2⟩ := rv2.get e2.2
            have f1' : its[j]? = some x := by simpa using f1
            have f2' : its2[j]? = some y := by simpa using f2
            rw [f1'] at v1
            cases v1
            rw [f2'] at v2
            cases v2
            exact ⟨by show 2 ≤ sizeLine; decide, [x, y], .cons w1 (.cons w2 .nil), ⟨_, f3, rfl, _, rfl⟩⟩
          · by_cases hb2 : b = S
            · rw [hb2] at q ⊢
              rw [eAt] at q
              cases q
              refine ⟨by rw [List.length_map, lz, List.length_zip]; omega, acc'.toList, c', by rw [g2]; exact vals_refs ts, ?_⟩
              rw [Array.toArray_toList]
              exact g1
            · rw [off b hb hb2] at q
              exact (I1.hok b u q).stay (fun d v _ y => k0 d v y) (fun d y => kp d _ y) fun d xs y => kp d _ y
      exact ⟨.ref S, _, J, rfl, q _ S ts kp newS new hSn eAt atP⟩
end
end TP
/-! TPMore -/
set_option maxHeartbeats 4000000
/-! # Calls by keywords alone, comprehensions over pairs, the pot's heap, properties' looks -/
namespace TP
open PySem PySem.Spec PyProof.Rows L2
/-! ### keywords -/
def permV {α : Type} (ix : List Nat) (us ws : List α) : List α := ix.filterMap fun i => (us ++ ws)[i]?
theorem permV_rel {vs : List V} {us : List Value} {zs : List V} {ws : List Value} (r : Vals vs us) (z : Vals zs ws) : ∀ ix : List Nat, Vals (permV ix vs zs) (permV ix us ws)
  | [] => .nil
  | i :: ix => by
    have ih := permV_rel r z ix
    have ra := r.append z
    unfold permV at ih ⊢
    rw [List.filterMap_cons, List.filterMap_cons]
    cases e : (vs ++ zs)[i]? with
    | none =>
      have e2 : (us ++ ws)[i]? = none := Vals.none_of ra e
      rw [e2]
      exact ih
    | some x =>
      obtain ⟨u, e2, h2⟩ := Vals.get ra e
      rw [e2]
      exact .cons h2 ih
section
variable {K : Fr} {x qual : Str} {params : Arguments} {body : List Stmt} {scope : Scope} {f : Addr} {fd : FuncData} {ps : List Str}
theorem kbN (F : FunD K x qual params body scope [] [] f fd) (n : Nat) (ks : List Str) (ix : List Nat)
    (h : ∀ (kV doc pm : Value) (an : Option Addr) (cdv ct : Value) (us ws : List Value), us.length = n → ws.length = ks.length → bindArgs (PySem.W.fnOf x qual params body scope .none kV doc pm an cdv ct) ⟨us, ks.zip ws⟩ = pure (ps.zip (permV ix us ws))) : KBn K fd ps n ks (permV ix) (permV ix) := by
  obtain ⟨oc, od, dV, kV, doc, pm, an, cdv, ct, osl, rfl, lk, hcd, hD, hK⟩ := F.ex
  rcases hD with ⟨_, rfl⟩ | ⟨e, _⟩
  · exact ⟨fun s us ws _ l1 l2 => .of_eq (h kV doc pm an cdv ct us ws l1 l2), fun r z => permV_rel r z ix⟩
  · exact absurd rfl e
end
section
variable {X : Cx} {CX : CXT} {k n : Nat} {f : Addr} {fd : FuncData} {ps ks : List Str} {sp : Sp} {E : XK} {x : Str} {p pos : Pos} {kws : List Keyword} {tk : TA} {g : List Value → List Value → List Value} {gV : List V → List V → List V}
/-- f(k = v, ..), keywords alone -/
theorem pe_callN0 (F : FnOk X.prog X.w X.K X.mg X.base CX k f fd ps sp) (hr : Room k X.A) (hg : Gl X x) (hm : X.mg x = some (.ref f)) (hk : PySem.W.keepIn X.K (.ref f) = true) (hb : KBn X.K fd ps 0 ks g gV) (hx : Passes CX X E)
    (hkw : PK X kws tk) (hall : (backToKw pos (keywordEach kws X.env)).all (·.1.isSome) = true := by rfl) (hks : (backToKw pos (keywordEach kws X.env)).filterMap (·.1) = ks := by rfl)
    (hdb : (x == ("__debug__" : Str)) = false := by decide)
    (hpl : ((backTo pos (starEach [] X.env)).any (·.1) || (backToKw pos (keywordEach kws X.env)).any (·.1.isNone)) = false := by rfl) :
    PE X (.Call (.Name x p) [] kws pos) (tCallN 0 ks.length sp gV E tNil tk) := by
  refine ⟨fun pins s σ H Q I h => ?_⟩
  refine wpAny_Call_Name_kw (ld_glob I hg hm ?_ hdb)
  refine PySem.W.callWith_KW0 (h₀ := X.base) I.ok.mod.kin hk hall ?_ hpl
  refine thn (hkw.run pos pins s σ H _ I h) fun ws s2 ⟨zs, H2, I2, rz, l1, l2, q2⟩ => ⟨I2.kIn, ?_⟩
  rw [hks]
  exact run_fnN (us := []) (vs := []) F hr hb hx I2 .nil rz rfl l2 q2
theorem ip_fdiv : PIp X .FloorDiv rFdivI := fun pins s σ H x y v u Q I r1 r2 h => iop_fdiv pins s σ H x y v u Q I r1 r2 h
end
/-! ### comprehensions over new pairs -/
section
variable {K : Fr} {σ : L2.St} {H : Hp} {te : TE} {Q : VK} {j1 j2 : Nat} {ta : TA}
/-- [e for x, y in zip(xs, ys)] -/
theorem lcZip {a b : Addr} {xs ys : List V} (f : V → V → V) (hv : ∀ Q : List V → Hp → Prop, Q [.ref a, .ref b] H → ta σ H Q) (hx : SqL K H a xs) (hy : SqL K H b ys) (hz : xs.length ≤ 100000)
    (hw : ∀ x y, wipe (((wipe σ [j1, j2]).set j1 (some x)).set j2 (some y)) [j1, j2] = wipe σ [j1, j2])
    (he : ∀ (i : Nat) (x y : V), xs[i]? = some x → ys[i]? = some y → Wv te (((wipe σ [j1, j2]).set j1 (some x)).set j2 (some y)) H (f x y)) (q : Evl.RetL (List.zipWith f xs ys) H Q) :
    tLc (iZip K ta) (gTup K 2 (gCons (gName j1) (gCons (gName j2) gNil))) tYes te [j1, j2] σ H Q := by
  refine hv _ ⟨a, b, xs, ys, rfl, hx, hy, fun D nD => lc_it (walk_zip (xs := xs) (ys := ys) rfl) (fun i H' => Ex H H' ∧ H' D = some (.lst (List.zipWith f (xs.take i) (ys.take i)))) ⟨Ex.new nD, upd_same⟩ (fun i H' _ p => ⟨p.1.seq hx, p.1.seq hy⟩) (fun i v H1 H' hi p y => ?_) (fun H' p => ?_)⟩
  · obtain ⟨T, x, y', rfl, nT, rfl, e1, e2⟩ := y
    replace e1 : xs[i]? = some x := e1
    replace e2 : ys[i]? = some y' := e2
    have h1 : Ex H1 (upd H1 T (.tup [x, y'])) := Ex.new nT
    refine ⟨T, _, rfl, sqT upd_same, rfl, _, _, rfl, _, _, rfl, rfl, hw x y', ?_⟩
    refine lcTurn (b := true) nD (p.1.trans h1) (h1 _ _ p.2) ?_ wvYes (fun _ => he i x y' e1 e2) (fun H' => Ex H H' ∧ H' D = some (.lst (List.zipWith f (xs.take (i + 1)) (ys.take (i + 1))))) (fun H2 e2' h2 => ⟨e2', ?_⟩)
    · rw [List.length_zipWith, List.length_take]
      have : 100000 < sizeLine := by decide
      omega
    · rw [h2, List.take_add_one, List.take_add_one, e1, e2, List.zipWith_append]
      · rfl
      · have := (List.getElem?_eq_some_iff.mp e1).1
        have := (List.getElem?_eq_some_iff.mp e2).1
        rw [List.length_take, List.length_take]; omega
  · have h := p.2
    refine q D H' nD p.1 ?_
    rw [h]
    congr 2
    have e : ∀ (xs ys : List V), List.zipWith f (xs.take (min xs.length ys.length)) (ys.take (min xs.length ys.length)) = List.zipWith f xs ys := by
      intro xs
      induction xs with
      | nil => intro ys; simp
      | cons x xs ih =>
        intro ys
        cases ys with
        | nil => simp
        | cons y ys =>
          have e1 : min (x :: xs).length (y :: ys).length = min xs.length ys.length + 1 := by simp only [List.length_cons]; omega
          rw [e1, List.take_succ_cons, List.take_succ_cons, List.zipWith_cons_cons, List.zipWith_cons_cons, ih ys]
    exact e xs ys
theorem paired_get {α β : Type} {F : α → β → Prop} : ∀ {l : List α} {m : List β}, Paired F l m → ∀ {i : Nat} {x : α}, l[i]? = some x → ∃ y, m[i]? = some y ∧ F x y
  | _, _, .nil, _, _, h => by simp at h
  | _, _, .cons r t, 0, x, h => by simp at h; subst h; exact ⟨_, rfl, r⟩
  | _, _, .cons r t, i + 1, x, h => by
    obtain ⟨y, e, f⟩ := paired_get t (i := i) (x := x) (by simpa using h)
    exact ⟨y, by simpa using e, f⟩
/-- [e for x, y in ps], ps a list of pairs -/
theorem lcPairs {a : Addr} {ts : List Addr} {ps : List (V × V)} {tl : TE} (f : V → V → V) (hv : ∀ Q : VK, Q (.ref a) H → tl σ H Q) (hx : SqL K H a (ts.map V.ref)) (hp : Paired (fun (t : Addr) (q : V × V) => H t = some (.tup [q.1, q.2])) ts ps) (hz : ps.length ≤ 100000)
    (hw : ∀ x y, wipe (((wipe σ [j1, j2]).set j1 (some x)).set j2 (some y)) [j1, j2] = wipe σ [j1, j2])
    (he : ∀ (i : Nat) (x y : V), ps[i]? = some (x, y) → Wv te (((wipe σ [j1, j2]).set j1 (some x)).set j2 (some y)) H (f x y)) (q : Evl.RetL (ps.map fun z => f z.1 z.2) H Q) :
    tLc (iList K tl) (gTup K 2 (gCons (gName j1) (gCons (gName j2) gNil))) tYes te [j1, j2] σ H Q := by
  have hl : ts.length = ps.length := Paired.length hp
  refine hv _ ⟨a, rfl, ⟨_, hx⟩, fun D nD => lc_list (xs := ts.map V.ref) (fun i H' => Ex H H' ∧ H' D = some (.lst ((ps.take i).map fun z => f z.1 z.2))) ⟨Ex.new nD, upd_same⟩ (fun i H' _ p => p.1.seq hx) (fun i x H' hi p => ?_) (fun H' p => ?_)⟩
  · rw [List.getElem?_map] at hi
    cases et : ts[i]? with
    | none => rw [et] at hi; cases hi
    | some t =>
      rw [et] at hi
      cases hi
      obtain ⟨⟨x, y⟩, e1, e2⟩ := paired_get hp et
      have hi2 := (List.getElem?_eq_some_iff.mp e1).1
      refine ⟨t, _, rfl, sqT (p.1 _ _ e2), rfl, _, _, rfl, _, _, rfl, rfl, hw x y, ?_⟩
      refine lcTurn (b := true) nD p.1 p.2 ?_ wvYes (fun _ => he i x y e1) (fun H' => Ex H H' ∧ H' D = some (.lst ((ps.take (i + 1)).map fun z => f z.1 z.2))) (fun H2 e2' h2 => ⟨e2', ?_⟩)
      · rw [List.length_map, List.length_take]
        have : 100000 < sizeLine := by decide
        omega
      · rw [h2, List.take_add_one, e1, List.map_append]
        rfl
  · have h := p.2
    rw [List.length_map, hl, List.take_of_length_le (Nat.le_refl _)] at h
    exact q D H' nD p.1 h
/-- a dict comprehension over it -/
theorem dc_it {J : It} {n : Nat} {G : Hp → Prop} {Y : Nat → Hp → V → Hp → Prop} (w : Walk J n G Y) {g : TG} {tt : TT} {tk tv : TE} {vs : List Nat} {σ : L2.St} {H1 : Hp} {D : Addr} {Qd : Hp → Prop} (Pv : Nat → Hp → Prop) (h0 : Pv 0 (upd H1 D (.dK []))) (hG : ∀ i H, i ≤ n → Pv i H → G H)
    (hs : ∀ i x H H', i < n → Pv i H → Y i H x H' → g x (wipe σ vs) H' fun σ2 H2 => wipe σ2 vs = wipe σ vs ∧ tt σ2 H2 fun b H3 =>
      if b = true then tk σ2 H3 fun y H4 => tv σ2 H4 fun z H5 => ∃ kvs k, y = kV k ∧ H5 D = some (.dK kvs) ∧ kvs.length < sizeLine ∧ Pv (i + 1) (upd H5 D (.dK (putK kvs k z))) else Pv (i + 1) H3) (hd : ∀ H, Pv n H → Qd H) :
    ∃ W : Nat → Nat → Hp → Prop, (∃ m, W 0 m (upd H1 D (.dK []))) ∧ ∀ i m H, W i m H →
      (J.stop i H ∧ Qd H) ∨ (J.go i H ∧ ∃ Nx : Hp → Prop, (∀ H', Nx H' → ∃ m', m' < m ∧ W (i + 1) m' H') ∧ ∀ x H', J.yld i H x H' → g x (wipe σ vs) H' fun σ2 H2 => wipe σ2 vs = wipe σ vs ∧ tt σ2 H2 fun b H3 =>
        if b = true then tk σ2 H3 fun y H4 => tv σ2 H4 fun z H5 => ∃ kvs k, y = kV k ∧ H5 D = some (.dK kvs) ∧ kvs.length < sizeLine ∧ Nx (upd H5 D (.dK (putK kvs k z))) else Nx H3) := by
  refine ⟨fun i m H => m = n - i ∧ i ≤ n ∧ Pv i H, ⟨n, by simp, Nat.zero_le _, h0⟩, ?_⟩
  rintro i m H ⟨rfl, hi, p⟩
  have q := hG i H hi p
  by_cases hlt : i < n
  · refine .inr ⟨w.goes i H hlt q, Pv (i + 1), fun H' p' => ⟨n - (i + 1), by omega, rfl, hlt, p'⟩, fun x H' y => hs i x H H' hlt p (w.yields i H x H' hlt q y)⟩
  · have e : i = n := by omega
    subst e
    exact .inl ⟨w.stops H q, hd H p⟩
theorem tYesI {σ : L2.St} {H : Hp} {Q : Bool → Hp → Prop} (h : Q true H) : tYes σ H Q := h
/-- the places of the numbers in a list -/
def PlacesIn (kvs : List (Key × V)) (ns : List Int) : Prop := kvs.length ≤ 100000 ∧ ∀ (j : Nat) (x : Int), ns[j]? = some x → valV kvs (.inl x) = some (.int (j : Nat))
/-- {x: i for i, x in enumerate(xs)} -/
theorem dcEnum {a : Addr} {ns : List Int} {tk tv : TE} (hv : ∀ Q : List V → Hp → Prop, Q [.ref a] H → ta σ H Q) (hx : SqL K H a (ns.map V.int)) (hz : ns.length ≤ 100000) (hn : ns.Nodup)
    (hw : ∀ x y, wipe (((wipe σ [j1, j2]).set j1 (some x)).set j2 (some y)) [j1, j2] = wipe σ [j1, j2])
    (hk : ∀ x y H Q, Q y H → tk (((wipe σ [j1, j2]).set j1 (some x)).set j2 (some y)) H Q) (hx2 : ∀ x y H Q, Q x H → tv (((wipe σ [j1, j2]).set j1 (some x)).set j2 (some y)) H Q)
    (q : ∀ D H' kvs, H D = none → Ex H H' → H' D = some (.dK kvs) → PlacesIn kvs ns → Q (.ref D) H') :
    tDc (iEnum K ta) (gTup K 2 (gCons (gName j1) (gCons (gName j2) gNil))) tYes tk tv [j1, j2] σ H Q := by
  refine hv _ ⟨a, _, rfl, hx, fun D nD => dc_it walk_enum (fun i H' => Ex H H' ∧ ∃ kvs, H' D = some (.dK kvs) ∧ kvs.length ≤ i ∧ ∀ (j : Nat) (x : Int), j < i → ns[j]? = some x → valV kvs (.inl x) = some (.int (j : Nat))) ⟨Ex.new nD, [], upd_same, Nat.le_refl _, fun j x h => absurd h (Nat.not_lt_zero _)⟩
    (fun i H' _ p => p.1.seq hx) (fun i v H1 H' hi p y => ?_) (fun H' p => ?_)⟩
  · obtain ⟨T, x, y', rfl, nT, rfl, e1, e2⟩ := y
    cases e1
    obtain ⟨eH, kvs, hD, hl, hj⟩ := p
    have h1 : Ex H1 (upd H1 T (.tup [V.int (i : Nat), y'])) := Ex.new nT
    replace e2 : (ns.map V.int)[i]? = some y' := e2
    rw [List.getElem?_map] at e2
    cases e3 : ns[i]? with
    | none => rw [e3] at e2; cases e2
    | some x =>
      rw [e3] at e2
      cases e2
      rw [List.length_map] at hi
      refine ⟨T, _, rfl, sqT upd_same, rfl, _, _, rfl, _, _, rfl, rfl, hw _ _, ?_⟩
      refine tYesI ?_
      rw [if_pos rfl]
      refine hk _ _ _ _ (hx2 _ _ _ _ ⟨kvs, .inl x, rfl, h1 _ _ hD, ?_, Ex.mut (eH.trans h1) nD, _, upd_same, ?_, ?_⟩)
      · have : 100000 < sizeLine := by decide
        omega
      · have := length_putK kvs (.inl x) (V.int (i : Nat)); omega
      · intro j z hj' hz'
        rw [valV_put]
        by_cases c : (Sum.inl z : Key) = .inl x
        · rw [if_pos c]
          have : z = x := Sum.inl.inj c
          subst this
          have : j = i := (List.getElem?_inj (by have := (List.getElem?_eq_some_iff.mp hz').1; exact this) hn).mp (hz'.trans e3.symm)
          rw [this]
        · rw [if_neg c]
          have : j ≠ i := fun e => by subst e; rw [e3] at hz'; cases hz'; exact c rfl
          exact hj j z (by omega) hz'
  · obtain ⟨eH, kvs, hD, hl, hj⟩ := p
    rw [List.length_map] at hl hj
    exact q D H' kvs nD eH hD ⟨by omega, fun j x hx => hj j x (List.getElem?_eq_some_iff.mp hx).1 hx⟩
end
/-! ### a loop down -/
theorem forDown {D : Ends} {tb : TS} {σ : L2.St} {H : Hp} {j : Nat} {ta : TA} {lo hi : Int} (Pv : Nat → L2.St → Hp → Prop) (hv : ∀ Q : List V → Hp → Prop, Q [.int lo, .int hi, .int (-1)] H → ta σ H Q) (hn : -(2 ^ 62) ≤ lo ∧ lo < 2 ^ 62 ∧ -(2 ^ 62) ≤ hi ∧ hi < 2 ^ 62) (h0 : Pv 0 σ H)
    (hs : ∀ (i : Nat) σ H, i < (lo - hi).toNat → Pv i σ H → tb { D with nx := Pv (i + 1), ct := Pv (i + 1), bk := D.nx } (σ.set j (some (.int (lo - (i : Int))))) H) (hd : ∀ σ H, Pv (lo - hi).toNat σ H → D.nx σ H) : tFor (iRng3 ta) (gName j) tb D σ H := by
  refine hv _ ⟨lo, hi, -1, (lo - hi).toNat, rfl, RgC.neg hn.1 hn.2.1 hn.2.2.1 hn.2.2.2, for_rangeC (lo := lo) (c := -1) Pv h0 (fun i σ' H' hi' p => ?_) hd⟩
  have e0 : lo + (i : Int) * (-1) = lo - (i : Int) := by omega
  show tb _ (σ'.set j (some (.int (lo + (i : Int) * (-1))))) H'
  rw [e0]
  exact hs i σ' H' hi' p
/-! ### the pot of draws: what else is known stays -/
def ExP (p : Addr) (H H' : Hp) : Prop := ∀ x o, x ≠ p → H x = some o → H' x = some o
def Po (p : Addr) (H : Hp) : Prop := ∃ m s : Int, H p = some (.lst [.int m, .int s]) ∧ 0 ≤ m ∧ 0 ≤ s ∧ s < 2 ^ 40
theorem ExP.refl (p : Addr) (H : Hp) : ExP p H H := fun _ _ _ h => h
theorem ExP.trans {p : Addr} {H H1 H2 : Hp} (a : ExP p H H1) (b : ExP p H1 H2) : ExP p H H2 := fun x o n h => b x o n (a x o n h)
theorem Ex.p {p : Addr} {H H' : Hp} (e : Ex H H') : ExP p H H' := fun x o _ h => e x o h
theorem Po.ex {p : Addr} {H H' : Hp} (h : Po p H) (e : Ex H H') : Po p H' := by
  obtain ⟨m, s, h, r⟩ := h
  exact ⟨m, s, e _ _ h, r⟩
theorem Po.ne {p a : Addr} {H : Hp} (h : Po p H) (n : H a = none) : a ≠ p := by
  obtain ⟨m, s, h, _⟩ := h
  rintro rfl
  rw [n] at h; cases h
theorem Po.neT {p a : Addr} {H : Hp} {xs : List V} (h : Po p H) (n : H a = some (.tup xs)) : a ≠ p := by
  obtain ⟨m, s, h, _⟩ := h
  rintro rfl
  rw [n] at h; cases h
theorem Po.neL {p a : Addr} {H : Hp} {xs : List V} (h : Po p H) (n : H a = some (.lst xs)) (l : xs.length ≠ 2) : a ≠ p := by
  obtain ⟨m, s, h, _⟩ := h
  rintro rfl
  rw [n] at h; cases h; exact l rfl
/-! ### looks of one's own: properties -/
def propB (K : Fr) (C f : Str) : Bool := match PySem.W.findIn K (.ref (He.ga K C)) f with
  | some (some (.ref p)) => (match PySem.W.specialIn K (.ref p) "__get__" with
    | some (some (.builtin n)) => decide (n = "property.__get__")
    | _ => false) && ((match PySem.W.takesIn K (.ref p) with
    | some true => true
    | _ => false) && (match PySem.W.recIn K p "property" with
    | some (.ref _ :: _) => true
    | _ => false))
  | _ => false
theorem propB_ok {K : Fr} {C f : Str} (h : propB K C f = true) : ∃ p, PropOf K (He.ga K C) f p (gtr K C f) := by
  unfold propB at h
  split at h
  · rename_i p e
    obtain ⟨h1, h2⟩ := Bool.and_eq_true_iff.mp h
    obtain ⟨h3, h4⟩ := Bool.and_eq_true_iff.mp h2
    refine ⟨p, e, ?_, ?_, ?_⟩
    · split at h1
      · rename_i n e1
        rw [e1, of_decide_eq_true h1]
      · cases h1
    · split at h3
      · rename_i e1; exact e1
      · cases h3
    · split at h4
      · rename_i g rest e1
        refine ⟨rest, ?_⟩
        unfold gtr
        rw [e]
        dsimp only
        rw [e1]
      · cases h4
  · cases h
end TP
/-! TPE -/
set_option maxHeartbeats 4000000
/-! # An own exception, made without arguments; a call by keywords alone that may raise -/
namespace TP
open PySem PySem.Spec PyProof.Rows L2
section
variable {X : Cx} {C : Addr} {bmB : List Value} {B newId initId : String}
theorem pmk_own0 {x : Str} {p pos : Pos} (F : ExcBaseFacts B newId initId bmB) (q : PySem.W.excIn X.K C bmB newId = true) (gC : X.mg x = some (.ref C)) (kC : PySem.W.keepIn X.K (.ref C) = true) (r : Raises X (.ref C)) (hg : Gl X x)
    (hdb : (x == ("__debug__" : Str)) = false := by decide) : PMk X (.Call (.Name x p) [] [] pos) (fun _ H Q => Q (.ref C) none H) := by
  intro pins s σ H Q I h
  refine wpAny_Call_Name_kw (ld_glob I hg gC ?_ hdb)
  refine PySem.W.callWith_K0 I.kIn kC ?_
  obtain ⟨bm, N, nm, qn, bs, hdct, sn, sub, ab, col, dd, k0, k1, k2, k3, k5, mN, hC, hN, hni, T⟩ := exc_obj I.kIn q
  refine wpAny_call_exc_subT F T hC hN hni (fun h' e hm => ?_) (by show 0 ≤ sizeLine; exact Nat.zero_le _)
  exact mk_of I hm r h (I.hok.gone hm.new)
end
def rtBase : List Value := [.type "RuntimeError", .type "Exception", .type "BaseException", .type "object"]
/-- what the text must say of an own error below RuntimeError -/
def excRB (K : Fr) (x : Str) : Bool := PySem.W.excIn K (He.ga K x) rtBase "RuntimeError.__new__" && (PySem.W.keepIn K (.ref (He.ga K x)) && (decide (PySem.W.subIn K (.ref (He.ga K x)) (.type "BaseException") = some true) && decide (PySem.W.typeIn K (.ref (He.ga K x)) = some (.type "type"))))
theorem excRB_ok {K : Fr} {x : Str} (h : excRB K x = true) : PySem.W.excIn K (He.ga K x) rtBase "RuntimeError.__new__" = true ∧ PySem.W.keepIn K (.ref (He.ga K x)) = true ∧ PySem.W.subIn K (.ref (He.ga K x)) (.type "BaseException") = some true ∧ PySem.W.typeIn K (.ref (He.ga K x)) = some (.type "type") := by
  obtain ⟨h1, h⟩ := He.ba h
  obtain ⟨h2, h⟩ := He.ba h
  obtain ⟨h3, h4⟩ := He.ba h
  exact ⟨h1, h2, of_decide_eq_true h3, of_decide_eq_true h4⟩
/-- f(k = v, ..), keywords alone; what it may let out is told by the slots -/
def tCallNS (m : Nat) (sp : Sp) (gV : List V → List V → List V) (E : L2.St → XK) (tk : TA) : TE := fun σ H Q => tk σ H fun zs H2 => zs.length = m ∧ sp (gV [] zs) H2 Q (E σ)
section
variable {X : Cx} {CX : CXT} {k : Nat} {f : Addr} {fd : FuncData} {ps ks : List Str} {sp : Sp} {E : L2.St → XK} {x : Str} {p pos : Pos} {kws : List Keyword} {tk : TA} {g : List Value → List Value → List Value} {gV : List V → List V → List V}
theorem pe_callNS (F : FnOk X.prog X.w X.K X.mg X.base CX k f fd ps sp) (hr : Room k X.A) (hg : Gl X x) (hm : X.mg x = some (.ref f)) (hk : PySem.W.keepIn X.K (.ref f) = true) (hb : KBn X.K fd ps 0 ks g gV) (hx : ∀ σ, PassesAt CX X σ (E σ))
    (hkw : PK X kws tk) (hall : (backToKw pos (keywordEach kws X.env)).all (·.1.isSome) = true := by rfl) (hks : (backToKw pos (keywordEach kws X.env)).filterMap (·.1) = ks := by rfl) (hdb : (x == ("__debug__" : Str)) = false := by decide)
    (hpl : ((backTo pos (starEach [] X.env)).any (·.1) || (backToKw pos (keywordEach kws X.env)).any (·.1.isNone)) = false := by rfl) :
    PE X (.Call (.Name x p) [] kws pos) (tCallNS ks.length sp gV E tk) := by
  refine ⟨fun pins s σ H Q I h => wpAny_Call_Name_kw (ld_glob I hg hm ?_ hdb)⟩
  refine PySem.W.callWith_KW0 (h₀ := X.base) I.ok.mod.kin hk hall (thn (hkw.run pos pins s σ H _ I h) fun ws s2 ⟨zs, H2, J, rz, l2, pre⟩ => ⟨J.kIn, ?_⟩) hpl
  rw [hks]
  have rel := hb.rel (.nil : Vals [] []) rz
  refine wpAny_call (codeAny_mono (F.run X.A X.stack s2 H2 ⟨[], ks.zip ws⟩ (g [] ws) (gV [] zs) Q (E σ) hr J.env0 (hb.to s2 [] ws J.kIn rfl (rz.length.symm.trans l2)) rel pre) fun r s3 out => ?_)
  match r, out with
  | .ok (.ret u), out => exact J.after out
  | .ok .next, out => exact False.elim out
  | .ok .brk, out => exact False.elim out
  | .ok .cont, out => exact False.elim out
  | .error er, out => exact hx σ pins H2 s2 er s3 J out
end
end TP
/-! TPF -/
set_option maxHeartbeats 4000000
/-! # a, b = two constants: stored from the left -/
namespace TP
open PySem PySem.Spec PyProof.Rows L2
section
variable {X : Cx} {pos : Pos}
theorem ps_parC {i j : Nat} {x y : Str} {a b : Expr} {ta : TA} {px py pt : Pos} {kt k2 pt2} (hc : X.calm = true) (hN : X.N.Nodup) (hi : X.N[i]? = some x) (hj : X.N[j]? = some y) (hij : i ≠ j)
    (hx : X.env.scope.names.lookup x = some .local) (hy : X.env.scope.names.lookup y = some .local) (ha : PA X [a, b] ta)
    (hw : swappedStores [.Tuple [.Name x px, .Name y py] kt pt] (.Tuple [a, b] k2 pt2) X.env = pure none)
    (hs : swapsWithSole [.Tuple [.Name x px, .Name y py] kt pt] (.Tuple [a, b] k2 pt2) pos.line X.env = pure false := by rfl) :
    PS X (.Assign [.Tuple [.Name x px, .Name y py] kt pt] (.Tuple [a, b] k2 pt2) pos) (tPar i j ta) := by
  refine ⟨fun pins s σ H D I h => ?_⟩
  refine Assign_Tuple ?_ hs hw
  refine Tuple_ (thn (ha.run _ pins s σ H _ I h) fun us s1 ⟨vs, H1, I1, r1, q1⟩ => ?_)
  obtain ⟨v, w, e1, q1⟩ := q1
  subst e1
  obtain ⟨u1, u2, rfl, rv, rw'⟩ : ∃ u1 u2, us = [u1, u2] ∧ RelV v u1 ∧ RelV w u2 := by
    cases r1 with
    | cons p q =>
      cases q with
      | cons p' q' =>
        cases q'
        exact ⟨_, _, rfl, p, p'⟩
  refine wpAny_newObj_type ?_ (by show 2 ≤ sizeLine; decide)
  have I2 : Inv X pins σ H1 { s1 with heap := s1.heap.push { cls := .type "tuple", data := .seq [u1, u2].toArray } } := I1.kept (t' := s1.toks) fun b o e => Heap.get?_push_of_some _ e
  refine assign_Tuple_tuple (items := #[u1, u2]) (I1.ok.hd hc) (IsTup.new s1.heap _) rfl rfl fun h' hx' => ?_
  have I3 := I2.kept (h' := h') (t' := s1.toks) fun b o e => hx' b o (Nat.ne_of_lt (Heap.lt_size e)) e
  show wpAny _ _ (assignInOrder [assign (.Name x px) X.env, assign (.Name y py) X.env] [u1, u2]) _ _ _
  refine assignInOrder_cons (wpAny_assign_Name (store_ok I3 hN hi (.inl hx) rv (fun s2 I4 => ?_) (.inr hx)))
  refine assignInOrder_cons (wpAny_assign_Name (store_ok I4 hN hj (.inl hy) rw' (fun s3 I5 => assignInOrder_nil ?_) (.inr hy)))
  exact ⟨_, H1, I5, q1⟩
end
end TP
/-! PFd -/
set_option maxHeartbeats 4000000
namespace TP
open PySem PySem.Spec PyProof.Rows L2
local macro_rules | `(tactic| walk_at "s1") => `(tactic| first | refine ⟨_, rfl, ?_⟩ | refine ⟨_, _, rfl, rfl, ?_⟩ | refine ⟨rfl, ?_⟩ | refine iteT ?_ | refine iteF ?_)
local macro_rules | `(tactic| walk_at "st") => `(tactic| (repeat (walk_at "s1")))
local macro_rules | `(tactic| walk_at "sq") => `(tactic| first | assumption | exact sqL (by assumption) | exact sqT (by assumption) | (refine Ex.seq (by assumption) ?_; walk_at "sq") | (refine Ex.tup (by assumption) ?_; walk_at "sq"))
local macro_rules | `(tactic| walk_at "at") => `(tactic| first | assumption | (refine (show Ex _ _ by assumption) _ _ ?_; walk_at "at"))
local macro_rules | `(tactic| walk_at "sl") => `(tactic| ((try dsimp only); refine tSeqI ?_; (try dsimp only)))

variable {K : Fr}
/-! ### units_of -/
def unitsP (p : Int) (n : Nat) : List Int := (List.range (n + 1)).map fun i => p ^ i
theorem unitsP_succ (p : Int) (n : Nat) : unitsP p (n + 1) = unitsP p n ++ [p ^ (n + 1)] := by
  unfold unitsP
  rw [List.range_succ, List.map_append]
  rfl
theorem unitsP_zero (p : Int) : unitsP p 0 = [1] := by simp [unitsP]
theorem unitsP_ne (p : Int) (n : Nat) : unitsP p n ≠ [] := fun e => by
  have := congrArg List.length e
  unfold unitsP at this
  rw [List.length_map, List.length_range] at this
  simp at this
theorem unitsP_last (p : Int) (n : Nat) : (unitsP p n).getLastD 0 = p ^ n := by
  cases n with
  | zero => rfl
  | succ n => rw [unitsP_succ]; simp
theorem unitsP_len (p : Int) (n : Nat) : (unitsP p n).length = n + 1 := by
  unfold unitsP
  rw [List.length_map, List.length_range]
theorem unitsP_get {p : Int} {n j : Nat} (h : j ≤ n) : (unitsP p n).getD j 0 = p ^ j := by
  unfold unitsP
  rw [List.getD_eq_getElem?_getD, List.getElem?_map, List.getElem?_range (by omega)]
  rfl
theorem tyVL {H : Hp} {l : Addr} {xs : List V} (h : SqL K H l xs) : tyV K "list" (.ref l) H := .inl ⟨rfl, xs, h⟩
def sp_units_of (K : Fr) : Sp := fun vs H Q _ => ∃ p, ∃ n : Nat, vs = [.int p, .int n] ∧ (2 ≤ p ∧ p ≤ 7) ∧ n ≤ 20 ∧ Evl.RetL ((unitsP p n).map V.int) H Q
theorem len_units_of (vs : List V) (H : Hp) (Q : VK) (E : XK) (h : sp_units_of K vs H Q E) : vs.length = 2 := by obtain ⟨_, _, rfl, _⟩ := h; rfl
def t_units_of (K : Fr) : TS := (tSeq (tAsg (tLst (tCons (tC (.int 1)) tNil)) (gName 2)) (tSeq (tFor (iRng1 (tCons (tVar 1) tNil)) (gName 3) (tDrop (tBM K "list" rAppend (tVar 2) (tCons (tOp rMulI (tOp (rIxL K) (tVar 2) (tUn rNeg (tC (.int 1)))) (tVar 0)) tNil)))) (tRet (tVar 2))))
theorem pow_le7 {p : Int} (h : 2 ≤ p ∧ p ≤ 7) : ∀ n : Nat, 1 ≤ p ^ n ∧ p ^ n ≤ 7 ^ n
  | 0 => ⟨by simp, by simp⟩
  | n + 1 => by
    have ih := pow_le7 h n
    rw [Int.pow_succ, Int.pow_succ]
    have h1 : p ^ n * p ≤ 7 ^ n * 7 := Int.mul_le_mul ih.2 h.2 (by omega) (by omega)
    have h2 : p ^ n * 1 ≤ p ^ n * p := Int.mul_le_mul_of_nonneg_left (by omega) (by omega)
    rw [Int.mul_one] at h2
    exact ⟨Int.le_trans ih.1 h2, h1⟩
theorem pure_units_of (vs : List V) (H : Hp) (Q : VK) (E : XK) (h : sp_units_of K vs H Q E) : t_units_of K { nx := fun _ H' => Q .non H', rt := Q } (start ["prime", "turns", "units", "_"] vs) H := by
  obtain ⟨p, n, rfl, hp, hn, q⟩ := h
  refine ⟨by decide, ?_⟩
  intro l n0; generalize E_ : upd _ l _ = H0; have e0 := genE E_ n0; have h0 := genS E_; clear E_
  walk_at "sl"
  refine forR1 (n := (n : Int)) (fun i σ H' => ∃ y3, σ = [some (.int p), some (.int n), some (.ref l), y3] ∧ Ex H H' ∧ H' l = some (.lst ((unitsP p i).map V.int)))
    (fun Q q => ⟨_, rfl, q⟩) (by omega) ⟨none, rfl, e0, by rw [unitsP_zero]; exact h0⟩ (fun i σ H' hi hP => ?_) (fun σ H' hP => ?_)
  · obtain ⟨y3, rfl, eH, hl⟩ := hP
    refine ⟨_, rfl, tyVL (sqL hl), _, rfl, _, rfl, l, _, _, _, rfl, rfl, sqL hl, at_lastI (unitsP_ne p i), _, rfl, _, _, rfl, rfl, .inr (by omega), ?_⟩
    refine ⟨l, _, _, rfl, rfl, hl, ?_, _, rfl, Ex.mut eH n0, ?_⟩
    · rw [List.length_map, unitsP_len]
      have : 100000 < sizeLine := by decide
      omega
    · rw [upd_same, unitsP_succ, List.map_append, unitsP_last, Int.pow_succ]
      rfl
  · obtain ⟨y3, rfl, eH, hl⟩ := hP
    exact ⟨_, rfl, q l H' n0 eH hl⟩
/-! ### figures_in -/
def figs (p : Int) : Nat → Int → List Int
  | 0, _ => []
  | n + 1, x => x % p :: figs p n (x / p)
theorem figs_zero (p x : Int) : figs p 0 x = [] := rfl
theorem figs_succ (p x : Int) (n : Nat) : figs p (n + 1) x = x % p :: figs p n (x / p) := rfl
theorem figs_len (p : Int) : ∀ (n : Nat) (x : Int), (figs p n x).length = n
  | 0, _ => rfl
  | n + 1, x => by unfold figs; rw [List.length_cons, figs_len p n]
theorem figs_cf {p : Int} (hp : 0 < p) : ∀ (n : Nat) (x : Int), Cf p (figs p n x)
  | 0, _ => fun y h => by cases h
  | n + 1, x => fun y h => by
    unfold figs at h
    rcases List.mem_cons.mp h with rfl | h
    · exact ⟨Int.emod_nonneg _ (by omega), Int.emod_lt_of_pos _ hp⟩
    · exact figs_cf hp n _ y h
def sp_figures_in (K : Fr) : Sp := fun vs H Q _ => ∃ p x, ∃ n : Nat, vs = [.int p, .int n, .int x] ∧ (2 ≤ p ∧ p ≤ 7) ∧ n ≤ 100 ∧ Evl.RetL ((figs p n x).map V.int) H Q
theorem len_figures_in (vs : List V) (H : Hp) (Q : VK) (E : XK) (h : sp_figures_in K vs H Q E) : vs.length = 3 := by obtain ⟨_, _, _, rfl, _⟩ := h; rfl
def t_figures_in (K : Fr) : TS := (tSeq (tAsg (tLst tNil) (gName 3)) (tSeq (tFor (iRng1 (tCons (tVar 1) tNil)) (gName 4) (tSeq (tDrop (tBM K "list" rAppend (tVar 3) (tCons (tOp rModI (tVar 2) (tVar 0)) tNil))) (tAug 2 (tVar 0) rFdivI))) (tRet (tVar 3))))
theorem pure_figures_in (vs : List V) (H : Hp) (Q : VK) (E : XK) (h : sp_figures_in K vs H Q E) : t_figures_in K { nx := fun _ H' => Q .non H', rt := Q } (start ["prime", "turns", "one", "found", "_"] vs) H := by
  obtain ⟨p, x, n, rfl, hp, hn, q⟩ := h
  refine ⟨by decide, ?_⟩
  intro l n0; generalize E_ : upd _ l _ = H0; have e0 := genE E_ n0; have h0 := genS E_; clear E_
  walk_at "sl"
  refine forR1 (n := (n : Int)) (fun i σ H' => ∃ y s z, σ = [some (.int p), some (.int n), some (.int z), some (.ref l), y] ∧ Ex H H' ∧ H' l = some (.lst (s.map V.int)) ∧ s.length = i ∧ s ++ figs p (n - i) z = figs p n x)
    (fun Q q => ⟨_, rfl, q⟩) (by omega) ⟨none, [], x, rfl, e0, h0, rfl, rfl⟩ (fun i σ H' hi hP => ?_) (fun σ H' hP => ?_)
  · obtain ⟨y, s, z, rfl, eH, hl, hs, hF⟩ := hP
    refine ⟨_, rfl, tyVL (sqL hl), _, rfl, _, rfl, _, _, rfl, rfl, by omega, ?_⟩
    refine ⟨l, _, _, rfl, rfl, hl, ?_, ?_⟩
    · rw [List.length_map]
      have : 100000 < sizeLine := by decide
      omega
    · refine ⟨_, rfl, _, rfl, _, _, rfl, rfl, ⟨by omega, by omega⟩, _, s ++ [z % p], z / p, rfl, Ex.mut eH n0, ?_, by simp [hs], ?_⟩
      · rw [upd_same, List.map_append]; rfl
      · have e : n - i = (n - (i + 1)) + 1 := by omega
        rw [e, figs_succ] at hF
        rw [List.append_assoc]
        exact hF
  · obtain ⟨y, s, z, rfl, eH, hl, hs, hF⟩ := hP
    have e : n - (n : Int).toNat = 0 := by omega
    rw [e, figs_zero, List.append_nil] at hF
    rw [hF] at hl
    exact ⟨_, rfl, q l H' n0 eH hl⟩
/-! ### told_by -/
def toldP (xs ys : List Int) : Int := (List.zipWith (· * ·) xs ys).sum
def sp_told_by (K : Fr) : Sp := fun vs H Q _ => ∃ a b xs ys, vs = [.ref a, .ref b] ∧ SqL K H a (xs.map V.int) ∧ SqL K H b (ys.map V.int) ∧ xs.length ≤ 1000 ∧ (∀ x ∈ xs, -(2 ^ 64) < x ∧ x < 2 ^ 64) ∧ Evl.RetV (.int (toldP xs ys)) H Q
theorem len_told_by (vs : List V) (H : Hp) (Q : VK) (E : XK) (h : sp_told_by K vs H Q E) : vs.length = 2 := by obtain ⟨_, _, _, _, rfl, _⟩ := h; rfl
def t_told_by (K : Fr) : TS := (tRet (tCB (rSum K) (tCons (tLc (iZip K (tCons (tVar 0) (tCons (tVar 1) tNil))) (gTup K 2 (gCons (gName 2) (gCons (gName 3) gNil))) tYes (tOp rMulI (tVar 2) (tVar 3)) [2, 3]) tNil)))
theorem zip_ints : ∀ xs ys : List Int, List.zipWith (fun x y => V.int (intOf x * intOf y)) (xs.map V.int) (ys.map V.int) = (List.zipWith (· * ·) xs ys).map V.int
  | [], _ => by simp
  | _ :: _, [] => by simp
  | x :: xs, y :: ys => by
    simp only [List.map_cons, List.zipWith_cons_cons]
    rw [zip_ints xs ys]
    rfl
theorem pure_told_by (vs : List V) (H : Hp) (Q : VK) (E : XK) (h : sp_told_by K vs H Q E) : t_told_by K { nx := fun _ H' => Q .non H', rt := Q } (start ["figures", "units", "figure", "unit"] vs) H := by
  obtain ⟨a, b, xs, ys, rfl, ha, hb, hx, hm, q⟩ := h
  refine tRetI (tCB1 (lcZip (a := a) (b := b) (fun x y => .int (intOf x * intOf y)) (fun Q q => ⟨_, rfl, _, rfl, q⟩) ha hb (by rw [List.length_map]; omega) (fun x y => rfl) (fun i x y gx gy H1 e1 Q1 q1 => ?_) (fun l H1 nl e1 hl => ?_)))
  · obtain ⟨rfl, hi⟩ := getD_of gx
    obtain ⟨rfl, hj⟩ := getD_of gy
    refine ⟨_, rfl, _, rfl, _, _, rfl, rfl, .inl (hm _ ?_), q1 H1 (Ex.refl _)⟩
    rw [List.getD_eq_getElem?_getD, List.getElem?_eq_getElem hi]
    exact List.getElem_mem hi
  · rw [zip_ints] at hl
    exact ⟨l, _, rfl, sqL hl, q H1 e1⟩
/-! ### powers_of -/
def powGo (p : Int) (md fac units : List Int) : Nat → List Int → Option (List Int)
  | 0, _ => none
  | n + 1, w => if w = [1] then some [] else (powGo p md fac units n (restP p (prodP p w fac) md)).map (toldP w units :: ·)
def powersP (p : Int) (md : List Int) (one : Int) : Option (List Int) :=
  (powGo p md (wn (figs p (md.length - 1) one)) (unitsP p (md.length - 1)) 200 (wn (figs p (md.length - 1) one))).map (1 :: ·)
def sp_powers_of (K : Fr) : Sp := fun vs H Q _ => ∃ p a md one l, vs = [.int p, .ref a, .int one] ∧ SqL K H a (md.map V.int) ∧ Prm p ∧ md ≠ [] ∧ md.length ≤ 13 ∧ Cf p md ∧ Told md ∧ powersP p md one = some l ∧ Evl.RetL (l.map V.int) H Q
theorem len_powers_of (vs : List V) (H : Hp) (Q : VK) (E : XK) (h : sp_powers_of K vs H Q E) : vs.length = 3 := by obtain ⟨_, _, _, _, _, rfl, _⟩ := h; rfl
def t_powers_of (K : Fr) : TS := (tSeq (tAsg (tCall (sp_units_of K) [] E0 (tCons (tVar 0) (tCons (tOp rSubI (tCB (rLenA K) (tCons (tVar 1) tNil)) (tC (.int 1))) tNil))) (gName 3)) (tSeq (tAsg (tCall (sp_without_noughts K) [] E0 (tCons (tCall (sp_figures_in K) [] E0 (tCons (tVar 0) (tCons (tOp rSubI (tCB (rLenA K) (tCons (tVar 1) tNil)) (tC (.int 1))) (tCons (tVar 2) tNil)))) tNil)) (gName 4)) (tSeq (tPar 5 6 (tCons (tLst (tCons (tC (.int 1)) tNil)) (tCons (tVar 4) tNil))) (tSeq (tWhile (tTest (tOp (rNeD K) (tVar 6) (tLst (tCons (tC (.int 1)) tNil)))) (tSeq (tDrop (tBM K "list" rAppend (tVar 5) (tCons (tCall (sp_told_by K) [] E0 (tCons (tVar 6) (tCons (tVar 3) tNil))) tNil))) (tAsg (tCall (sp_rest_of K) [] E0 (tCons (tVar 0) (tCons (tCall (sp_product_of K) [] E0 (tCons (tVar 0) (tCons (tVar 6) (tCons (tVar 4) tNil)))) (tCons (tVar 1) tNil)))) (gName 6)))) (tRet (tVar 5))))))
theorem pure_powers_of (vs : List V) (H : Hp) (Q : VK) (E : XK) (h : sp_powers_of K vs H Q E) : t_powers_of K { nx := fun _ H' => Q .non H', rt := Q } (start ["prime", "modulus", "one", "units", "factor", "found", "power"] vs) H := by
  obtain ⟨p, a, md, one, l, rfl, ha, hp, hn, hy, cy, ty, hF, q⟩ := h
  have hpl := hp.le
  have hi := told_inv hp cy ty hn
  have h0 : md.length ≠ 0 := fun e => hn (List.length_eq_zero_iff.mp e)
  have eL : (md.length : Int) - 1 = ((md.length - 1 : Nat) : Int) := by omega
  unfold powersP at hF
  generalize md.length - 1 = t at hF eL
  have ht : t ≤ 12 := by omega
  refine ⟨_, rfl, _, rfl, a, _, rfl, .inl ha, _, _, rfl, rfl, ?_⟩
  rw [List.length_map]
  refine ⟨p, t, by show [V.int p, V.int ((md.length : Int) - 1)] = _; rw [eL], hpl, by omega, fun u H1 n1 e1 h1 => ?_⟩
  refine ⟨_, rfl, _, rfl, a, _, rfl, .inl (Ex.seq e1 ha), _, _, rfl, rfl, ?_⟩
  rw [List.length_map]
  refine ⟨_, rfl, p, one, t, by show [V.int p, V.int ((md.length : Int) - 1), V.int one] = _; rw [eL], hpl, by omega, fun fg H2 n2 e2 h2 => ?_⟩
  refine ⟨fg, _, rfl, .inl (sqL h2), by rw [figs_len]; omega, fun fa H3 n3 e3 h3 => ?_⟩
  have cfa : Cf p (wn (figs p t one)) := cf_wn (figs_cf (by omega) t one)
  have lfa := wn_len (figs p t one)
  rw [figs_len] at lfa
  generalize wn (figs p t one) = fac at hF h3 cfa lfa
  have eHB : Ex H H3 := Ex.trans e1 (Ex.trans e2 e3)
  have hu : H3 u = some (.lst ((unitsP p t).map V.int)) := e3 _ _ (e2 _ _ h1)
  refine ⟨by decide, ?_⟩
  intro lf n4; generalize E_ : upd _ lf _ = H4; have e4 := genE E_ n4; have h4 := genS E_; clear E_
  refine ⟨_, rfl, _, _, rfl, ?_⟩
  cases hG : powGo p md fac (unitsP p t) 200 fac with
  | none => rw [hG] at hF; cases hF
  | some r0 =>
  rw [hG] at hF
  have hl0 : [1] ++ r0 = l := Option.some.inj hF
  refine tSeqI ⟨fun m σ H' => ∃ lw s w r, σ = [some (.int p), some (.ref a), some (.int one), some (.ref u), some (.ref fa), some (.ref lf), some (.ref lw)] ∧ Ex H3 H' ∧ H' lf = some (.lst (s.map V.int)) ∧ lw ≠ lf ∧ H' lw = some (.lst (w.map V.int)) ∧ Cf p w ∧ w.length ≤ 13 ∧ powGo p md fac (unitsP p t) m w = some r ∧ s ++ r = l ∧ s.length + m ≤ 201,
    ⟨200, fa, [1], fac, r0, rfl, e4, h4, fun e => (by rw [e] at h3; rw [h3] at n4; cases n4), e4 _ _ h3, cfa, by omega, hG, hl0, by decide⟩, ?_⟩
  rintro m σ H' ⟨lw, s, w, r, rfl, eH, hlf, hne, hlw, cw, lnw, hgo, hl, hz⟩
  refine ⟨_, rfl, by decide, ?_⟩
  intro lo n5; generalize E_ : upd _ lo _ = H5; have e5 := genE E_ n5; have h5 := genS E_; clear E_
  refine ⟨dI w, dI [1], dp_ints (sqL (e5 _ _ hlw)), dp_ints (sqL h5), shaped_ints _, shaped_ints _, _, rfl, ?_⟩
  rw [eqv_ints]
  cases m with
  | zero => cases hgo
  | succ m =>
  unfold powGo at hgo
  by_cases c : w = [1]
  · rw [if_pos c] at hgo
    cases hgo
    rw [decide_eq_true c]
    refine iteF ⟨_, rfl, ?_⟩
    rw [List.append_nil] at hl
    subst hl
    exact q lf H5 (Ex.back eHB n4) (Ex.trans eHB (Ex.trans eH e5)) (e5 _ _ hlf)
  · rw [if_neg c] at hgo
    rw [decide_eq_false c]
    cases hg2 : powGo p md fac (unitsP p t) m (restP p (prodP p w fac) md) with
    | none => rw [hg2] at hgo; cases hgo
    | some r2 =>
    rw [hg2] at hgo
    have er : toldP w (unitsP p t) :: r2 = r := Option.some.inj hgo
    subst er
    have g := prodP_facts (p := p) (by omega) w fac
    have f := restP_facts (p := p) (by omega) hn hi g.1
    refine iteT ?_
    refine ⟨fun σ' H6 => ∃ lw2, σ' = [some (.int p), some (.ref a), some (.int one), some (.ref u), some (.ref fa), some (.ref lf), some (.ref lw2)] ∧ Ex H3 H6 ∧ H6 lf = some (.lst ((s ++ [toldP w (unitsP p t)]).map V.int)) ∧ lw2 ≠ lf ∧ H6 lw2 = some (.lst ((restP p (prodP p w fac) md).map V.int)), fun σ' H6 ⟨lw2, h1, h2, h3, h4, h5⟩ => ⟨m, Nat.lt_succ_self _, lw2, _, _, r2, h1, h2, h3, h4, h5, f.2.1, by omega, hg2, by rw [List.append_assoc]; exact hl, by simp; omega⟩, ?_⟩
    have eH5 := Ex.trans eH e5
    refine ⟨_, rfl, tyVL (sqL (e5 _ _ hlf)), _, rfl, _, rfl, lw, u, w, unitsP p t, rfl, sqL (e5 _ _ hlw), sqL (eH5 _ _ hu), by omega, fun x hx => cf_mul hpl.2 cw hx, fun H6 e6 => ?_⟩
    refine ⟨lf, _, _, rfl, rfl, e6 _ _ (e5 _ _ hlf), ?_, ?_⟩
    · rw [List.length_map]
      have : 100000 < sizeLine := by decide
      omega
    · have eW : Ex H3 (upd H6 lf (.lst (s.map V.int ++ [V.int (toldP w (unitsP p t))]))) := Ex.mut (Ex.trans eH5 e6) n4
      generalize hW : upd H6 lf (.lst (s.map V.int ++ [V.int (toldP w (unitsP p t))])) = HW at eW
      have hWf : HW lf = some (.lst ((s ++ [toldP w (unitsP p t)]).map V.int)) := by rw [← hW, upd_same, List.map_append]; rfl
      have hWw : HW lw = some (.lst (w.map V.int)) := by rw [← hW, upd_ne hne]; exact e6 _ _ (e5 _ _ hlw)
      refine ⟨_, rfl, _, rfl, _, rfl, _, rfl, p, lw, fa, w, fac, rfl, sqL hWw, sqL (eW _ _ h3), by omega, by omega, by omega, cw, fun l2 H7 n7 e7 h7 => ?_⟩
      refine ⟨_, rfl, p, l2, a, _, md, rfl, sqL h7, Ex.seq (Ex.trans eHB (Ex.trans eW e7)) ha, hpl, by omega, hn, by omega, g.1, cy, hi, fun l3 H8 n8 e8 h8 => ?_⟩
      have n8' : HW l3 = none := Ex.back e7 n8
      exact ⟨l3, rfl, Ex.trans eW (Ex.trans e7 e8), e8 _ _ (e7 _ _ hWf), fun e => (by rw [e, hWf] at n8'; cases n8'), h8⟩
/-! ### all_by_powers -/
def allGo (p : Int) (md : List Int) (size : Int) : Nat → Int → List Int → Option (List Int)
  | 0, _, _ => none
  | n + 1, one, f => if (f.length : Int) < size - 1 then (powersP p md (one + 1)).bind fun g => allGo p md size n (one + 1) g else some f
def allP (p : Int) (md : List Int) (size : Int) : Option (List Int) := allGo p md size 200 1 [1]
def sp_all_by_powers (K : Fr) : Sp := fun vs H Q _ => ∃ p a md size l, vs = [.int p, .ref a, .int size] ∧ SqL K H a (md.map V.int) ∧ Prm p ∧ md ≠ [] ∧ md.length ≤ 13 ∧ Cf p md ∧ Told md ∧ allP p md size = some l ∧ Evl.RetL (l.map V.int) H Q
theorem len_all_by_powers (vs : List V) (H : Hp) (Q : VK) (E : XK) (h : sp_all_by_powers K vs H Q E) : vs.length = 3 := by obtain ⟨_, _, _, _, _, rfl, _⟩ := h; rfl
def t_all_by_powers (K : Fr) : TS := (tSeq (tPar 3 4 (tCons (tC (.int 1)) (tCons (tLst (tCons (tC (.int 1)) tNil)) tNil))) (tSeq (tWhile (tTest (tOp rLtI (tCB (rLenA K) (tCons (tVar 4) tNil)) (tOp rSubI (tVar 2) (tC (.int 1))))) (tSeq (tAug 3 (tC (.int 1)) (ipI fun i j => i + j)) (tAsg (tCall (sp_powers_of K) [] E0 (tCons (tVar 0) (tCons (tVar 1) (tCons (tVar 3) tNil)))) (gName 4)))) (tRet (tVar 4))))
theorem pure_all_by_powers (vs : List V) (H : Hp) (Q : VK) (E : XK) (h : sp_all_by_powers K vs H Q E) : t_all_by_powers K { nx := fun _ H' => Q .non H', rt := Q } (start ["prime", "modulus", "size", "one", "found"] vs) H := by
  obtain ⟨p, a, md, size, l, rfl, ha, hp, hn, hy, cy, ty, hF, q⟩ := h
  refine ⟨by decide, ?_⟩
  intro lf n4; generalize E_ : upd _ lf _ = H4; have e4 := genE E_ n4; have h4 := genS E_; clear E_
  refine ⟨_, _, rfl, ?_⟩
  refine tSeqI ⟨fun m σ H' => ∃ one lf s, σ = [some (.int p), some (.ref a), some (.int size), some (.int one), some (.ref lf)] ∧ Ex H H' ∧ H lf = none ∧ H' lf = some (.lst (s.map V.int)) ∧ allGo p md size m one s = some l,
    ⟨200, 1, lf, [1], rfl, e4, n4, h4, hF⟩, ?_⟩
  rintro m σ H' ⟨one, lf, s, rfl, eH, nl, hl, hgo⟩
  refine ⟨_, rfl, lf, _, rfl, .inl (sqL hl), _, rfl, _, _, rfl, rfl, _, _, rfl, rfl, _, rfl, ?_⟩
  rw [List.length_map]
  cases m with
  | zero => cases hgo
  | succ m =>
  unfold allGo at hgo
  by_cases c : (s.length : Int) < size - 1
  · rw [if_pos c] at hgo
    rw [decide_eq_true c]
    refine iteT ?_
    cases hg : powersP p md (one + 1) with
    | none => rw [hg] at hgo; cases hgo
    | some g =>
    rw [hg] at hgo
    refine ⟨fun σ' H6 => ∃ lf2, σ' = [some (.int p), some (.ref a), some (.int size), some (.int (one + 1)), some (.ref lf2)] ∧ Ex H H6 ∧ H lf2 = none ∧ H6 lf2 = some (.lst (g.map V.int)), fun σ' H6 ⟨lf2, h1, h2, h3, h4⟩ => ⟨m, Nat.lt_succ_self _, one + 1, lf2, g, h1, h2, h3, h4, hgo⟩, ?_⟩
    refine ⟨_, rfl, _, _, rfl, rfl, ?_⟩
    refine ⟨_, rfl, _, rfl, _, rfl, p, a, md, one + 1, g, rfl, Ex.seq eH ha, hp, hn, hy, cy, ty, hg, fun l2 H6 n6 e6 h6 => ?_⟩
    exact ⟨l2, rfl, Ex.trans eH e6, Ex.back eH n6, h6⟩
  · rw [if_neg c] at hgo
    cases hgo
    rw [decide_eq_false c]
    exact iteF ⟨_, rfl, q lf H' nl eH hl⟩

end TP
/-! PFe -/
set_option maxHeartbeats 4000000
namespace TP
open PySem PySem.Spec PyProof.Rows L2
local macro_rules | `(tactic| walk_at "s1") => `(tactic| first | refine ⟨_, rfl, ?_⟩ | refine ⟨_, _, rfl, rfl, ?_⟩ | refine ⟨rfl, ?_⟩ | refine iteT ?_ | refine iteF ?_)
local macro_rules | `(tactic| walk_at "st") => `(tactic| (repeat (walk_at "s1")))
local macro_rules | `(tactic| walk_at "sq") => `(tactic| first | assumption | exact sqL (by assumption) | exact sqT (by assumption) | (refine Ex.seq (by assumption) ?_; walk_at "sq") | (refine Ex.tup (by assumption) ?_; walk_at "sq"))
local macro_rules | `(tactic| walk_at "at") => `(tactic| first | assumption | (refine (show Ex _ _ by assumption) _ _ ?_; walk_at "at"))
local macro_rules | `(tactic| walk_at "sl") => `(tactic| ((try dsimp only); refine tSeqI ?_; (try dsimp only)))

variable {K : Fr}
/-! ### a field, its object -/
structure FD where
  p : Int
  md : List Int
  pows : List Int
def FD.t (F : FD) : Nat := F.md.length - 1
def FD.size (F : FD) : Int := F.p ^ F.t
def FD.units (F : FD) : List Int := unitsP F.p (F.t - 1)
structure FD.Ok (F : FD) : Prop where
  prm : Prm F.p
  len : 3 ≤ F.md.length ∧ F.md.length ≤ 8
  cf : Cf F.p F.md
  one : F.md.getLastD 0 = 1
  big : F.size ≤ 128
  made : allP F.p F.md F.size = some F.pows
  mod : isModV F.p (some (F.md.map V.int)) = true
  nd : F.pows.Nodup
  cnt : (F.pows.length : Int) + 1 = F.size
  all : ∀ x : Int, 0 < x → x < F.size → x ∈ F.pows
  low : ∀ x ∈ F.pows, 0 < x ∧ x < F.size
  fst : F.pows[0]? = some 1
structure FieldCls (K : Fr) : Prop where
  cls : Cls K (He.ga K "Field")
  n1 : NoAttr K (He.ga K "Field") "_prime"
  n2 : NoAttr K (He.ga K "Field") "_modulus"
  n3 : NoAttr K (He.ga K "Field") "_size"
  n4 : NoAttr K (He.ga K "Field") "_units"
  n5 : NoAttr K (He.ga K "Field") "_powers"
  n6 : NoAttr K (He.ga K "Field") "_exponents"
  ha : PySem.W.findIn K (.ref (He.ga K "Field")) "__class__" = some (some (.builtin "object.__class__"))
  hn : PySem.W.specialIn K (.builtin "object.__class__") "__get__" = some (some (.builtin "getset_descriptor.__get__"))
  ht : PySem.W.takesIn K (.builtin "object.__class__") = some true
  hm : PySem.W.mroIn K (He.ga K "Field") (.type "object") = some true
def fFs (p : Int) (m : Addr) (size : Int) (u w e : Addr) : List (Str × V) := [("_prime", .int p), ("_modulus", .ref m), ("_size", .int size), ("_units", .ref u), ("_powers", .ref w), ("_exponents", .ref e)]
/-- the field F's object at a; what its lists' addresses are -/
def FA (K : Fr) (H : Hp) (a : Addr) (F : FD) (ok : Addr → Prop) : Prop := FieldCls K ∧ F.Ok ∧ ∃ dx m u w e kvs, H a = some (.ins (He.ga K "Field") dx (fFs F.p m F.size u w e)) ∧ H m = some (.lst (F.md.map V.int)) ∧ H u = some (.lst (F.units.map V.int)) ∧
  H w = some (.lst (F.pows.map V.int)) ∧ H e = some (.dK kvs) ∧ PlacesIn kvs F.pows ∧ ok m ∧ ok u ∧ ok w
theorem FA.ex {H H' : Hp} {a : Addr} {F : FD} {ok : Addr → Prop} (h : FA K H a F ok) (e : Ex H H') : FA K H' a F ok := by
  obtain ⟨c, o, dx, m, u, w, x, kvs, h1, h2, h3, h4, h5, h6⟩ := h
  exact ⟨c, o, dx, m, u, w, x, kvs, e _ _ h1, e _ _ h2, e _ _ h3, e _ _ h4, e _ _ h5, h6⟩
theorem FA.mono {H : Hp} {a : Addr} {F : FD} {ok ok' : Addr → Prop} (h : FA K H a F ok) (k : ∀ x, ok x → ok' x) : FA K H a F ok' := by
  obtain ⟨c, o, dx, m, u, w, x, kvs, h1, h2, h3, h4, h5, h6, h7, h8, h9⟩ := h
  exact ⟨c, o, dx, m, u, w, x, kvs, h1, h2, h3, h4, h5, h6, k _ h7, k _ h8, k _ h9⟩
theorem FA.exP {H H' : Hp} {a pt : Addr} {F : FD} (h : FA K H a F (· ≠ pt)) (e : ExP pt H H') (P : Po pt H) : FA K H' a F (· ≠ pt) := by
  obtain ⟨c, o, dx, m, u, w, x, kvs, h1, h2, h3, h4, h5, h6, h7, h8, h9⟩ := h
  obtain ⟨i, j, hp, _⟩ := P
  have na : a ≠ pt := fun z => by rw [z, hp] at h1; cases h1
  have nx : x ≠ pt := fun z => by rw [z, hp] at h5; cases h5
  exact ⟨c, o, dx, m, u, w, x, kvs, e _ _ na h1, e _ _ h7 h2, e _ _ h8 h3, e _ _ h9 h4, e _ _ nx h5, h6, h7, h8, h9⟩
theorem FD.Ok.two {F : FD} (o : F.Ok) : 2 ≤ F.p ∧ F.p ≤ 7 := o.prm.le
theorem FD.Ok.tb {F : FD} (o : F.Ok) : 2 ≤ F.t ∧ F.t ≤ 7 := by have := o.len; unfold FD.t; omega
theorem FD.Ok.told {F : FD} (o : F.Ok) : Told F.md := .inr (by rw [o.one]; decide)
theorem FD.Ok.ne {F : FD} (o : F.Ok) : F.md ≠ [] := fun e => by have := o.len; rw [e] at this; simp at this
theorem FD.Ok.ix {F : FD} (o : F.Ok) {x : Int} (h : x ∈ F.pows) : F.pows[F.pows.idxOf x]? = some x := by
  rw [List.getElem?_eq_getElem (List.idxOf_lt_length_of_mem h), List.getElem_idxOf]
theorem FD.Ok.pos {F : FD} (o : F.Ok) : 0 < F.pows.length := by
  have := o.fst
  exact (List.getElem?_eq_some_iff.mp this).1
theorem sFldI {ta tv : TE} {f : Str} {D : Ends} {σ : L2.St} {H : Hp} (h : tv σ H fun y H1 => ta σ H1 fun x H2 => ∃ a C dx fs, x = .ref a ∧ H2 a = some (.ins C dx fs) ∧ Cls K C ∧ NoAttr K C f ∧ fs.length < 1000 ∧ D.nx σ (upd H2 a (.ins C dx (putF f y fs)))) : sFld K ta tv f D σ H := h
/-! ### Field(prime, modulus) -/
def sp_Field_dot___init__ (K : Fr) : Sp := fun vs H Q _ => ∃ x m dx F, vs = [.ref x, .int F.p, .ref m] ∧ FieldCls K ∧ FD.Ok F ∧ H x = some (.ins (He.ga K "Field") dx []) ∧ SqA K H m (F.md.map V.int) ∧
  ∀ H', ExP x H H' → FA K H' x F (fun y => H y = none) → Q .non H'
theorem len_Field_dot___init__ (vs : List V) (H : Hp) (Q : VK) (E : XK) (h : sp_Field_dot___init__ K vs H Q E) : vs.length = 3 := by obtain ⟨_, _, _, _, rfl, _⟩ := h; rfl
def t_Field_dot___init__ (K : Fr) : TS := (tSeq (tIfS (tNot (tB (tCall (sp_is_modulus K) [] E0 (tCons (tVar 1) (tCons (tVar 2) tNil))))) tNever tNext) (tSeq (tAsg (tCall (sp_units_of K) [] E0 (tCons (tVar 1) (tCons (tOp rSubI (tCB (rLenA K) (tCons (tVar 2) tNil)) (tC (.int 1))) tNil))) (gName 3)) (tSeq (tAsg (tBM0 K "list" rPop (tVar 3)) (gName 4)) (tSeq (tIfS (tTest (tOp rGtI (tVar 4) (tC (.int 128)))) tNever tNext) (tSeq (sFld K (tVar 0) (tVar 1) "_prime") (tSeq (sFld K (tVar 0) (tCB (rListA K) (tCons (tVar 2) tNil)) "_modulus") (tSeq (sFld K (tVar 0) (tVar 4) "_size") (tSeq (sFld K (tVar 0) (tVar 3) "_units") (tSeq (sFld K (tVar 0) (tCall (sp_all_by_powers K) [] E0 (tCons (tVar 1) (tCons (tFld K (tVar 0) "_modulus") (tCons (tVar 4) tNil)))) "_powers") (sFld K (tVar 0) (tDc (iEnum K (tCons (tFld K (tVar 0) "_powers") tNil)) (gTup K 2 (gCons (gName 5) (gCons (gName 6) gNil))) tYes (tVar 6) (tVar 5) [5, 6]) "_exponents"))))))))))
theorem putA (p : V) : putF "_prime" p [] = ([("_prime", p)] : List (Str × V)) := rfl
theorem putB (p q : V) : putF "_modulus" q [("_prime", p)] = ([("_prime", p), ("_modulus", q)] : List (Str × V)) := rfl
theorem putC (p q r : V) : putF "_size" r [("_prime", p), ("_modulus", q)] = ([("_prime", p), ("_modulus", q), ("_size", r)] : List (Str × V)) := rfl
theorem putD (p q r s : V) : putF "_units" s [("_prime", p), ("_modulus", q), ("_size", r)] = ([("_prime", p), ("_modulus", q), ("_size", r), ("_units", s)] : List (Str × V)) := rfl
theorem putE (p q r s u : V) : putF "_powers" u [("_prime", p), ("_modulus", q), ("_size", r), ("_units", s)] = ([("_prime", p), ("_modulus", q), ("_size", r), ("_units", s), ("_powers", u)] : List (Str × V)) := rfl
theorem putG (p q r s u v : V) : putF "_exponents" v [("_prime", p), ("_modulus", q), ("_size", r), ("_units", s), ("_powers", u)] = ([("_prime", p), ("_modulus", q), ("_size", r), ("_units", s), ("_powers", u), ("_exponents", v)] : List (Str × V)) := rfl
theorem exP_self {x : Addr} {o : HO} {H : Hp} : ExP x H (upd H x o) := fun y u n h => by rw [upd_ne n]; exact h
theorem ExP.seqA {x a : Addr} {H H' : Hp} {C dx : Addr} {fs : List (Str × V)} {xs : List V} (e : ExP x H H') (hx : H x = some (.ins C dx fs)) (h : SqA K H a xs) : SqA K H' a xs := by
  rcases h with h | h
  · refine .inl ?_
    rcases h with (h | ⟨o, h⟩) | h
    · exact .inl (.inl (e _ _ (fun z => by rw [z, hx] at h; cases h) h))
    · exact .inl (.inr ⟨o, e _ _ (fun z => by rw [z, hx] at h; cases h) h⟩)
    · exact .inr h
  · refine .inr ?_
    rcases h with (h | ⟨o, h⟩) | h
    · exact .inl (.inl (e _ _ (fun z => by rw [z, hx] at h; cases h) h))
    · exact .inl (.inr ⟨o, e _ _ (fun z => by rw [z, hx] at h; cases h) h⟩)
    · exact .inr h
theorem kd_ints {H : Hp} (ns : List Int) : ∀ x ∈ ns.map V.int, Kd K H x := fun x hx => by
  obtain ⟨i, _, rfl⟩ := List.mem_map.mp hx
  exact .int i
theorem units_pop {p : Int} {t : Nat} (h : 1 ≤ t) : ((unitsP p t).map V.int)[((unitsP p t).map V.int).length - 1]? = some (.int (p ^ t)) ∧ ((unitsP p t).map V.int).dropLast = (unitsP p (t - 1)).map V.int := by
  obtain ⟨t, rfl⟩ : ∃ t', t = t' + 1 := ⟨t - 1, by omega⟩
  rw [unitsP_succ, List.map_append]
  refine ⟨?_, ?_⟩
  · rw [List.length_append, List.length_map, unitsP_len]
    simp
    rw [List.getElem?_append_right (by rw [List.length_map, unitsP_len]; omega)]
    rw [List.length_map, unitsP_len]
    simp
  · show (List.map V.int (unitsP p t) ++ [V.int (p ^ (t + 1))]).dropLast = _
    rw [List.dropLast_concat]
    rfl
theorem pure_Field_dot___init__ (vs : List V) (H : Hp) (Q : VK) (E : XK) (h : sp_Field_dot___init__ K vs H Q E) : t_Field_dot___init__ K { nx := fun _ H' => Q .non H', rt := Q } (start ["self", "prime", "modulus", "units", "size", "at", "power"] vs) H := by
  obtain ⟨x, m, dx, F, rfl, c, o, hx, hm, q⟩ := h
  have hpl := o.two
  have htb := o.tb
  have hlen := o.len
  have eL : (F.md.length : Int) - 1 = (F.t : Int) := by unfold FD.t; omega
  refine ⟨_, rfl, _, rfl, F.p, .ref m, _, rfl, o.prm, .seq hm, fun xs e => (by cases e; exact kd_ints _), fun H0 e0 => ?_⟩
  rw [o.mod]
  refine ⟨true, rfl, ?_⟩
  refine iteF ?_
  have hm0 := Ex.any e0 hm
  have hx0 := e0 _ _ hx
  refine ⟨_, rfl, _, rfl, m, _, rfl, hm0, _, _, rfl, rfl, ?_⟩
  rw [List.length_map]
  refine ⟨F.p, F.t, by show [V.int F.p, V.int ((F.md.length : Int) - 1)] = _; rw [eL], hpl, by omega, fun u H1 n1 e1 h1 => ?_⟩
  obtain ⟨hpop, hdrop⟩ := units_pop (p := F.p) (t := F.t) (by omega)
  refine ⟨_, rfl, tyVL (sqL h1), u, _, _, rfl, rfl, h1, hpop, ?_⟩
  rw [hdrop]
  have nu : H u = none := Ex.back e0 n1
  have E1 : Ex H (upd H1 u (.lst ((unitsP F.p (F.t - 1)).map V.int))) := Ex.mut (Ex.trans e0 e1) nu
  have hux : u ≠ x := fun z => by rw [z, hx] at nu; cases nu
  generalize hW : upd H1 u (.lst ((unitsP F.p (F.t - 1)).map V.int)) = H2 at E1
  have hu2 : H2 u = some (.lst ((unitsP F.p (F.t - 1)).map V.int)) := by rw [← hW]; exact upd_same
  refine ⟨_, rfl, _, _, rfl, rfl, _, rfl, ?_⟩
  have eB : decide ((128 : Int) < F.p ^ F.t) = false := decide_eq_false (by have := o.big; unfold FD.size at this; omega)
  rw [eB]
  refine iteF ?_
  refine ⟨_, rfl, _, rfl, x, _, dx, _, rfl, E1 _ _ hx, c.cls, c.n1, (show 0 < 1000 by decide), ?_⟩
  rw [putA]
  have P3 : ExP x H2 (upd H2 x (.ins (He.ga K "Field") dx [("_prime", .int F.p)])) := exP_self
  generalize hW3 : upd H2 x (.ins (He.ga K "Field") dx [("_prime", .int F.p)]) = H3 at P3
  have hx3 : H3 x = some (.ins (He.ga K "Field") dx [("_prime", .int F.p)]) := by rw [← hW3]; exact upd_same
  have PH3 : ExP x H H3 := (E1.p (p := x)).trans P3
  refine ⟨_, rfl, m, _, rfl, PH3.seqA hx hm, ?_⟩
  intro m2 n4; generalize E_ : upd _ m2 _ = H4; have e4 := genE E_ n4; have h4 := genS E_; clear E_
  have nm2 : H m2 = none := by
    cases z : H m2 with
    | none => rfl
    | some oo =>
      by_cases zx : m2 = x
      · rw [zx, hx3] at n4; cases n4
      · rw [PH3 _ _ zx z] at n4; cases n4
  have hm2x : m2 ≠ x := fun z => by rw [z, hx] at nm2; cases nm2
  refine ⟨_, rfl, x, _, dx, _, rfl, e4 _ _ hx3, c.cls, c.n2, (show 1 < 1000 by decide), ?_⟩
  rw [putB]
  have P5 : ExP x H4 (upd H4 x (.ins (He.ga K "Field") dx [("_prime", .int F.p), ("_modulus", .ref m2)])) := exP_self
  generalize hW5 : upd H4 x (.ins (He.ga K "Field") dx [("_prime", .int F.p), ("_modulus", .ref m2)]) = H5 at P5
  have hx5 : H5 x = some (.ins (He.ga K "Field") dx [("_prime", .int F.p), ("_modulus", .ref m2)]) := by rw [← hW5]; exact upd_same
  refine ⟨_, rfl, _, rfl, x, _, dx, _, rfl, hx5, c.cls, c.n3, (show 2 < 1000 by decide), ?_⟩
  rw [putC]
  have P6 : ExP x H5 (upd H5 x (.ins (He.ga K "Field") dx [("_prime", .int F.p), ("_modulus", .ref m2), ("_size", .int (F.p ^ F.t))])) := exP_self
  generalize hW6 : upd H5 x (.ins (He.ga K "Field") dx [("_prime", .int F.p), ("_modulus", .ref m2), ("_size", .int (F.p ^ F.t))]) = H6 at P6
  have hx6 : H6 x = some (.ins (He.ga K "Field") dx [("_prime", .int F.p), ("_modulus", .ref m2), ("_size", .int (F.p ^ F.t))]) := by rw [← hW6]; exact upd_same
  refine ⟨_, rfl, _, rfl, x, _, dx, _, rfl, hx6, c.cls, c.n4, (show 3 < 1000 by decide), ?_⟩
  rw [putD]
  have P7 : ExP x H6 (upd H6 x (.ins (He.ga K "Field") dx [("_prime", .int F.p), ("_modulus", .ref m2), ("_size", .int (F.p ^ F.t)), ("_units", .ref u)])) := exP_self
  generalize hW7 : upd H6 x (.ins (He.ga K "Field") dx [("_prime", .int F.p), ("_modulus", .ref m2), ("_size", .int (F.p ^ F.t)), ("_units", .ref u)]) = H7 at P7
  have hx7 : H7 x = some (.ins (He.ga K "Field") dx [("_prime", .int F.p), ("_modulus", .ref m2), ("_size", .int (F.p ^ F.t)), ("_units", .ref u)]) := by rw [← hW7]; exact upd_same
  have P47 : ExP x H4 H7 := (P5.trans P6).trans P7
  have hm7 : H7 m2 = some (.lst (F.md.map V.int)) := P47 _ _ hm2x h4
  have hu7 : H7 u = some (.lst ((unitsP F.p (F.t - 1)).map V.int)) := P47 _ _ hux (e4 _ _ (P3 _ _ hux hu2))
  have PH7 : ExP x H H7 := (PH3.trans (e4.p (p := x))).trans P47
  refine ⟨_, rfl, _, rfl, x, _, dx, _, _, rfl, hx7, c.cls, c.n2, rfl, _, rfl, F.p, m2, F.md, F.p ^ F.t, F.pows, rfl, sqL hm7, o.prm, o.ne, by omega, o.cf, o.told, o.made, fun w H8 n8 e8 h8 => ?_⟩
  have nw : H w = none := by
    cases z : H w with
    | none => rfl
    | some oo =>
      by_cases zx : w = x
      · rw [zx, hx7] at n8; cases n8
      · rw [PH7 _ _ zx z] at n8; cases n8
  have hwx : w ≠ x := fun z => by rw [z, hx] at nw; cases nw
  refine ⟨_, rfl, x, _, dx, _, rfl, e8 _ _ hx7, c.cls, c.n5, (show 4 < 1000 by decide), ?_⟩
  rw [putE]
  have P9 : ExP x H8 (upd H8 x (.ins (He.ga K "Field") dx [("_prime", .int F.p), ("_modulus", .ref m2), ("_size", .int (F.p ^ F.t)), ("_units", .ref u), ("_powers", .ref w)])) := exP_self
  generalize hW9 : upd H8 x (.ins (He.ga K "Field") dx [("_prime", .int F.p), ("_modulus", .ref m2), ("_size", .int (F.p ^ F.t)), ("_units", .ref u), ("_powers", .ref w)]) = H9 at P9
  have hx9 : H9 x = some (.ins (He.ga K "Field") dx [("_prime", .int F.p), ("_modulus", .ref m2), ("_size", .int (F.p ^ F.t)), ("_units", .ref u), ("_powers", .ref w)]) := by rw [← hW9]; exact upd_same
  have hw9 : H9 w = some (.lst (F.pows.map V.int)) := P9 _ _ hwx h8
  have hcnt := o.cnt
  have hbig := o.big
  (try dsimp only)
  refine sFldI ?_
  refine dcEnum (a := w) (ns := F.pows) (fun Q q => ⟨_, rfl, x, _, dx, _, _, rfl, hx9, c.cls, c.n5, rfl, q⟩) (sqL hw9) (by omega) o.nd (fun x y => rfl) (fun x y H Q q => ⟨_, rfl, q⟩) (fun x y H Q q => ⟨_, rfl, q⟩) (fun D H10 kvs n10 e10 h10 hpl => ?_)
  refine ⟨_, rfl, x, _, dx, _, rfl, e10 _ _ hx9, c.cls, c.n6, (show 5 < 1000 by decide), ?_⟩
  rw [putG]
  have hDx : D ≠ x := fun z => by rw [z, hx9] at n10; cases n10
  have P11 : ExP x H10 (upd H10 x (.ins (He.ga K "Field") dx [("_prime", .int F.p), ("_modulus", .ref m2), ("_size", .int (F.p ^ F.t)), ("_units", .ref u), ("_powers", .ref w), ("_exponents", .ref D)])) := exP_self
  have P8 : ExP x H7 H10 := ((Ex.p (p := x) e8).trans P9).trans (e10.p (p := x))
  refine q _ ((PH7.trans P8).trans P11) ⟨c, o, dx, m2, u, w, D, kvs, upd_same, P11 _ _ hm2x (P8 _ _ hm2x hm7), P11 _ _ hux (P8 _ _ hux hu7), P11 _ _ hwx (e10 _ _ hw9), P11 _ _ hDx h10, hpl, nm2, nu, nw⟩
/-! ### what a field tells -/
section
variable {H : Hp} {Q : VK} {E : XK}
def sp_Field_dot_size (K : Fr) : Sp := fun vs H Q _ => ∃ a F ok, vs = [.ref a] ∧ FA K H a F ok ∧ Q (.int F.size) H
theorem len_Field_dot_size (vs : List V) (H : Hp) (Q : VK) (E : XK) (h : sp_Field_dot_size K vs H Q E) : vs.length = 1 := by obtain ⟨_, _, _, rfl, _⟩ := h; rfl
def t_Field_dot_size (K : Fr) : TS := (tRet (tFld K (tVar 0) "_size"))
theorem pure_Field_dot_size (vs : List V) (H : Hp) (Q : VK) (E : XK) (h : sp_Field_dot_size K vs H Q E) : t_Field_dot_size K { nx := fun _ H' => Q .non H', rt := Q } (start ["self"] vs) H := by
  obtain ⟨a, F, ok, rfl, ⟨c, o, dx, m, u, w, e, kvs, h1, h2, h3, h4, h5, h6, _⟩, q⟩ := h
  exact ⟨_, rfl, a, _, dx, _, _, rfl, h1, c.cls, c.n3, rfl, q⟩
theorem units_len {F : FD} (o : F.Ok) : (F.units.map V.int).length = F.t := by
  have := o.tb
  unfold FD.units
  rw [List.length_map, unitsP_len]; omega
def sp_Field_dot_turns (K : Fr) : Sp := fun vs H Q _ => ∃ a F ok, vs = [.ref a] ∧ FA K H a F ok ∧ Q (.int F.t) H
theorem len_Field_dot_turns (vs : List V) (H : Hp) (Q : VK) (E : XK) (h : sp_Field_dot_turns K vs H Q E) : vs.length = 1 := by obtain ⟨_, _, _, rfl, _⟩ := h; rfl
def t_Field_dot_turns (K : Fr) : TS := (tRet (tCB (rLenA K) (tCons (tFld K (tVar 0) "_units") tNil)))
theorem pure_Field_dot_turns (vs : List V) (H : Hp) (Q : VK) (E : XK) (h : sp_Field_dot_turns K vs H Q E) : t_Field_dot_turns K { nx := fun _ H' => Q .non H', rt := Q } (start ["self"] vs) H := by
  obtain ⟨a, F, ok, rfl, ⟨c, o, dx, m, u, w, e, kvs, h1, h2, h3, h4, h5, h6, _⟩, q⟩ := h
  refine ⟨_, rfl, a, _, dx, _, _, rfl, h1, c.cls, c.n4, rfl, u, _, rfl, .inl (sqL h3), ?_⟩
  rw [units_len o]
  exact q
def sp_Field_dot_figures_of (K : Fr) : Sp := fun vs H Q _ => ∃ a F ok x, vs = [.ref a, .int x] ∧ FA K H a F ok ∧ Evl.RetL ((figs F.p F.t x).map V.int) H Q
theorem len_Field_dot_figures_of (vs : List V) (H : Hp) (Q : VK) (E : XK) (h : sp_Field_dot_figures_of K vs H Q E) : vs.length = 2 := by obtain ⟨_, _, _, _, rfl, _⟩ := h; rfl
def t_Field_dot_figures_of (K : Fr) : TS := (tRet (tCall (sp_figures_in K) [] E0 (tCons (tFld K (tVar 0) "_prime") (tCons (tCB (rLenA K) (tCons (tFld K (tVar 0) "_units") tNil)) (tCons (tVar 1) tNil)))))
theorem pure_Field_dot_figures_of (vs : List V) (H : Hp) (Q : VK) (E : XK) (h : sp_Field_dot_figures_of K vs H Q E) : t_Field_dot_figures_of K { nx := fun _ H' => Q .non H', rt := Q } (start ["self", "one"] vs) H := by
  obtain ⟨a, F, ok, x, rfl, ⟨c, o, dx, m, u, w, e, kvs, h1, h2, h3, h4, h5, h6, _⟩, q⟩ := h
  have := o.tb
  refine ⟨_, rfl, a, _, dx, _, _, rfl, h1, c.cls, c.n1, rfl, _, rfl, a, _, dx, _, _, rfl, h1, c.cls, c.n4, rfl, u, _, rfl, .inl (sqL h3), _, rfl, ?_⟩
  rw [units_len o]
  exact ⟨F.p, x, F.t, rfl, o.two, by omega, q⟩
def sp_Field_dot_with_figures (K : Fr) : Sp := fun vs H Q _ => ∃ a F ok l xs, vs = [.ref a, .ref l] ∧ FA K H a F ok ∧ SqL K H l (xs.map V.int) ∧ xs.length ≤ 1000 ∧ (∀ x ∈ xs, -(2 ^ 64) < x ∧ x < 2 ^ 64) ∧ Evl.RetV (.int (toldP xs F.units)) H Q
theorem len_Field_dot_with_figures (vs : List V) (H : Hp) (Q : VK) (E : XK) (h : sp_Field_dot_with_figures K vs H Q E) : vs.length = 2 := by obtain ⟨_, _, _, _, _, rfl, _⟩ := h; rfl
def t_Field_dot_with_figures (K : Fr) : TS := (tRet (tCall (sp_told_by K) [] E0 (tCons (tVar 1) (tCons (tFld K (tVar 0) "_units") tNil))))
theorem pure_Field_dot_with_figures (vs : List V) (H : Hp) (Q : VK) (E : XK) (h : sp_Field_dot_with_figures K vs H Q E) : t_Field_dot_with_figures K { nx := fun _ H' => Q .non H', rt := Q } (start ["self", "figures"] vs) H := by
  obtain ⟨a, F, ok, l, xs, rfl, ⟨c, o, dx, m, u, w, e, kvs, h1, h2, h3, h4, h5, h6, _⟩, hl, hx, hb, q⟩ := h
  exact ⟨_, rfl, _, rfl, a, _, dx, _, _, rfl, h1, c.cls, c.n4, rfl, l, u, xs, F.units, rfl, hl, sqL h3, hx, hb, q⟩
/-! ### sums, products, powers, turns -/
def addF (F : FD) (x y : Int) : Int := toldP ((List.zip (figs F.p F.t x) (figs F.p F.t y)).map fun z => (z.1 + z.2) % F.p) F.units
def lgF (F : FD) (x : Int) : Nat := F.pows.idxOf x
def powF (F : FD) (n : Nat) : Int := F.pows.getD (n % F.pows.length) 0
def mulF (F : FD) (x y : Int) : Int := if x = 0 then 0 else if y = 0 then 0 else powF F (lgF F x + lgF F y)
def raisF (F : FD) (x : Int) (n : Nat) : Int := if n = 0 then 1 else if x = 0 then 0 else powF F (lgF F x * n)
def turnF (F : FD) (x k : Int) : Int := raisF F x ((F.p ^ (k % F.t).toNat).toNat)
def InF (F : FD) (x : Int) : Prop := 0 ≤ x ∧ x < F.size
theorem InF.mem {F : FD} (o : F.Ok) {x : Int} (h : InF F x) (n : x ≠ 0) : x ∈ F.pows := o.all x (by unfold InF at h; omega) h.2
theorem powF_in {F : FD} (o : F.Ok) (n : Nat) : powF F n ∈ F.pows := by
  unfold powF
  have h := Nat.mod_lt n o.pos
  rw [List.getD_eq_getElem?_getD, List.getElem?_eq_getElem h]
  exact List.getElem_mem h
theorem powF_InF {F : FD} (o : F.Ok) (n : Nat) : InF F (powF F n) := by
  have := o.low _ (powF_in o n)
  unfold InF; omega
theorem InF_zero {F : FD} (o : F.Ok) : InF F 0 := by
  have := o.cnt
  unfold InF; omega
theorem InF_one {F : FD} (o : F.Ok) : InF F 1 := by
  have := o.cnt
  have := o.pos
  unfold InF; omega
theorem mulF_InF {F : FD} (o : F.Ok) (x y : Int) : InF F (mulF F x y) := by
  unfold mulF
  split
  · exact InF_zero o
  · split
    · exact InF_zero o
    · exact powF_InF o _
theorem raisF_InF {F : FD} (o : F.Ok) (x : Int) (n : Nat) : InF F (raisF F x n) := by
  unfold raisF
  split
  · exact InF_one o
  · split
    · exact InF_zero o
    · exact powF_InF o _
def sp_Field_dot_added (K : Fr) : Sp := fun vs H Q _ => ∃ a F ok x y, vs = [.ref a, .int x, .int y] ∧ FA K H a F ok ∧ Evl.RetV (.int (addF F x y)) H Q
theorem len_Field_dot_added (vs : List V) (H : Hp) (Q : VK) (E : XK) (h : sp_Field_dot_added K vs H Q E) : vs.length = 3 := by obtain ⟨_, _, _, _, _, rfl, _⟩ := h; rfl
def t_Field_dot_added (K : Fr) : TS := (tSeq (tAsg (tListZip K (tCons (tMeth (He.ga K "Field") "figures_of" (sp_Field_dot_figures_of K) [] E0 (tVar 0) (tCons (tVar 1) tNil)) (tCons (tMeth (He.ga K "Field") "figures_of" (sp_Field_dot_figures_of K) [] E0 (tVar 0) (tCons (tVar 2) tNil)) tNil))) (gName 3)) (tRet (tMeth (He.ga K "Field") "with_figures" (sp_Field_dot_with_figures K) [] E0 (tVar 0) (tCons (tLc (iList K (tVar 3)) (gTup K 2 (gCons (gName 4) (gCons (gName 5) gNil))) tYes (tOp rModI (tOp rAddI (tVar 4) (tVar 5)) (tFld K (tVar 0) "_prime")) [4, 5]) tNil))))
theorem look_meth (p : Int) (m : Addr) (s : Int) (u w e : Addr) : List.lookup ("figures_of" : Str) (fFs p m s u w e) = none ∧ List.lookup ("with_figures" : Str) (fFs p m s u w e) = none ∧ List.lookup ("added" : Str) (fFs p m s u w e) = none ∧ List.lookup ("multiplied" : Str) (fFs p m s u w e) = none ∧ List.lookup ("raised" : Str) (fFs p m s u w e) = none ∧ List.lookup ("turned" : Str) (fFs p m s u w e) = none := ⟨rfl, rfl, rfl, rfl, rfl, rfl⟩
theorem zip_vals : ∀ xs ys : List Int, List.zip (xs.map V.int) (ys.map V.int) = (List.zip xs ys).map fun z => (V.int z.1, V.int z.2)
  | [], _ => by simp
  | _ :: _, [] => by simp
  | x :: xs, y :: ys => by
    simp only [List.map_cons, List.zip_cons_cons]
    rw [zip_vals xs ys]
theorem pure_Field_dot_added (vs : List V) (H : Hp) (Q : VK) (E : XK) (h : sp_Field_dot_added K vs H Q E) : t_Field_dot_added K { nx := fun _ H' => Q .non H', rt := Q } (start ["self", "one", "other", "pairs", "figure", "beside"] vs) H := by
  obtain ⟨a, F, ok, x, y, rfl, f, q⟩ := h
  have ff := f
  obtain ⟨c, o, dx, m, u, w, e, kvs, h1, h2, h3, h4, h5, h6, _⟩ := f
  have hpl := o.two
  have htb := o.tb
  have lk := look_meth F.p m F.size u w e
  refine ⟨_, rfl, a, dx, _, rfl, h1, lk.1, _, rfl, a, F, ok, x, rfl, ff, fun l1 H1 n1 e1 hl1 => ?_⟩
  refine ⟨_, rfl, a, dx, _, rfl, e1 _ _ h1, lk.1, _, rfl, a, F, ok, y, rfl, ff.ex e1, fun l2 H2 n2 e2 hl2 => ?_⟩
  refine ⟨l1, l2, _, _, rfl, sqL (e2 _ _ hl1), sqL hl2, fun H3 ps ts e3 nps nts hps hlp hpp => ?_⟩
  have E3 : Ex H H3 := Ex.trans e1 (Ex.trans e2 e3)
  refine ⟨_, rfl, a, dx, _, rfl, E3 _ _ h1, lk.2.1, ?_⟩
  rw [zip_vals] at hpp
  refine lcPairs (a := ps) (ts := ts) (fun x y => .int ((intOf x + intOf y) % F.p)) (fun Q q => ⟨_, rfl, q⟩) (sqL hlp) hpp ?_ (fun x y => rfl) (fun i v1 v2 gi H4 e4 Q4 q4 => ?_) (fun l H4 n4 e4 h4 => ?_)
  · rw [List.length_map, List.length_zip, figs_len, figs_len]; omega
  · rw [List.getElem?_map] at gi
    cases ez : (List.zip (figs F.p F.t x) (figs F.p F.t y))[i]? with
    | none => rw [ez] at gi; cases gi
    | some z =>
      rw [ez] at gi
      cases gi
      exact ⟨_, rfl, _, rfl, _, _, rfl, rfl, _, rfl, a, _, dx, _, _, rfl, e4 _ _ (E3 _ _ h1), c.cls, c.n1, rfl, _, _, rfl, rfl, by omega, q4 H4 (Ex.refl _)⟩
  · have e5 : ((List.zip (figs F.p F.t x) (figs F.p F.t y)).map fun z => (V.int z.1, V.int z.2)).map (fun z => (fun x y => V.int ((intOf x + intOf y) % F.p)) z.1 z.2) = ((List.zip (figs F.p F.t x) (figs F.p F.t y)).map fun z => (z.1 + z.2) % F.p).map V.int := by
      rw [List.map_map, List.map_map]; rfl
    rw [e5] at h4
    refine ⟨a, F, ok, l, _, rfl, ff.ex (Ex.trans E3 e4), sqL h4, ?_, fun v hv => ?_, fun H5 e6 => q H5 (Ex.trans E3 (Ex.trans e4 e6))⟩
    · rw [List.length_map, List.length_zip, figs_len, figs_len]; omega
    · obtain ⟨z, _, rfl⟩ := List.mem_map.mp hv
      have := Int.emod_nonneg (z.1 + z.2) (show F.p ≠ 0 by omega)
      have := Int.emod_lt_of_pos (z.1 + z.2) (show 0 < F.p by omega)
      omega
def sp_Field_dot_multiplied (K : Fr) : Sp := fun vs H Q _ => ∃ a F ok x y, vs = [.ref a, .int x, .int y] ∧ FA K H a F ok ∧ InF F x ∧ InF F y ∧ Q (.int (mulF F x y)) H
theorem len_Field_dot_multiplied (vs : List V) (H : Hp) (Q : VK) (E : XK) (h : sp_Field_dot_multiplied K vs H Q E) : vs.length = 3 := by obtain ⟨_, _, _, _, _, rfl, _⟩ := h; rfl
def t_Field_dot_multiplied (K : Fr) : TS := (tSeq (tIfS (tOr (tTest (tOp rEq (tVar 1) (tC (.int 0)))) (tTest (tOp rEq (tVar 2) (tC (.int 0))))) (tRet (tC (.int 0))) tNext) (tRet (tOp (rIxL K) (tFld K (tVar 0) "_powers") (tOp rModI (tOp rAddI (tDGet (tFld K (tVar 0) "_exponents") (tVar 1)) (tDGet (tFld K (tVar 0) "_exponents") (tVar 2))) (tCB (rLenA K) (tCons (tFld K (tVar 0) "_powers") tNil))))))
theorem dec_int0 (x : Int) : decide (V.int x = V.int 0) = decide (x = 0) := by
  by_cases c : x = 0
  · rw [c]; rfl
  · rw [decide_eq_false c, decide_eq_false fun z => c (V.int.inj z)]
theorem dgetF {F : FD} {e : Addr} {kvs : List (Key × V)} {x : Int} (o : F.Ok) (h5 : H e = some (.dK kvs)) (h6 : PlacesIn kvs F.pows) (hx : InF F x) (n : x ≠ 0) : DGet H e (.int x) (some (.int (lgF F x : Nat))) := by
  have z := DGet.k (k := .inl x) h5
  rw [h6.2 _ _ (o.ix (hx.mem o n))] at z
  exact z
theorem at_powF {F : FD} (o : F.Ok) (n : Nat) : atI (F.pows.map V.int) ((n : Int) % (F.pows.length : Int)) = some (.int (powF F n)) := by
  have e : (n : Int) % (F.pows.length : Int) = ((n % F.pows.length : Nat) : Int) := by omega
  rw [e]
  exact at_ints (Nat.mod_lt n o.pos)
theorem pure_Field_dot_multiplied (vs : List V) (H : Hp) (Q : VK) (E : XK) (h : sp_Field_dot_multiplied K vs H Q E) : t_Field_dot_multiplied K { nx := fun _ H' => Q .non H', rt := Q } (start ["self", "one", "other"] vs) H := by
  obtain ⟨a, F, ok, x, y, rfl, ⟨c, o, dx, m, u, w, e, kvs, h1, h2, h3, h4, h5, h6, _⟩, hx, hy, q⟩ := h
  refine ⟨_, rfl, rfl, _, rfl, ?_⟩
  rw [dec_int0]
  unfold mulF at q
  by_cases cx : x = 0
  · rw [if_pos cx] at q
    rw [decide_eq_true cx]
    exact iteT (iteT q)
  · rw [if_neg cx] at q
    rw [decide_eq_false cx]
    refine iteF ⟨_, rfl, rfl, _, rfl, ?_⟩
    rw [dec_int0]
    by_cases cy : y = 0
    · rw [if_pos cy] at q
      rw [decide_eq_true cy]
      exact iteT q
    · rw [if_neg cy] at q
      rw [decide_eq_false cy]
      refine iteF ?_
      have hpos := o.pos
      refine ⟨_, rfl, a, _, dx, _, _, rfl, h1, c.cls, c.n5, rfl, _, rfl, a, _, dx, _, _, rfl, h1, c.cls, c.n6, rfl, _, rfl, e, _, rfl, dgetF o h5 h6 hx cx, _, rfl, a, _, dx, _, _, rfl, h1, c.cls, c.n6, rfl, _, rfl, e, _, rfl, dgetF o h5 h6 hy cy, _, _, rfl, rfl, _, rfl, a, _, dx, _, _, rfl, h1, c.cls, c.n5, rfl, w, _, rfl, .inl (sqL h4), _, _, rfl, rfl, ?_, w, _, _, _, rfl, rfl, sqL h4, ?_, q⟩
      · rw [List.length_map]; omega
      · rw [List.length_map]
        have := at_powF o (lgF F x + lgF F y)
        rw [Int.natCast_add] at this
        exact this
def sp_Field_dot_raised (K : Fr) : Sp := fun vs H Q _ => ∃ a F ok x, ∃ n : Nat, vs = [.ref a, .int x, .int n] ∧ FA K H a F ok ∧ InF F x ∧ Q (.int (raisF F x n)) H
theorem len_Field_dot_raised (vs : List V) (H : Hp) (Q : VK) (E : XK) (h : sp_Field_dot_raised K vs H Q E) : vs.length = 3 := by obtain ⟨_, _, _, _, _, rfl, _⟩ := h; rfl
def t_Field_dot_raised (K : Fr) : TS := (tSeq (tIfS (tTest (tOp rEq (tVar 2) (tC (.int 0)))) (tRet (tC (.int 1))) tNext) (tSeq (tIfS (tTest (tOp rEq (tVar 1) (tC (.int 0)))) (tRet (tC (.int 0))) tNext) (tRet (tOp (rIxL K) (tFld K (tVar 0) "_powers") (tOp rModI (tOp rMulI (tDGet (tFld K (tVar 0) "_exponents") (tVar 1)) (tVar 2)) (tCB (rLenA K) (tCons (tFld K (tVar 0) "_powers") tNil)))))))
theorem lgF_lt {F : FD} (o : F.Ok) {x : Int} (hx : InF F x) (n : x ≠ 0) : lgF F x < F.pows.length := List.idxOf_lt_length_of_mem (hx.mem o n)
theorem pure_Field_dot_raised (vs : List V) (H : Hp) (Q : VK) (E : XK) (h : sp_Field_dot_raised K vs H Q E) : t_Field_dot_raised K { nx := fun _ H' => Q .non H', rt := Q } (start ["self", "one", "many"] vs) H := by
  obtain ⟨a, F, ok, x, n, rfl, ⟨c, o, dx, m, u, w, e, kvs, h1, h2, h3, h4, h5, h6, _⟩, hx, q⟩ := h
  refine ⟨_, rfl, rfl, _, rfl, ?_⟩
  rw [dec_int0]
  unfold raisF at q
  by_cases cn : n = 0
  · rw [if_pos cn] at q
    rw [decide_eq_true (by omega)]
    exact iteT q
  · rw [if_neg cn] at q
    rw [decide_eq_false (by omega)]
    refine iteF ⟨_, rfl, rfl, _, rfl, ?_⟩
    rw [dec_int0]
    by_cases cx : x = 0
    · rw [if_pos cx] at q
      rw [decide_eq_true cx]
      exact iteT q
    · rw [if_neg cx] at q
      rw [decide_eq_false cx]
      refine iteF ?_
      have hpos := o.pos
      have hlt := lgF_lt o hx cx
      have hcnt := o.cnt
      have hbig := o.big
      refine ⟨_, rfl, a, _, dx, _, _, rfl, h1, c.cls, c.n5, rfl, _, rfl, a, _, dx, _, _, rfl, h1, c.cls, c.n6, rfl, _, rfl, e, _, rfl, dgetF o h5 h6 hx cx, _, rfl, _, _, rfl, rfl, .inl (by omega), _, rfl, a, _, dx, _, _, rfl, h1, c.cls, c.n5, rfl, w, _, rfl, .inl (sqL h4), _, _, rfl, rfl, ?_, w, _, _, _, rfl, rfl, sqL h4, ?_, q⟩
      · rw [List.length_map]; omega
      · rw [List.length_map]
        have := at_powF o (lgF F x * n)
        rw [Int.natCast_mul] at this
        exact this
def sp_Field_dot_turned (K : Fr) : Sp := fun vs H Q _ => ∃ a F ok x k, vs = [.ref a, .int x, .int k] ∧ FA K H a F ok ∧ InF F x ∧ Q (.int (turnF F x k)) H
theorem len_Field_dot_turned (vs : List V) (H : Hp) (Q : VK) (E : XK) (h : sp_Field_dot_turned K vs H Q E) : vs.length = 3 := by obtain ⟨_, _, _, _, _, rfl, _⟩ := h; rfl
def t_Field_dot_turned (K : Fr) : TS := (tRet (tMeth (He.ga K "Field") "raised" (sp_Field_dot_raised K) [] E0 (tVar 0) (tCons (tVar 1) (tCons (tOp (rIxL K) (tFld K (tVar 0) "_units") (tOp rModI (tVar 2) (tCB (rLenA K) (tCons (tFld K (tVar 0) "_units") tNil)))) tNil))))
theorem pure_Field_dot_turned (vs : List V) (H : Hp) (Q : VK) (E : XK) (h : sp_Field_dot_turned K vs H Q E) : t_Field_dot_turned K { nx := fun _ H' => Q .non H', rt := Q } (start ["self", "one", "many"] vs) H := by
  obtain ⟨a, F, ok, x, k, rfl, f, hx, q⟩ := h
  have ff := f
  obtain ⟨c, o, dx, m, u, w, e, kvs, h1, h2, h3, h4, h5, h6, _⟩ := f
  have htb := o.tb
  have hpl := o.two
  have lk := look_meth F.p m F.size u w e
  have hk0 := Int.emod_nonneg k (show (F.t : Int) ≠ 0 by omega)
  have hk1 := Int.emod_lt_of_pos k (show (0 : Int) < F.t by omega)
  have hpw := pow_le7 hpl (k % F.t).toNat
  refine ⟨_, rfl, a, dx, _, rfl, h1, lk.2.2.2.2.1, _, rfl, _, rfl, a, _, dx, _, _, rfl, h1, c.cls, c.n4, rfl, _, rfl, _, rfl, a, _, dx, _, _, rfl, h1, c.cls, c.n4, rfl, u, _, rfl, .inl (sqL h3), _, _, rfl, rfl, ?_, u, _, _, .int (F.p ^ (k % F.t).toNat), rfl, rfl, sqL h3, ?_, ?_⟩
  · rw [units_len o]; omega
  · rw [units_len o]
    have e1 : k % (F.t : Int) = (((k % F.t).toNat : Nat) : Int) := by omega
    rw [e1]
    have hl : (k % (F.t : Int)).toNat < F.units.length := by unfold FD.units; rw [unitsP_len]; omega
    rw [at_ints hl]
    unfold FD.units
    rw [unitsP_get (by omega)]
    rfl
  · refine ⟨a, F, ok, x, (F.p ^ (k % F.t).toNat).toNat, ?_, ff, hx, q⟩
    have e2 : (((F.p ^ (k % (F.t : Int)).toNat).toNat : Nat) : Int) = F.p ^ (k % (F.t : Int)).toNat := by omega
    rw [e2]
    rfl
/-! ### checks -/
def sp_is_one_of (K : Fr) : Sp := fun vs H Q _ => ∃ a F ok v, vs = [.ref a, v] ∧ FA K H a F ok ∧ Kd K H v ∧ Q (.bl (below F.size v)) H
theorem len_is_one_of (vs : List V) (H : Hp) (Q : VK) (E : XK) (h : sp_is_one_of K vs H Q E) : vs.length = 2 := by obtain ⟨_, _, _, _, rfl, _⟩ := h; rfl
def t_is_one_of (K : Fr) : TS := (tRet (tCall (sp_is_below K) [] E0 (tCons (tVar 1) (tCons (tProp (He.ga K "Field") (sp_Field_dot_size K) [] E0 (tVar 0)) tNil))))
theorem pure_is_one_of (vs : List V) (H : Hp) (Q : VK) (E : XK) (h : sp_is_one_of K vs H Q E) : t_is_one_of K { nx := fun _ H' => Q .non H', rt := Q } (start ["field", "value"] vs) H := by
  obtain ⟨a, F, ok, v, rfl, f, k, q⟩ := h
  have ff := f
  obtain ⟨c, o, dx, m, u, w, e, kvs, h1, _⟩ := f
  exact ⟨_, rfl, _, rfl, a, dx, _, rfl, h1, a, F, ok, rfl, ff, v, F.size, rfl, k, q⟩
def sp_check_field (K : Fr) : Sp := fun vs H Q _ => ∃ a F ok, vs = [.ref a] ∧ FA K H a F ok ∧ Q .non H
theorem len_check_field (vs : List V) (H : Hp) (Q : VK) (E : XK) (h : sp_check_field K vs H Q E) : vs.length = 1 := by obtain ⟨_, _, _, rfl, _⟩ := h; rfl
def t_check_field (K : Fr) : TS := (tIfS (tNot (tB (tCB (rIsi K) (tCons (tVar 0) (tCons (tC (.ref (He.ga K "Field"))) tNil))))) tNever tNext)
theorem pure_check_field (vs : List V) (H : Hp) (Q : VK) (E : XK) (h : sp_check_field K vs H Q E) : t_check_field K { nx := fun _ H' => Q .non H', rt := Q } (start ["value"] vs) H := by
  obtain ⟨a, F, ok, rfl, ⟨c, o, dx, m, u, w, e, kvs, h1, _⟩, q⟩ := h
  exact ⟨_, rfl, _, _, _, _, true, rfl, .own _, .base (.ins h1 c.cls c.ha c.hn c.ht c.hm), kit_refl, true, rfl, iteF q⟩
def sp_check_one (K : Fr) : Sp := fun vs H Q _ => ∃ a F ok x, vs = [.ref a, .int x] ∧ FA K H a F ok ∧ InF F x ∧ Q .non H
theorem len_check_one (vs : List V) (H : Hp) (Q : VK) (E : XK) (h : sp_check_one K vs H Q E) : vs.length = 2 := by obtain ⟨_, _, _, _, rfl, _⟩ := h; rfl
def t_check_one (K : Fr) : TS := (tIfS (tNot (tB (tCall (sp_is_one_of K) [] E0 (tCons (tVar 0) (tCons (tVar 1) tNil))))) tNever tNext)
theorem below_in {F : FD} {x : Int} (h : InF F x) : below F.size (.int x) = true := by
  show (decide (0 ≤ x) && decide (x < F.size)) = true
  rw [decide_eq_true h.1, decide_eq_true h.2]; rfl
theorem pure_check_one (vs : List V) (H : Hp) (Q : VK) (E : XK) (h : sp_check_one K vs H Q E) : t_check_one K { nx := fun _ H' => Q .non H', rt := Q } (start ["field", "value"] vs) H := by
  obtain ⟨a, F, ok, x, rfl, f, hx, q⟩ := h
  refine ⟨_, rfl, _, rfl, a, F, ok, .int x, rfl, f, .int x, ?_⟩
  rw [below_in hx]
  exact ⟨true, rfl, iteF q⟩
def sp_check_many (K : Fr) : Sp := fun vs H Q _ => ∃ n m : Int, vs = [.int n, .int m] ∧ 0 ≤ n ∧ n ≤ m ∧ Q .non H
theorem len_check_many (vs : List V) (H : Hp) (Q : VK) (E : XK) (h : sp_check_many K vs H Q E) : vs.length = 2 := by obtain ⟨_, _, rfl, _⟩ := h; rfl
def t_check_many (K : Fr) : TS := (tIfS (tNot (tB (tCall (sp_is_below K) [] E0 (tCons (tVar 0) (tCons (tOp rAddI (tVar 1) (tC (.int 1))) tNil))))) tNever tNext)
theorem pure_check_many (vs : List V) (H : Hp) (Q : VK) (E : XK) (h : sp_check_many K vs H Q E) : t_check_many K { nx := fun _ H' => Q .non H', rt := Q } (start ["value", "most"] vs) H := by
  obtain ⟨n, m, rfl, h0, h1, q⟩ := h
  refine ⟨_, rfl, _, rfl, _, _, rfl, rfl, .int n, m + 1, rfl, .int n, ?_⟩
  have e : below (m + 1) (.int n) = true := by
    show (decide (0 ≤ n) && decide (n < m + 1)) = true
    rw [decide_eq_true h0, decide_eq_true (by omega)]; rfl
  rw [e]
  exact ⟨true, rfl, iteF q⟩
def sp_check_two (K : Fr) : Sp := fun vs H Q _ => ∃ a F ok x y, vs = [.ref a, .int x, .int y] ∧ FA K H a F ok ∧ InF F x ∧ InF F y ∧ Q .non H
theorem len_check_two (vs : List V) (H : Hp) (Q : VK) (E : XK) (h : sp_check_two K vs H Q E) : vs.length = 3 := by obtain ⟨_, _, _, _, _, rfl, _⟩ := h; rfl
def t_check_two (K : Fr) : TS := (tSeq (tDrop (tCall (sp_check_field K) [] E0 (tCons (tVar 0) tNil))) (tSeq (tDrop (tCall (sp_check_one K) [] E0 (tCons (tVar 0) (tCons (tVar 1) tNil)))) (tDrop (tCall (sp_check_one K) [] E0 (tCons (tVar 0) (tCons (tVar 2) tNil))))))
theorem pure_check_two (vs : List V) (H : Hp) (Q : VK) (E : XK) (h : sp_check_two K vs H Q E) : t_check_two K { nx := fun _ H' => Q .non H', rt := Q } (start ["field", "one", "other"] vs) H := by
  obtain ⟨a, F, ok, x, y, rfl, f, hx, hy, q⟩ := h
  exact ⟨_, rfl, a, F, ok, rfl, f, _, rfl, _, rfl, a, F, ok, x, rfl, f, hx, _, rfl, _, rfl, a, F, ok, y, rfl, f, hy, q⟩
def sp_check_one_many (K : Fr) : Sp := fun vs H Q _ => ∃ a F ok, ∃ x n m : Int, vs = [.ref a, .int x, .int n, .int m] ∧ FA K H a F ok ∧ InF F x ∧ 0 ≤ n ∧ n ≤ m ∧ Q .non H
theorem len_check_one_many (vs : List V) (H : Hp) (Q : VK) (E : XK) (h : sp_check_one_many K vs H Q E) : vs.length = 4 := by obtain ⟨_, _, _, _, _, _, rfl, _⟩ := h; rfl
def t_check_one_many (K : Fr) : TS := (tSeq (tDrop (tCall (sp_check_field K) [] E0 (tCons (tVar 0) tNil))) (tSeq (tDrop (tCall (sp_check_one K) [] E0 (tCons (tVar 0) (tCons (tVar 1) tNil)))) (tDrop (tCall (sp_check_many K) [] E0 (tCons (tVar 2) (tCons (tVar 3) tNil))))))
theorem pure_check_one_many (vs : List V) (H : Hp) (Q : VK) (E : XK) (h : sp_check_one_many K vs H Q E) : t_check_one_many K { nx := fun _ H' => Q .non H', rt := Q } (start ["field", "one", "many", "most"] vs) H := by
  obtain ⟨a, F, ok, x, n, m, rfl, f, hx, h0, h1, q⟩ := h
  exact ⟨_, rfl, a, F, ok, rfl, f, _, rfl, _, rfl, a, F, ok, x, rfl, f, hx, _, rfl, _, rfl, n, m, rfl, h0, h1, q⟩
/-! ### elements -/
def sp_plus (K : Fr) : Sp := fun vs H Q _ => ∃ a F ok x y, vs = [.ref a, .int x, .int y] ∧ FA K H a F ok ∧ InF F x ∧ InF F y ∧ Evl.RetV (.int (addF F x y)) H Q
theorem len_plus (vs : List V) (H : Hp) (Q : VK) (E : XK) (h : sp_plus K vs H Q E) : vs.length = 3 := by obtain ⟨_, _, _, _, _, rfl, _⟩ := h; rfl
def t_plus (K : Fr) : TS := (tSeq (tDrop (tCall (sp_check_two K) [] E0 (tCons (tVar 0) (tCons (tVar 1) (tCons (tVar 2) tNil))))) (tRet (tMeth (He.ga K "Field") "added" (sp_Field_dot_added K) [] E0 (tVar 0) (tCons (tVar 1) (tCons (tVar 2) tNil)))))
theorem pure_plus (vs : List V) (H : Hp) (Q : VK) (E : XK) (h : sp_plus K vs H Q E) : t_plus K { nx := fun _ H' => Q .non H', rt := Q } (start ["field", "one", "other"] vs) H := by
  obtain ⟨a, F, ok, x, y, rfl, f, hx, hy, q⟩ := h
  have ff := f
  obtain ⟨c, o, dx, m, u, w, e, kvs, h1, _⟩ := f
  have lk := look_meth F.p m F.size u w e
  exact ⟨_, rfl, _, rfl, _, rfl, a, F, ok, x, y, rfl, ff, hx, hy, _, rfl, a, dx, _, rfl, h1, lk.2.2.1, _, rfl, _, rfl, a, F, ok, x, y, rfl, ff, q⟩
def sp_times (K : Fr) : Sp := fun vs H Q _ => ∃ a F ok x y, vs = [.ref a, .int x, .int y] ∧ FA K H a F ok ∧ InF F x ∧ InF F y ∧ Q (.int (mulF F x y)) H
theorem len_times (vs : List V) (H : Hp) (Q : VK) (E : XK) (h : sp_times K vs H Q E) : vs.length = 3 := by obtain ⟨_, _, _, _, _, rfl, _⟩ := h; rfl
def t_times (K : Fr) : TS := (tSeq (tDrop (tCall (sp_check_two K) [] E0 (tCons (tVar 0) (tCons (tVar 1) (tCons (tVar 2) tNil))))) (tRet (tMeth (He.ga K "Field") "multiplied" (sp_Field_dot_multiplied K) [] E0 (tVar 0) (tCons (tVar 1) (tCons (tVar 2) tNil)))))
theorem pure_times (vs : List V) (H : Hp) (Q : VK) (E : XK) (h : sp_times K vs H Q E) : t_times K { nx := fun _ H' => Q .non H', rt := Q } (start ["field", "one", "other"] vs) H := by
  obtain ⟨a, F, ok, x, y, rfl, f, hx, hy, q⟩ := h
  have ff := f
  obtain ⟨c, o, dx, m, u, w, e, kvs, h1, _⟩ := f
  have lk := look_meth F.p m F.size u w e
  exact ⟨_, rfl, _, rfl, _, rfl, a, F, ok, x, y, rfl, ff, hx, hy, _, rfl, a, dx, _, rfl, h1, lk.2.2.2.1, _, rfl, _, rfl, a, F, ok, x, y, rfl, ff, hx, hy, q⟩
def sp_power (K : Fr) : Sp := fun vs H Q _ => ∃ a F ok x, ∃ n : Nat, vs = [.ref a, .int x, .int n] ∧ FA K H a F ok ∧ InF F x ∧ n ≤ 1000 ∧ Q (.int (raisF F x n)) H
theorem len_power (vs : List V) (H : Hp) (Q : VK) (E : XK) (h : sp_power K vs H Q E) : vs.length = 3 := by obtain ⟨_, _, _, _, _, rfl, _⟩ := h; rfl
def t_power (K : Fr) : TS := (tSeq (tDrop (tCall (sp_check_one_many K) [] E0 (tCons (tVar 0) (tCons (tVar 1) (tCons (tVar 2) (tCons (tC (.int 1000)) tNil)))))) (tRet (tMeth (He.ga K "Field") "raised" (sp_Field_dot_raised K) [] E0 (tVar 0) (tCons (tVar 1) (tCons (tVar 2) tNil)))))
theorem pure_power (vs : List V) (H : Hp) (Q : VK) (E : XK) (h : sp_power K vs H Q E) : t_power K { nx := fun _ H' => Q .non H', rt := Q } (start ["field", "one", "many"] vs) H := by
  obtain ⟨a, F, ok, x, n, rfl, f, hx, hn, q⟩ := h
  have ff := f
  obtain ⟨c, o, dx, m, u, w, e, kvs, h1, _⟩ := f
  have lk := look_meth F.p m F.size u w e
  exact ⟨_, rfl, _, rfl, _, rfl, a, F, ok, x, n, 1000, rfl, ff, hx, by omega, by omega, _, rfl, a, dx, _, rfl, h1, lk.2.2.2.2.1, _, rfl, _, rfl, a, F, ok, x, n, rfl, ff, hx, q⟩
def sp_turned (K : Fr) : Sp := fun vs H Q _ => ∃ a F ok x, ∃ n : Int, vs = [.ref a, .int x, .int n] ∧ FA K H a F ok ∧ InF F x ∧ 0 ≤ n ∧ n ≤ 24 ∧ Q (.int (turnF F x n)) H
theorem len_turned (vs : List V) (H : Hp) (Q : VK) (E : XK) (h : sp_turned K vs H Q E) : vs.length = 3 := by obtain ⟨_, _, _, _, _, rfl, _⟩ := h; rfl
def t_turned (K : Fr) : TS := (tSeq (tDrop (tCall (sp_check_one_many K) [] E0 (tCons (tVar 0) (tCons (tVar 1) (tCons (tVar 2) (tCons (tC (.int 24)) tNil)))))) (tRet (tMeth (He.ga K "Field") "turned" (sp_Field_dot_turned K) [] E0 (tVar 0) (tCons (tVar 1) (tCons (tVar 2) tNil)))))
theorem pure_turned (vs : List V) (H : Hp) (Q : VK) (E : XK) (h : sp_turned K vs H Q E) : t_turned K { nx := fun _ H' => Q .non H', rt := Q } (start ["field", "one", "many"] vs) H := by
  obtain ⟨a, F, ok, x, n, rfl, f, hx, h0, hn, q⟩ := h
  have ff := f
  obtain ⟨c, o, dx, m, u, w, e, kvs, h1, _⟩ := f
  have lk := look_meth F.p m F.size u w e
  exact ⟨_, rfl, _, rfl, _, rfl, a, F, ok, x, n, 24, rfl, ff, hx, h0, hn, _, rfl, a, dx, _, rfl, h1, lk.2.2.2.2.2, _, rfl, _, rfl, a, F, ok, x, n, rfl, ff, hx, q⟩
def sp_turned_back (K : Fr) : Sp := fun vs H Q _ => ∃ a F ok x, ∃ n : Int, vs = [.ref a, .int x, .int n] ∧ FA K H a F ok ∧ InF F x ∧ 0 ≤ n ∧ n ≤ 24 ∧ Q (.int (turnF F x (-n))) H
theorem len_turned_back (vs : List V) (H : Hp) (Q : VK) (E : XK) (h : sp_turned_back K vs H Q E) : vs.length = 3 := by obtain ⟨_, _, _, _, _, rfl, _⟩ := h; rfl
def t_turned_back (K : Fr) : TS := (tSeq (tDrop (tCall (sp_check_one_many K) [] E0 (tCons (tVar 0) (tCons (tVar 1) (tCons (tVar 2) (tCons (tC (.int 24)) tNil)))))) (tRet (tMeth (He.ga K "Field") "turned" (sp_Field_dot_turned K) [] E0 (tVar 0) (tCons (tVar 1) (tCons (tUn rNeg (tVar 2)) tNil)))))
theorem pure_turned_back (vs : List V) (H : Hp) (Q : VK) (E : XK) (h : sp_turned_back K vs H Q E) : t_turned_back K { nx := fun _ H' => Q .non H', rt := Q } (start ["field", "one", "many"] vs) H := by
  obtain ⟨a, F, ok, x, n, rfl, f, hx, h0, hn, q⟩ := h
  have ff := f
  obtain ⟨c, o, dx, m, u, w, e, kvs, h1, _⟩ := f
  have lk := look_meth F.p m F.size u w e
  exact ⟨_, rfl, _, rfl, _, rfl, a, F, ok, x, n, 24, rfl, ff, hx, h0, hn, _, rfl, a, dx, _, rfl, h1, lk.2.2.2.2.2, _, rfl, _, rfl, _, rfl, a, F, ok, x, -n, rfl, ff, hx, q⟩
end

end TP
/-! PL -/
set_option maxHeartbeats 4000000
namespace TP
open PySem PySem.Spec PyProof.Rows L2
local macro_rules | `(tactic| walk_at "s1") => `(tactic| first | refine ⟨_, rfl, ?_⟩ | refine ⟨_, _, rfl, rfl, ?_⟩ | refine ⟨rfl, ?_⟩ | refine iteT ?_ | refine iteF ?_)
local macro_rules | `(tactic| walk_at "st") => `(tactic| (repeat (walk_at "s1")))
local macro_rules | `(tactic| walk_at "sq") => `(tactic| first | assumption | exact sqL (by assumption) | exact sqT (by assumption) | (refine Ex.seq (by assumption) ?_; walk_at "sq") | (refine Ex.tup (by assumption) ?_; walk_at "sq"))
local macro_rules | `(tactic| walk_at "at") => `(tactic| first | assumption | (refine (show Ex _ _ by assumption) _ _ ?_; walk_at "at"))
local macro_rules | `(tactic| walk_at "sl") => `(tactic| ((try dsimp only); refine tSeqI ?_; (try dsimp only)))

variable {K : Fr}
theorem cut_ints (ns : List Int) (lo hi : Option Int) : ∃ ms : List Int, cutV (ns.map V.int) lo hi = ms.map V.int := by
  unfold cutV
  rw [← List.map_drop, ← List.map_take]
  exact ⟨_, rfl⟩
theorem ltd {j : Int} (h : decide (0 < j) = true) : 0 < j := of_decide_eq_true h
/-! ### the pot -/
def sp_law_pot (K : Fr) : Sp := fun vs H Q _ => ∃ (a : Addr) (ns : List Int) (k : Nat), vs = [.ref a, .int k] ∧ SqL K H a (ns.map V.int) ∧ ∀ p H', H p = none → Ex H H' → Po p H' → Q (.ref p) H'
theorem len_law_pot (vs : List V) (H : Hp) (Q : VK) (E : XK) (h : sp_law_pot K vs H Q E) : vs.length = 2 := by obtain ⟨_, _, _, rfl, _⟩ := h; rfl
def t_law_pot (K : Fr) : TS := (tSeq (tAsg (tIf (tTest (tOp rLtI (tVar 1) (tCB (rLenA K) (tCons (tVar 0) tNil)))) (tCB (rAbs) (tCons (tOp (rIxL K) (tVar 0) (tVar 1)) tNil)) (tOp rAddI (tOp rAddI (tOp rMulI (tC (.int 107)) (tVar 1)) (tC (.int 53))) (tOp rModI (tCB (rAbs) (tCons (tCB (rSum K) (tCons (tSl (rSlL K) (tVar 0) tNoPart (tPart (tC (.int 1)))) tNil)) tNil)) (tC (.int 1000003))))) (gName 2)) (tRet (tLst (tCons (tCB (rMax2) (tCons (tC (.int 0)) (tCons (tOp rSubI (tVar 2) (tOp rPowI (tC (.int 10)) (tC (.int 18)))) tNil))) (tCons (tOp rAddI (tOp rModI (tCB (rIntOf) (tCons (tOp rAddI (tOp rAddI (tOp rMulI (tOp rModI (tCB (rIntOf) (tCons (tVar 2) tNil)) (tC (.int 2147483549))) (tC (.int 40471))) (tOp rMulI (tC (.int 7127)) (tVar 1))) (tC (.int 89))) tNil)) (tC (.int 2147483563))) (tC (.int 1))) tNil)))))
theorem pure_law_pot (vs : List V) (H : Hp) (Q : VK) (E : XK) (h : sp_law_pot K vs H Q E) : t_law_pot K { nx := fun _ H' => Q .non H', rt := Q } (start ["_law_script", "_law_k", "_law_cell"] vs) H := by
  obtain ⟨a, ns, k, rfl, hs, q⟩ := h
  refine tSeqI ?_
  dsimp only
  have fin : ∀ (cell : Int) (H1 : Hp), Ex H H1 → (tRet (tLst (tCons (tCB (rMax2) (tCons (tC (.int 0)) (tCons (tOp rSubI (tVar 2) (tOp rPowI (tC (.int 10)) (tC (.int 18)))) tNil))) (tCons (tOp rAddI (tOp rModI (tCB (rIntOf) (tCons (tOp rAddI (tOp rAddI (tOp rMulI (tOp rModI (tCB (rIntOf) (tCons (tVar 2) tNil)) (tC (.int 2147483549))) (tC (.int 40471))) (tOp rMulI (tC (.int 7127)) (tVar 1))) (tC (.int 89))) tNil)) (tC (.int 2147483563))) (tC (.int 1))) tNil)))) { nx := fun _ H' => Q .non H', rt := Q } [some (.ref a), some (.int (k : Nat)), some (.int cell)] H1 := fun cell H1 e1 => by
    refine ⟨_, rfl, _, _, rfl, rfl, ⟨by decide, by decide, by decide⟩, _, _, rfl, rfl, _, _, rfl, _, rfl, .inl ⟨_, rfl, _, _, rfl, rfl, ltd rfl, _, _, rfl, rfl, .inr ⟨by decide, by decide⟩, _, rfl, _, _, rfl, rfl, .inl ⟨by decide, by decide⟩, _, _, rfl, rfl, _, _, rfl, rfl, .inl ⟨_, rfl, _, _, rfl, rfl, ltd rfl, _, _, rfl, rfl, two_ok, ?_⟩⟩⟩
    intro p n2; generalize E_ : upd _ p _ = H2; have e2 := genE E_ n2; have h2 := genS E_; clear E_
    refine q p H2 (Ex.back e1 n2) (Ex.trans e1 e2) ⟨_, _, h2, ?_, ?_, ?_⟩
    · split <;> omega
    · omega
    · omega
  refine tAsgI ?_
  refine ⟨_, rfl, _, rfl, a, _, rfl, .inl hs, _, _, rfl, rfl, _, rfl, ?_⟩
  rw [List.length_map]
  by_cases c : (k : Int) < (ns.length : Int)
  · rw [decide_eq_true c]
    refine iteT ⟨_, rfl, _, rfl, a, _, _, _, rfl, rfl, hs, at_ints (by omega), _, rfl, fin _ H (Ex.refl H)⟩
  · rw [decide_eq_false c]
    refine iteF ⟨_, rfl, _, _, rfl, rfl, .inl ⟨by decide, by decide⟩, _, _, rfl, rfl, _, rfl, _, rfl, a, _, rfl, hs, ?_⟩
    intro l n1; generalize E_ : upd _ l _ = H1; have e1 := genE E_ n1; have h1 := genS E_; clear E_
    obtain ⟨ms, em⟩ := cut_ints ns none (some 1)
    rw [em] at h1
    exact ⟨l, ms, rfl, sqL h1, _, rfl, _, _, rfl, rfl, ltd rfl, _, _, rfl, rfl, fin _ H1 e1⟩
/-! ### a draw: any digit -/
def sp_law_draw (K : Fr) : Sp := fun vs H Q _ => ∃ p, ∃ n : Int, vs = [.ref p, .int n] ∧ 1 ≤ n ∧ n < 1073741824 ∧ Po p H ∧ ∀ (d : Int) H', 0 ≤ d → d < n → ExP p H H' → Po p H' → Q (.int d) H'
theorem len_law_draw (vs : List V) (H : Hp) (Q : VK) (E : XK) (h : sp_law_draw K vs H Q E) : vs.length = 2 := by obtain ⟨_, _, rfl, _⟩ := h; rfl
def t_law_draw (K : Fr) : TS := (tSeq (tIfS (tTest (tOp rGtI (tOp (rIxL K) (tVar 0) (tC (.int 0))) (tC (.int 0)))) (tSeq (tAsg (tCB (rDivmod) (tCons (tOp (rIxL K) (tVar 0) (tC (.int 0))) (tCons (tVar 1) tNil))) (gTup K 2 (gCons (gSub (tVar 0) (tC (.int 0)) rSetL) (gCons (gName 2) gNil)))) (tRet (tVar 2))) tNext) (tSeq (tAsg (tOp rModI (tCB (rIntOf) (tCons (tOp rAddI (tOp rMulI (tOp (rIxL K) (tVar 0) (tC (.int 1))) (tC (.int 40692))) (tC (.int 7151))) tNil)) (tC (.int 2147483587))) (gSub (tVar 0) (tC (.int 1)) rSetL)) (tRet (tOp rModI (tCB (rIntOf) (tCons (tOp rFdivI (tOp rModI (tCB (rIntOf) (tCons (tOp rMulI (tOp (rIxL K) (tVar 0) (tC (.int 1))) (tOp (rIxL K) (tVar 0) (tC (.int 1)))) tNil)) (tC (.int 2147483629))) (tC (.int 19))) tNil)) (tVar 1)))))
theorem pure_law_draw (vs : List V) (H : Hp) (Q : VK) (E : XK) (h : sp_law_draw K vs H Q E) : t_law_draw K { nx := fun _ H' => Q .non H', rt := Q } (start ["_law_pot_here", "_law_sides", "_law_digit"] vs) H := by
  obtain ⟨p, n, rfl, n1, n2, ⟨m, s, hp, hm, hs, hs2⟩, q⟩ := h
  refine tSeqI ?_
  dsimp only
  refine ⟨_, rfl, p, _, 0, .int m, rfl, rfl, sqL hp, rfl, _, _, rfl, rfl, _, rfl, ?_⟩
  by_cases c : 0 < m
  · rw [decide_eq_true c]
    refine iteT ⟨_, rfl, p, _, 0, .int m, rfl, rfl, sqL hp, rfl, _, rfl, _, _, rfl, ⟨by omega, n2⟩, ?_⟩
    intro T nT; generalize E_ : upd _ T _ = H1; have e1 := genE E_ nT; have h1 := genS E_; clear E_
    refine ⟨T, _, rfl, sqT h1, rfl, _, _, rfl, _, rfl, p, _, 0, 0, rfl, rfl, e1 _ _ hp, rfl, _, _, rfl, rfl, ?_⟩
    refine ⟨_, rfl, q (m % n) _ (Int.emod_nonneg _ (by omega)) (Int.emod_lt_of_pos _ (by omega)) ((e1.p (p := p)).trans fun y u ny hy => by rw [upd_ne ny]; exact hy) ⟨m / n, s, upd_same, Int.ediv_nonneg hm (by omega), hs, hs2⟩⟩
  · rw [decide_eq_false c]
    refine iteF ?_
    refine ⟨_, rfl, p, _, 1, .int s, rfl, rfl, sqL hp, rfl, _, _, rfl, rfl, .inl ⟨by omega, by omega⟩, _, _, rfl, rfl, .inl ⟨_, rfl, _, _, rfl, rfl, ltd rfl, _, rfl, p, _, 1, 1, rfl, rfl, hp, rfl, ?_⟩⟩
    have b1 := Int.emod_nonneg (s * 40692 + 7151) (show (2147483587 : Int) ≠ 0 by decide)
    have b2 := Int.emod_lt_of_pos (s * 40692 + 7151) (show (0 : Int) < 2147483587 by decide)
    generalize hv : (s * 40692 + 7151) % 2147483587 = v at b1 b2
    have h2 : (upd H p (.lst ([V.int m, V.int s].set 1 (V.int ((s * 40692 + 7151) % 2147483587))))) p = some (.lst [V.int m, V.int v]) := by rw [upd_same, hv]; rfl
    have e2 : ExP p H (upd H p (.lst ([V.int m, V.int s].set 1 (V.int ((s * 40692 + 7151) % 2147483587))))) := fun y u ny hy => by rw [upd_ne ny]; exact hy
    generalize (upd H p (.lst ([V.int m, V.int s].set 1 (V.int ((s * 40692 + 7151) % 2147483587))))) = H2 at h2 e2
    refine ⟨_, rfl, p, _, 1, .int v, rfl, rfl, sqL h2, rfl, _, rfl, p, _, 1, .int v, rfl, rfl, sqL h2, rfl, _, _, rfl, rfl, .inl ⟨by omega, by omega⟩, .inl ⟨_, rfl, _, _, rfl, rfl, ltd rfl, _, _, rfl, rfl, ⟨by decide, by decide⟩, .inl ⟨_, rfl, _, rfl, _, _, rfl, rfl, (show 0 < n by omega), ?_⟩⟩⟩
    exact q _ H2 (Int.emod_nonneg _ (by omega)) (Int.emod_lt_of_pos _ (by omega)) e2 ⟨m, v, h2, hm, b1, by omega⟩
def sp_law_pick (K : Fr) : Sp := fun vs H Q _ => ∃ p l xs, vs = [.ref p, .ref l] ∧ H l = some (.lst xs) ∧ l ≠ p ∧ xs ≠ [] ∧ xs.length ≤ 1000 ∧ Po p H ∧ ∀ v H', v ∈ xs → ExP p H H' → Po p H' → Q v H'
theorem len_law_pick (vs : List V) (H : Hp) (Q : VK) (E : XK) (h : sp_law_pick K vs H Q E) : vs.length = 2 := by obtain ⟨_, _, _, rfl, _⟩ := h; rfl
def t_law_pick (K : Fr) : TS := (tRet (tOp (rIxL K) (tVar 1) (tCall (sp_law_draw K) [] E0 (tCons (tVar 0) (tCons (tCB (rLenA K) (tCons (tVar 1) tNil)) tNil)))))
theorem pure_law_pick (vs : List V) (H : Hp) (Q : VK) (E : XK) (h : sp_law_pick K vs H Q E) : t_law_pick K { nx := fun _ H' => Q .non H', rt := Q } (start ["_law_pot_here", "_law_some"] vs) H := by
  obtain ⟨p, l, xs, rfl, hl, nl, hn, hz, hP, q⟩ := h
  have h0 : xs.length ≠ 0 := fun e => hn (List.length_eq_zero_iff.mp e)
  refine ⟨_, rfl, _, rfl, _, rfl, l, _, rfl, .inl (sqL hl), p, _, rfl, by omega, by omega, hP, fun d H1 d0 d1 e1 P1 => ?_⟩
  have hd : d.toNat < xs.length := by omega
  refine ⟨l, xs, d, xs[d.toNat], rfl, rfl, sqL (e1 _ _ nl hl), ?_, q _ H1 (List.getElem_mem hd) e1 P1⟩
  have ed : ((d.toNat : Nat) : Int) = d := by omega
  have z : atI xs ((d.toNat : Nat) : Int) = some xs[d.toNat] := atI_nat (List.getElem?_eq_getElem hd)
  rw [ed] at z
  exact z
/-! ### the fields that are drawn -/
def cTA : List Int → TA
  | [] => tNil
  | i :: r => tCons (tC (.int i)) (cTA r)
def pTA : List (Int × List Int) → TA
  | [] => tNil
  | z :: r => tCons (tTup (tCons (tC (.int z.1)) (tCons (tLst (cTA z.2)) tNil))) (pTA r)
theorem cTA_eq {σ : L2.St} {H : Hp} : ∀ (l : List Int) (Q : List V → Hp → Prop), Q (l.map V.int) H → cTA l σ H Q
  | [], Q, h => h
  | i :: r, Q, h => cTA_eq r (fun xs H2 => Q (.int i :: xs) H2) h
/-- a pair as it was laid behind N -/
def PairAt (N H : Hp) (v : V) (z : Int × List Int) : Prop := ∃ t m, v = .ref t ∧ H t = some (.tup [.int z.1, .ref m]) ∧ H m = some (.lst (z.2.map V.int)) ∧ N t = none ∧ N m = none
theorem PairAt.ex {N H H' : Hp} {v : V} {z : Int × List Int} (h : PairAt N H v z) (e : Ex H H') : PairAt N H' v z := by
  obtain ⟨t, m, h1, h2, h3, h4⟩ := h
  exact ⟨t, m, h1, e _ _ h2, e _ _ h3, h4⟩
theorem pairedM {α β : Type} {F G : α → β → Prop} (f : ∀ a b, F a b → G a b) : ∀ {l : List α} {m : List β}, Paired F l m → Paired G l m
  | _, _, .nil => .nil
  | _, _, .cons r t => .cons (f _ _ r) (pairedM f t)
theorem pTA_ok {N : Hp} {σ : L2.St} : ∀ (l : List (Int × List Int)) (H : Hp) (Q : List V → Hp → Prop), Ex N H → (∀ z ∈ l, z.2.length ≤ 1000) → (∀ vs H', Ex H H' → Paired (PairAt N H') vs l → Q vs H') → pTA l σ H Q
  | [], H, Q, _, _, h => h [] H (Ex.refl H) .nil
  | z :: r, H, Q, eN, hz, h => by
    refine cTA_eq z.2 _ ⟨?_, ?_⟩
    · rw [List.length_map]
      exact small_sz (by have := hz z List.mem_cons_self; omega)
    intro m n1; generalize E_ : upd _ m _ = H1; have e1 := genE E_ n1; have h1 := genS E_; clear E_
    refine ⟨by show 2 ≤ sizeLine; decide, ?_⟩
    intro t n2; generalize E_ : upd _ t _ = H2; have e2 := genE E_ n2; have h2 := genS E_; clear E_
    refine pTA_ok (N := N) r H2 _ (Ex.trans eN (Ex.trans e1 e2)) (fun y hy => hz y (List.mem_cons_of_mem _ hy)) fun vs H3 e3 hp => h _ H3 (Ex.trans e1 (Ex.trans e2 e3)) (.cons ⟨t, m, rfl, e3 _ _ h2, e3 _ _ (e2 _ _ h1), Ex.back eN (Ex.back e1 n2), Ex.back eN n1⟩ hp)
def fldsA : List (Int × List Int) := [(2, [1, 1, 1]), (2, [1, 1, 0, 1]), (2, [1, 0, 1, 1]), (2, [1, 1, 0, 0, 1])] ++ [(3, [1, 0, 1]), (3, [2, 1, 1]), (5, [2, 0, 1])]
def fldsB : List (Int × List Int) := [(2, [1, 0, 1, 0, 0, 1]), (2, [1, 1, 0, 0, 0, 0, 1]), (3, [1, 2, 0, 1]), (7, [1, 0, 1])] ++ [(5, [1, 1, 0, 1]), (2, [1, 1, 0, 0, 0, 0, 0, 1]), (3, [2, 1, 0, 0, 1])]
def flds : List (Int × List Int) := fldsA ++ fldsB
def sp_law_field (K : Fr) : Sp := fun vs H Q _ => ∃ p, vs = [.ref p] ∧ Po p H ∧ ∀ z ∈ flds, ∀ t m H', H' t = some (.tup [.int z.1, .ref m]) → H' m = some (.lst (z.2.map V.int)) → m ≠ p → ExP p H H' → Po p H' → Q (.ref t) H'
theorem len_law_field (vs : List V) (H : Hp) (Q : VK) (E : XK) (h : sp_law_field K vs H Q E) : vs.length = 1 := by obtain ⟨_, rfl, _⟩ := h; rfl
def t_law_field (K : Fr) : TS := (tSeq (tAsg (tLst (pTA [(2, [1, 1, 1]), (2, [1, 1, 0, 1]), (2, [1, 0, 1, 1]), (2, [1, 1, 0, 0, 1])])) (gName 1)) (tSeq (tAsg (tOp rCat (tVar 1) (tLst (pTA [(3, [1, 0, 1]), (3, [2, 1, 1]), (5, [2, 0, 1])]))) (gName 1)) (tSeq (tIfS (tTest (tOp rEq (tCall (sp_law_draw K) [] E0 (tCons (tVar 0) (tCons (tC (.int 5)) tNil))) (tC (.int 0)))) (tSeq (tAsg (tLst (pTA [(2, [1, 0, 1, 0, 0, 1]), (2, [1, 1, 0, 0, 0, 0, 1]), (3, [1, 2, 0, 1]), (7, [1, 0, 1])])) (gName 1)) (tAsg (tOp rCat (tVar 1) (tLst (pTA [(5, [1, 1, 0, 1]), (2, [1, 1, 0, 0, 0, 0, 0, 1]), (3, [2, 1, 0, 0, 1])]))) (gName 1))) tNext) (tRet (tCall (sp_law_pick K) [] E0 (tCons (tVar 0) (tCons (tVar 1) tNil)))))))
theorem pairs_app {N H : Hp} : ∀ {vs ws : List V} {l r : List (Int × List Int)}, Paired (PairAt N H) vs l → Paired (PairAt N H) ws r → Paired (PairAt N H) (vs ++ ws) (l ++ r)
  | _, _, _, _, .nil, h => h
  | _, _, _, _, .cons a t, h => .cons a (pairs_app t h)
/-- two lists of pairs, the second one put to the first one -/
theorem twoPairs2 {D : Ends} {σ : L2.St} {N H : Hp} {s0 : Option V} {l r : List (Int × List Int)} (x : V) (eN : Ex N H) (hl : ∀ z ∈ l, z.2.length ≤ 1000) (hr : ∀ z ∈ r, z.2.length ≤ 1000) (nl : l.length ≤ 100) (nr : r.length ≤ 100)
    (h : ∀ a vs H', N a = none → Ex H H' → H' a = some (.lst vs) → Paired (PairAt N H') vs (l ++ r) → D.nx [some x, some (.ref a)] H') :
    tSeq (tAsg (tLst (pTA l)) (gName 1)) (tAsg (tOp rCat (tVar 1) (tLst (pTA r))) (gName 1)) D [some x, s0] H := by
  refine pTA_ok (N := N) l H _ eN hl fun vs H1 e1 hp1 => ?_
  have l1 : vs.length = l.length := Paired.length hp1
  refine ⟨small_sz (by omega), ?_⟩
  intro a n2; generalize E_ : upd _ a _ = H2; have e2 := genE E_ n2; have h2 := genS E_; clear E_
  refine ⟨_, rfl, pTA_ok (N := N) r H2 _ (Ex.trans eN (Ex.trans e1 e2)) hr fun ws H3 e3 hp3 => ?_⟩
  have l3 : ws.length = r.length := Paired.length hp3
  refine ⟨small_sz (by omega), ?_⟩
  intro b n4; generalize E_ : upd _ b _ = H4; have e4 := genE E_ n4; have h4 := genS E_; clear E_
  refine ⟨a, b, vs, ws, rfl, rfl, e4 _ _ (e3 _ _ h2), h4, small_sz (by omega), ?_⟩
  intro c n5; generalize E_ : upd _ c _ = H5; have e5 := genE E_ n5; have h5 := genS E_; clear E_
  have E5 : Ex H H5 := Ex.trans e1 (Ex.trans e2 (Ex.trans e3 (Ex.trans e4 e5)))
  exact h c _ H5 (Ex.back (Ex.trans eN (Ex.trans e1 (Ex.trans e2 (Ex.trans e3 e4)))) n5) E5 h5 (pairs_app (pairedM (fun v z k => k.ex (Ex.trans e2 (Ex.trans e3 (Ex.trans e4 e5)))) hp1) (pairedM (fun v z k => k.ex (Ex.trans e4 e5)) hp3))
theorem twoPairs {D : Ends} {N H : Hp} {s0 : Option V} {l r : List (Int × List Int)} {u : TS} (x : V) (eN : Ex N H) (hl : ∀ z ∈ l, z.2.length ≤ 1000) (hr : ∀ z ∈ r, z.2.length ≤ 1000) (nl : l.length ≤ 100) (nr : r.length ≤ 100)
    (h : ∀ a vs H', N a = none → Ex H H' → H' a = some (.lst vs) → Paired (PairAt N H') vs (l ++ r) → u D [some x, some (.ref a)] H') :
    tSeq (tAsg (tLst (pTA l)) (gName 1)) (tSeq (tAsg (tOp rCat (tVar 1) (tLst (pTA r))) (gName 1)) u) D [some x, s0] H :=
  twoPairs2 (D := { D with nx := u D }) (σ := []) x eN hl hr nl nr h
theorem paired_mem {α β : Type} {F : α → β → Prop} : ∀ {l : List α} {m : List β}, Paired F l m → ∀ {x : α}, x ∈ l → ∃ y ∈ m, F x y
  | _, _, .nil, _, h => by cases h
  | _, _, .cons r t, x, h => by
    rcases List.mem_cons.mp h with rfl | h
    · exact ⟨_, List.mem_cons_self, r⟩
    · obtain ⟨y, h1, h2⟩ := paired_mem t h
      exact ⟨y, List.mem_cons_of_mem _ h1, h2⟩
theorem pure_law_field (vs : List V) (H : Hp) (Q : VK) (E : XK) (h : sp_law_field K vs H Q E) : t_law_field K { nx := fun _ H' => Q .non H', rt := Q } (start ["_law_pot_here", "_law_kept"] vs) H := by
  obtain ⟨p, rfl, hP, q⟩ := h
  have fin : ∀ (N : Hp) (l : List (Int × List Int)) (a : Addr) (ws : List V) (H1 H2 : Hp), Po p N → ExP p H N → (∀ z ∈ l, z ∈ flds) → l ≠ [] → l.length ≤ 1000 → N a = none → Ex N H1 → ExP p H1 H2 → Po p H2 → H1 a = some (.lst ws) → Paired (PairAt N H1) ws l →
      (tRet (tCall (sp_law_pick K) [] E0 (tCons (tVar 0) (tCons (tVar 1) tNil)))) { nx := fun _ H' => Q .non H', rt := Q } [some (.ref p), some (.ref a)] H2 := fun N l a ws H1 H2 PN eN hl hn hz na e1 e2 P2 ha hp => by
    have lw : ws.length = l.length := Paired.length hp
    refine ⟨_, rfl, _, rfl, p, a, ws, rfl, e2 _ _ (PN.ne na) ha, PN.ne na, fun e => hn (List.length_eq_zero_iff.mp (by rw [← lw, e]; rfl)), by omega, P2, fun v H3 hv e3 P3 => ?_⟩
    obtain ⟨z, hz, t, m, rfl, h1, h2, h3, h4⟩ := paired_mem hp hv
    exact q z (hl z hz) t m H3 (e3 _ _ (PN.ne h3) (e2 _ _ (PN.ne h3) h1)) (e3 _ _ (PN.ne h4) (e2 _ _ (PN.ne h4) h2)) (PN.ne h4) (((eN.trans (Ex.p (p := p) e1)).trans e2).trans e3) P3
  refine twoPairs (N := H) (V.ref p) (Ex.refl H) (by decide) (by decide) (by decide) (by decide) fun a ws H1 na e1 ha hp => ?_
  refine tSeqI ⟨_, rfl, p, 5, rfl, by decide, by decide, hP.ex e1, fun d H2 d0 d1 e2 P2 => ?_⟩
  refine ⟨rfl, _, rfl, ?_⟩
  rw [dec_int0]
  by_cases c : d = 0
  · rw [decide_eq_true c]
    refine iteT ?_
    have eN : ExP p H H2 := (Ex.p (p := p) e1).trans e2
    refine twoPairs2 (N := H2) (σ := []) (V.ref p) (Ex.refl H2) (by decide) (by decide) (by decide) (by decide) fun b us H3 nb e3 hb hq => ?_
    exact fin H2 fldsB b us H3 H3 P2 eN (fun z hz => List.mem_append_right _ hz) (by decide) (by decide) nb e3 (ExP.refl p H3) (P2.ex e3) hb hq
  · rw [decide_eq_false c]
    exact iteF (fin H fldsA a ws H1 H2 hP (ExP.refl p H) (fun z hz => List.mem_append_left _ hz) (by decide) (by decide) na e1 e2 P2 ha hp)
/-! ### this law's own figures -/
def sp_law_figures (K : Fr) : Sp := fun vs H Q _ => ∃ (p : Int) (m : Addr) (md : List Int) (x : Int), vs = [.int p, .ref m, .int x] ∧ (2 ≤ p ∧ p ≤ 7) ∧ SqL K H m (md.map V.int) ∧ 1 ≤ md.length ∧ md.length ≤ 100 ∧ Evl.RetL ((figs p (md.length - 1) x).map V.int) H Q
theorem len_law_figures (vs : List V) (H : Hp) (Q : VK) (E : XK) (h : sp_law_figures K vs H Q E) : vs.length = 3 := by obtain ⟨_, _, _, _, rfl, _⟩ := h; rfl
def t_law_figures (K : Fr) : TS := (tSeq (tPar 3 4 (tCons (tLst tNil) (tCons (tVar 2) tNil))) (tSeq (tFor (iRng1 (tCons (tOp rSubI (tCB (rLenA K) (tCons (tVar 1) tNil)) (tC (.int 1))) tNil)) (gName 5) (tSeq (tDrop (tBM K "list" rAppend (tVar 3) (tCons (tOp rSubI (tVar 4) (tOp rMulI (tOp rFdivI (tVar 4) (tVar 0)) (tVar 0))) tNil))) (tAsg (tOp rFdivI (tVar 4) (tVar 0)) (gName 4)))) (tRet (tVar 3))))
theorem emod_as {x p : Int} : x - x / p * p = x % p := by
  have := Int.mul_ediv_add_emod x p
  rw [Int.mul_comm] at this
  omega
theorem pure_law_figures (vs : List V) (H : Hp) (Q : VK) (E : XK) (h : sp_law_figures K vs H Q E) : t_law_figures K { nx := fun _ H' => Q .non H', rt := Q } (start ["_law_prime", "_law_modulus", "_law_one", "_law_found", "_law_left", "_law_turn"] vs) H := by
  obtain ⟨p, m, md, x, rfl, hp, hm, hm1, hm2, q⟩ := h
  refine ⟨by decide, ?_⟩
  intro l n0; generalize E_ : upd _ l _ = H0; have e0 := genE E_ n0; have h0 := genS E_; clear E_
  refine ⟨_, rfl, _, _, rfl, ?_⟩
  have eL : (md.length : Int) - 1 = ((md.length - 1 : Nat) : Int) := by omega
  generalize hn : md.length - 1 = n at q eL
  walk_at "sl"
  refine forR1 (n := (n : Int)) (fun i σ H' => ∃ y s z, σ = [some (.int p), some (.ref m), some (.int x), some (.ref l), some (.int z), y] ∧ Ex H H' ∧ H' l = some (.lst (s.map V.int)) ∧ s.length = i ∧ s ++ figs p (n - i) z = figs p n x)
    (fun Q q => ⟨_, rfl, m, _, rfl, .inl (Ex.seq e0 hm), _, _, rfl, rfl, (by rw [List.length_map]; show Q [V.int ((md.length : Int) - 1)] H0; rw [eL]; exact q)⟩) (by omega) ⟨none, [], x, rfl, e0, h0, rfl, rfl⟩ (fun i σ H' hi hP => ?_) (fun σ H' hP => ?_)
  · obtain ⟨y, s, z, rfl, eH, hl, hs, hF⟩ := hP
    refine ⟨_, rfl, tyVL (sqL hl), _, rfl, _, rfl, _, rfl, _, _, rfl, rfl, ⟨by omega, by omega⟩, _, rfl, _, _, rfl, rfl, .inr (by omega), _, _, rfl, rfl, ?_⟩
    refine ⟨l, _, _, rfl, rfl, hl, ?_, ?_⟩
    · rw [List.length_map]
      have : 100000 < sizeLine := by decide
      omega
    · refine ⟨_, rfl, _, rfl, _, _, rfl, rfl, ⟨by omega, by omega⟩, _, s ++ [z % p], z / p, rfl, Ex.mut eH n0, ?_, by simp [hs], ?_⟩
      · rw [upd_same]; show some (HO.lst (s.map V.int ++ [V.int (z - z / p * p)])) = _; rw [emod_as, List.map_append]; rfl
      · have e : n - i = (n - (i + 1)) + 1 := by omega
        rw [e, figs_succ] at hF
        rw [List.append_assoc]
        exact hF
  · obtain ⟨y, s, z, rfl, eH, hl, hs, hF⟩ := hP
    have e : n - (n : Int).toNat = 0 := by omega
    rw [e, figs_zero, List.append_nil] at hF
    rw [hF] at hl
    exact ⟨_, rfl, q l H' n0 eH hl⟩
def hornP (p : Int) : List Int → Int
  | [] => 0
  | f :: r => hornP p r * p + f
def sp_law_told (K : Fr) : Sp := fun vs H Q _ => ∃ (p : Int) (l : Addr) (fs : List Int), vs = [.int p, .ref l] ∧ (2 ≤ p ∧ p ≤ 7) ∧ SqL K H l (fs.map V.int) ∧ Evl.RetV (.int (hornP p fs)) H Q
theorem len_law_told (vs : List V) (H : Hp) (Q : VK) (E : XK) (h : sp_law_told K vs H Q E) : vs.length = 2 := by obtain ⟨_, _, _, rfl, _⟩ := h; rfl
def t_law_told (K : Fr) : TS := (tSeq (tAsg (tC (.int 0)) (gName 2)) (tSeq (tFor (iList K (tRevL K (tVar 1))) (gName 3) (tAsg (tOp rAddI (tOp rMulI (tVar 2) (tVar 0)) (tVar 3)) (gName 2))) (tRet (tVar 2))))
/-- the numbers of a list, from the end, gone through so far -/
theorem horn_drop (p : Int) (fs : List Int) {i : Nat} (h : i < fs.length) : hornP p (fs.drop (fs.length - (i + 1))) = hornP p (fs.drop (fs.length - i)) * p + fs.reverse.getD i 0 := by
  have e : fs.length - i = (fs.length - (i + 1)) + 1 := by omega
  rw [drop_get (i := fs.length - (i + 1)) (by omega), e]
  show hornP p _ * p + _ = _
  congr 1
  rw [List.getD_eq_getElem?_getD, List.getD_eq_getElem?_getD, List.getElem?_reverse h]
  have : fs.length - (i + 1) = fs.length - 1 - i := by omega
  rw [this]
theorem pure_law_told (vs : List V) (H : Hp) (Q : VK) (E : XK) (h : sp_law_told K vs H Q E) : t_law_told K { nx := fun _ H' => Q .non H', rt := Q } (start ["_law_prime", "_law_figures_here", "_law_found", "_law_figure"] vs) H := by
  obtain ⟨p, l, fs, rfl, hp, hl, q⟩ := h
  refine tSeqI ?_
  (try dsimp only)
  refine tAsgI ?_
  show tSeq _ _ _ _ _
  refine tSeqI ?_
  refine ⟨_, rfl, l, _, rfl, hl, ?_⟩
  intro r n0; generalize E_ : upd _ r _ = H0; have e0 := genE E_ n0; have h0 := genS E_; clear E_
  rw [← List.map_reverse] at h0
  refine ⟨r, rfl, ⟨_, sqL h0⟩, for_list (xs := fs.reverse.map V.int) (fun i σ H' => ∃ y, σ = [some (.int p), some (.ref l), some (.int (hornP p (fs.drop (fs.length - i)))), y] ∧ H' = H0) ⟨none, by rw [Nat.sub_zero, List.drop_length]; rfl, rfl⟩ (fun i σ H' _ hP => by obtain ⟨_, _, rfl⟩ := hP; exact sqL h0) (fun i v σ H' gi hP => ?_) (fun σ H' hP => ?_)⟩
  · obtain ⟨y, rfl, rfl⟩ := hP
    obtain ⟨rfl, hi⟩ := getD_of gi
    rw [List.length_reverse] at hi
    refine ⟨_, rfl, _, rfl, _, _, rfl, rfl, .inr (by omega), _, rfl, _, _, rfl, rfl, ?_⟩
    refine ⟨some (.int (fs.reverse.getD i 0)), ?_, rfl⟩
    rw [horn_drop p fs hi]
    rfl
  · obtain ⟨y, rfl, rfl⟩ := hP
    rw [List.length_map, List.length_reverse, Nat.sub_self, List.drop_zero]
    exact ⟨_, rfl, q H' e0⟩

end TP
/-! PT -/
set_option maxHeartbeats 4000000
namespace TP
open PySem PySem.Spec PyProof.Rows L2
local macro_rules | `(tactic| walk_at "s1") => `(tactic| first | refine ⟨_, rfl, ?_⟩ | refine ⟨_, _, rfl, rfl, ?_⟩ | refine ⟨rfl, ?_⟩ | refine iteT ?_ | refine iteF ?_)
local macro_rules | `(tactic| walk_at "st") => `(tactic| (repeat (walk_at "s1")))
local macro_rules | `(tactic| walk_at "sq") => `(tactic| first | assumption | exact sqL (by assumption) | exact sqT (by assumption) | (refine Ex.seq (by assumption) ?_; walk_at "sq") | (refine Ex.tup (by assumption) ?_; walk_at "sq"))
local macro_rules | `(tactic| walk_at "at") => `(tactic| first | assumption | (refine (show Ex _ _ by assumption) _ _ ?_; walk_at "at"))
local macro_rules | `(tactic| walk_at "sl") => `(tactic| ((try dsimp only); refine tSeqI ?_; (try dsimp only)))

variable {K : Fr}
/-! ### this law's own products -/
def tRow (x : Int) (i : Nat) : List Int → Nat → List Int → List Int
  | [], _, l => l
  | y :: ys, j, l => tRow x i ys (j + 1) (l.set (i + j) (l.getD (i + j) 0 + x * y))
def tAll (ys : List Int) : List Int → Nat → List Int → List Int
  | [], _, l => l
  | x :: xs, i, l => tAll ys xs (i + 1) (tRow x i ys 0 l)
def rRow (pl n : Nat) : List Int → Nat → List Int → List Int
  | [], _, l => l
  | m :: ms, j, l => rRow pl n ms (j + 1) (l.set (pl - n + j) (l.getD (pl - n + j) 0 - l.getD pl 0 * m))
def rAll (n : Nat) (md : List Int) : Nat → List Int → List Int
  | 0, l => l
  | k + 1, l => rAll n md k ((rRow (n + k) n (md.take n) 0 l).set (n + k) 0)
def ltimes (p : Int) (md : List Int) (x y : Int) : Int :=
  hornP p (((rAll (md.length - 1) md (md.length - 1 - 1) (tAll (figs p (md.length - 1) y) (figs p (md.length - 1) x) 0 (List.replicate (2 * (md.length - 1) - 1) 0))).take (md.length - 1)).map (· % p))
theorem tRow_nil {x : Int} {i j : Nat} {l : List Int} : tRow x i [] j l = l := rfl
theorem tRow_cons {x y : Int} {i j : Nat} {ys l : List Int} : tRow x i (y :: ys) j l = tRow x i ys (j + 1) (l.set (i + j) (l.getD (i + j) 0 + x * y)) := rfl
theorem tAll_nil {ys : List Int} {i : Nat} {l : List Int} : tAll ys [] i l = l := rfl
theorem tAll_cons {x : Int} {xs ys : List Int} {i : Nat} {l : List Int} : tAll ys (x :: xs) i l = tAll ys xs (i + 1) (tRow x i ys 0 l) := rfl
theorem rRow_nil {pl n j : Nat} {l : List Int} : rRow pl n [] j l = l := rfl
theorem rRow_cons {pl n j : Nat} {m : Int} {ms l : List Int} : rRow pl n (m :: ms) j l = rRow pl n ms (j + 1) (l.set (pl - n + j) (l.getD (pl - n + j) 0 - l.getD pl 0 * m)) := rfl
theorem rAll_zero {n : Nat} {md l : List Int} : rAll n md 0 l = l := rfl
theorem rAll_succ {n k : Nat} {md l : List Int} : rAll n md (k + 1) l = rAll n md k ((rRow (n + k) n (md.take n) 0 l).set (n + k) 0) := rfl
theorem getD_take {md : List Int} {n j : Nat} (h : j < n) : (md.take n).getD j 0 = md.getD j 0 := by
  rw [List.getD_eq_getElem?_getD, List.getD_eq_getElem?_getD, List.getElem?_take_of_lt h]
def sp_law_times (K : Fr) : Sp := fun vs H Q _ => ∃ (p : Int) (m : Addr) (md : List Int) (x y : Int), vs = [.int p, .ref m, .int x, .int y] ∧ (2 ≤ p ∧ p ≤ 7) ∧ SqL K H m (md.map V.int) ∧ 2 ≤ md.length ∧ md.length ≤ 100 ∧ Cf p md ∧ Evl.RetV (.int (ltimes p md x y)) H Q
theorem len_law_times (vs : List V) (H : Hp) (Q : VK) (E : XK) (h : sp_law_times K vs H Q E) : vs.length = 4 := by obtain ⟨_, _, _, _, _, rfl, _⟩ := h; rfl
def t_law_times (K : Fr) : TS := (tSeq (tPar 4 5 (tCons (tCall (sp_law_figures K) [] E0 (tCons (tVar 0) (tCons (tVar 1) (tCons (tVar 2) tNil)))) (tCons (tCall (sp_law_figures K) [] E0 (tCons (tVar 0) (tCons (tVar 1) (tCons (tVar 3) tNil)))) tNil))) (tSeq (tPar 6 7 (tCons (tOp rRep (tLst (tCons (tC (.int 0)) tNil)) (tOp rSubI (tOp rMulI (tC (.int 2)) (tCB (rLenA K) (tCons (tVar 4) tNil))) (tC (.int 1)))) (tCons (tCB (rLenA K) (tCons (tVar 4) tNil)) tNil))) (tSeq (tFor (iEnum K (tCons (tVar 4) tNil)) (gTup K 2 (gCons (gName 8) (gCons (gName 9) gNil))) (tFor (iEnum K (tCons (tVar 5) tNil)) (gTup K 2 (gCons (gName 10) (gCons (gName 11) gNil))) (tAsg (tOp rAddI (tOp (rIxL K) (tVar 6) (tOp rAddI (tVar 8) (tVar 10))) (tOp rMulI (tVar 9) (tVar 11))) (gSub (tVar 6) (tOp rAddI (tVar 8) (tVar 10)) rSetL)))) (tSeq (tFor (iRng3 (tCons (tOp rSubI (tCB (rLenA K) (tCons (tVar 6) tNil)) (tC (.int 1))) (tCons (tOp rSubI (tVar 7) (tC (.int 1))) (tCons (tUn rNeg (tC (.int 1))) tNil)))) (gName 12) (tSeq (tFor (iRng1 (tCons (tVar 7) tNil)) (gName 8) (tAsg (tOp rSubI (tOp (rIxL K) (tVar 6) (tOp rAddI (tOp rSubI (tVar 12) (tVar 7)) (tVar 8))) (tOp rMulI (tOp (rIxL K) (tVar 6) (tVar 12)) (tOp (rIxL K) (tVar 1) (tVar 8)))) (gSub (tVar 6) (tOp rAddI (tOp rSubI (tVar 12) (tVar 7)) (tVar 8)) rSetL))) (tAsg (tC (.int 0)) (gSub (tVar 6) (tVar 12) rSetL)))) (tRet (tCall (sp_law_told K) [] E0 (tCons (tVar 0) (tCons (tLc (iList K (tSl (rSlL K) (tVar 6) tNoPart (tPart (tVar 7)))) (gName 9) tYes (tOp rSubI (tVar 9) (tOp rMulI (tOp rFdivI (tVar 9) (tVar 0)) (tVar 0))) [9]) tNil))))))))
theorem pure_law_times (vs : List V) (H : Hp) (Q : VK) (E : XK) (h : sp_law_times K vs H Q E) : t_law_times K { nx := fun _ H' => Q .non H', rt := Q } (start ["_law_prime", "_law_modulus", "_law_one", "_law_other", "_law_near", "_law_far", "_law_found", "_law_many", "_law_at", "_law_here", "_law_to", "_law_there", "_law_place"] vs) H := by
  obtain ⟨p, m, md, x, y, rfl, hp, hm, hm1, hm2, cm, q⟩ := h
  refine ⟨_, rfl, _, rfl, _, rfl, p, m, md, x, rfl, hp, hm, by omega, hm2, fun l1 H1 n1 e1 h1 => ?_⟩
  refine ⟨_, rfl, _, rfl, _, rfl, p, m, md, y, rfl, hp, Ex.seq e1 hm, by omega, hm2, fun l2 H2 n2 e2 h2 => ?_⟩
  refine ⟨_, _, rfl, ?_⟩
  unfold ltimes at q
  generalize hn : md.length - 1 = n at q h1 h2
  have hml : md.length = n + 1 := by omega
  have h1' := e2 _ _ h1
  have hxs := figs_len p n x
  have hys := figs_len p n y
  have cx := figs_cf (p := p) (by omega) n x
  generalize figs p n x = xs at q h1 h1' hxs cx
  generalize figs p n y = ys at q h2 hys
  refine ⟨by decide, ?_⟩
  intro z n3; generalize E_ : upd _ z _ = H3; have e3 := genE E_ n3; have h3 := genS E_; clear E_
  refine ⟨_, rfl, l1, _, rfl, .inl (sqL (e3 _ _ h1')), ?_⟩
  rw [List.length_map, hxs]
  refine ⟨_, _, rfl, rfl, .inl ⟨by decide, by decide⟩, _, _, rfl, rfl, z, _, _, rfl, rfl, h3, by omega, by omega, small_sz (by simp; omega), ?_⟩
  have eK : ((2 : Int) * (n : Int) - 1).toNat = 2 * n - 1 := by omega
  rw [eK, rep_ints]
  intro lf n4; generalize E_ : upd _ lf _ = H4; have e4 := genE E_ n4; have h4 := genS E_; clear E_
  refine ⟨_, rfl, l1, _, rfl, .inl (sqL (e4 _ _ (e3 _ _ h1'))), ?_⟩
  rw [List.length_map, hxs]
  refine ⟨_, _, rfl, ?_⟩
  have E3 : Ex H H3 := Ex.trans e1 (Ex.trans e2 e3)
  have hm3 := Ex.seq E3 hm
  have h13 := e3 _ _ h1'
  have h23 := e3 _ _ h2
  walk_at "sl"
  refine forEnum (a := l1) (xs := xs.map V.int) (fun i σ H' => ∃ z8 z9 z10 z11 s, σ = [some (.int p), some (.ref m), some (.int x), some (.int y), some (.ref l1), some (.ref l2), some (.ref lf), some (.int (n : Nat)), z8, z9, z10, z11, none] ∧ Ex H3 H' ∧ H' lf = some (.lst (s.map V.int)) ∧ s.length = 2 * n - 1 ∧ tAll ys (xs.drop i) i s = tAll ys xs 0 (List.replicate (2 * n - 1) 0))
    (fun Q q => ⟨_, rfl, q⟩) ⟨none, none, none, none, _, rfl, e4, h4, by simp, rfl⟩ (fun i σ H' _ ⟨_, _, _, _, _, _, e, _⟩ => sqL (e _ _ h13)) (fun i v σ H' H5 hi gx hP e5 _ => ?_) (fun σ H' hP => ?_)
  · obtain ⟨z8, z9, z10, z11, s, rfl, eH, hl, hs, hF⟩ := hP
    obtain ⟨rfl, hi⟩ := getD_of gx
    rw [drop_get hi, tAll_cons] at hF
    dsimp only
    refine forEnum (a := l2) (xs := ys.map V.int) (fun j σ H' => ∃ y6 y7 s2, σ = [some (.int p), some (.ref m), some (.int x), some (.int y), some (.ref l1), some (.ref l2), some (.ref lf), some (.int (n : Nat)), some (.int (i : Nat)), some (.int (xs.getD i 0)), y6, y7, none] ∧ Ex H3 H' ∧ H' lf = some (.lst (s2.map V.int)) ∧ s2.length = 2 * n - 1 ∧ tRow (xs.getD i 0) i (ys.drop j) j s2 = tRow (xs.getD i 0) i ys 0 s)
      (fun Q q => ⟨_, rfl, q⟩) ⟨z10, z11, s, rfl, Ex.trans eH e5, e5 _ _ hl, hs, rfl⟩ (fun j σ H' _ ⟨_, _, _, _, e, _⟩ => sqL (e _ _ h23)) (fun j v σ H' H6 hj gy hP e6 _ => ?_) (fun σ H' hP => ?_)
    · obtain ⟨z6, z7, s2, rfl, eH2, hl2, hs2, hF2⟩ := hP
      obtain ⟨rfl, hj⟩ := getD_of gy
      rw [drop_get hj, tRow_cons] at hF2
      have hij : i + j < s2.length := by omega
      have eij : (i : Int) + (j : Int) = ((i + j : Nat) : Int) := by omega
      have h6 := e6 _ _ hl2
      refine ⟨_, rfl, _, rfl, _, rfl, _, _, rfl, rfl, lf, _, _, _, rfl, rfl, sqL h6, by rw [eij]; exact at_ints hij, ?_⟩
      refine ⟨_, rfl, _, rfl, _, _, rfl, rfl, .inl (cf_mul hp.2 cx (getD_mem hi)), _, _, rfl, rfl, ?_⟩
      refine ⟨_, rfl, _, rfl, _, rfl, _, _, rfl, rfl, lf, _, _, i + j, rfl, rfl, h6, ixN_of eij (by simpa using hij), ?_⟩
      exact ⟨_, _, _, rfl, Ex.mut (Ex.trans eH2 e6) n4, by rw [upd_same, set_ints], by rw [List.length_set]; exact hs2, hF2⟩
    · obtain ⟨z6, z7, s2, rfl, eH2, hl2, hs2, hF2⟩ := hP
      rw [List.length_map, List.drop_length, tRow_nil] at hF2
      exact ⟨_, _, z6, z7, s2, rfl, eH2, hl2, hs2, by rw [hF2]; exact hF⟩
  · obtain ⟨z8, z9, z10, z11, s, rfl, eH, hl, hs, hF⟩ := hP
    rw [List.length_map, List.drop_length, tAll_nil] at hF
    rw [← hF] at q
    have hn1 : 1 ≤ n := by omega
    walk_at "sl"
    have eN : ((2 * n - 1 : Nat) : Int) - 1 - ((n : Int) - 1) = ((n - 1 : Nat) : Int) := by omega
    refine forDown (lo := ((2 * n - 1 : Nat) : Int) - 1) (hi := (n : Int) - 1) (fun i σ H' => ∃ z8 z9 z10 z11 z12 s2, σ = [some (.int p), some (.ref m), some (.int x), some (.int y), some (.ref l1), some (.ref l2), some (.ref lf), some (.int (n : Nat)), z8, z9, z10, z11, z12] ∧ Ex H3 H' ∧ H' lf = some (.lst (s2.map V.int)) ∧ s2.length = 2 * n - 1 ∧ rAll n md (n - 1 - i) s2 = rAll n md (n - 1) s)
      (fun Q q => ⟨_, rfl, lf, _, rfl, .inl (sqL hl), _, _, rfl, rfl, _, rfl, _, _, rfl, rfl, _, rfl, by rw [List.length_map, hs]; exact q⟩) (by omega) ⟨z8, z9, z10, z11, none, s, rfl, eH, hl, hs, rfl⟩ (fun i σ H' hi hP => ?_) (fun σ H' hP => ?_)
    · obtain ⟨y8, y9, y10, y11, y12, s2, rfl, eH2, hl2, hs2, hF2⟩ := hP
      rw [eN] at hi
      have hi' : i < n - 1 := by omega
      have ek : n - 1 - i = (n - 1 - (i + 1)) + 1 := by omega
      rw [ek, rAll_succ] at hF2
      generalize hk : n - 1 - (i + 1) = k at hF2
      have hk2 : n + k < 2 * n - 1 := by omega
      have ep : ((2 * n - 1 : Nat) : Int) - 1 - (i : Int) = ((n + k : Nat) : Int) := by omega
      rw [ep]
      dsimp only
      refine tSeqI ?_
      refine forR1 (n := (n : Int)) (fun j σ H' => ∃ y8 s3, σ = [some (.int p), some (.ref m), some (.int x), some (.int y), some (.ref l1), some (.ref l2), some (.ref lf), some (.int (n : Nat)), y8, y9, y10, y11, some (.int ((n + k : Nat) : Int))] ∧ Ex H3 H' ∧ H' lf = some (.lst (s3.map V.int)) ∧ s3.length = 2 * n - 1 ∧ rRow (n + k) n ((md.take n).drop j) j s3 = rRow (n + k) n (md.take n) 0 s2)
        (fun Q q => ⟨_, rfl, q⟩) (by omega) ⟨y8, s2, rfl, eH2, hl2, hs2, rfl⟩ (fun j σ H' hj hP => ?_) (fun σ H' hP => ?_)
      · obtain ⟨w8, s3, rfl, eH3, hl3, hs3, hF3⟩ := hP
        have hj' : j < n := by omega
        have hjt : j < (md.take n).length := by rw [List.length_take]; omega
        rw [drop_get hjt, rRow_cons, getD_take hj'] at hF3
        have ejk : ((n + k : Nat) : Int) - (n : Int) + (j : Int) = ((n + k - n + j : Nat) : Int) := by omega
        have hjk : n + k - n + j < s3.length := by omega
        have hmj : j < md.length := by omega
        refine ⟨_, rfl, _, rfl, _, rfl, _, _, rfl, rfl, _, rfl, _, _, rfl, rfl, lf, _, _, _, rfl, rfl, sqL hl3, by rw [ejk]; exact at_ints hjk, ?_⟩
        refine ⟨_, rfl, _, rfl, lf, _, _, _, rfl, rfl, sqL hl3, at_ints (by omega), _, rfl, _, rfl, m, _, _, _, rfl, rfl, Ex.seq eH3 hm3, at_ints hmj, _, _, rfl, rfl, .inr (cf_mul hp.2 cm (getD_mem hmj)), _, _, rfl, rfl, ?_⟩
        refine ⟨_, rfl, _, rfl, _, rfl, _, _, rfl, rfl, _, rfl, _, _, rfl, rfl, lf, _, _, n + k - n + j, rfl, rfl, hl3, ixN_of ejk (by simpa using hjk), ?_⟩
        exact ⟨_, _, rfl, Ex.mut eH3 n4, by rw [upd_same, set_ints], by rw [List.length_set]; exact hs3, hF3⟩
      · obtain ⟨w8, s3, rfl, eH3, hl3, hs3, hF3⟩ := hP
        have ed : ((n : Int).toNat) = n := by omega
        have hdr : (md.take n).drop n = [] := by rw [List.drop_eq_nil_iff, List.length_take]; omega
        rw [ed, hdr, rRow_nil] at hF3
        rw [← hF3] at hF2
        have hnk : n + k < s3.length := by omega
        refine ⟨_, rfl, _, rfl, lf, _, _, n + k, rfl, rfl, hl3, ixN_of rfl (by simpa using hnk), ?_⟩
        exact ⟨w8, y9, y10, y11, _, _, rfl, Ex.mut eH3 n4, by rw [upd_same, set_ints], by rw [List.length_set]; exact hs3, hF2⟩
    · obtain ⟨y8, y9, y10, y11, y12, s2, rfl, eH2, hl2, hs2, hF2⟩ := hP
      have e0 : n - 1 - (((2 * n - 1 : Nat) : Int) - 1 - ((n : Int) - 1)).toNat = 0 := by omega
      rw [e0, rAll_zero] at hF2
      rw [← hF2] at q
      refine ⟨_, rfl, _, rfl, _, rfl, _, rfl, lf, _, rfl, sqL hl2, ?_⟩
      rw [cut_to _ _ (by rw [List.length_map]; omega), ← List.map_take]
      intro ls n7; generalize E_ : upd _ ls _ = H7; have e7 := genE E_ n7; have h7 := genS E_; clear E_
      refine ⟨ls, rfl, ⟨_, sqL h7⟩, fun D nD => lc_list (xs := (s2.take n).map V.int) (fun i H' => Ex H7 H' ∧ H' D = some (.lst (((s2.take n).take i).map fun v => V.int (v % p)))) ⟨Ex.new nD, upd_same⟩ (fun i H' _ p => p.1.seq (sqL h7)) (fun i v H' gi hP => ⟨rfl, ?_⟩) (fun H' hP => ?_)⟩
      · obtain ⟨rfl, hi⟩ := getD_of gi
        refine lcTurn (v := .int ((s2.take n).getD i 0 % p)) (b := true) nD hP.1 hP.2 ?_ wvYes (fun _ => ?_) (fun H' => Ex H7 H' ∧ H' D = some (.lst (((s2.take n).take (i + 1)).map fun v => V.int (v % p)))) (fun H2 e2' h2' => ⟨e2', ?_⟩)
        · rw [List.length_map, List.length_take, List.length_take]
          have : 100000 < sizeLine := by decide
          omega
        · intro H8 e8 Q8 q8
          refine ⟨_, rfl, _, rfl, _, rfl, _, _, rfl, rfl, ⟨by omega, by omega⟩, _, rfl, _, _, rfl, rfl, .inr (by omega), _, _, rfl, rfl, ?_⟩
          show Q8 (V.int ((s2.take n).getD i 0 - (s2.take n).getD i 0 / p * p)) H8
          rw [emod_as]
          exact q8 H8 (Ex.refl _)
        · rw [h2', List.take_add_one, List.getElem?_eq_getElem hi, List.getD_eq_getElem?_getD, List.getElem?_eq_getElem hi, List.map_append]
          rfl
      · have h9 := hP.2
        rw [List.length_map, List.take_length] at h9
        refine ⟨p, D, (s2.take n).map (· % p), rfl, hp, sqL ?_, fun H9 e9 => q H9 (Ex.trans E3 (Ex.trans eH2 (Ex.trans e7 (Ex.trans hP.1 e9))))⟩
        rw [h9, List.map_map]
        rfl
theorem tCI {v : V} {σ : L2.St} {H : Hp} {Q : VK} (h : Q v H) : tC v σ H Q := h
def lpowGo (p : Int) (md : List Int) (x : Int) : Nat → Int → Int
  | 0, f => f
  | n + 1, f => lpowGo p md x n (ltimes p md f x)
def lpow (p : Int) (md : List Int) (x : Int) (n : Nat) : Int := lpowGo p md x n 1
def sp_law_power (K : Fr) : Sp := fun vs H Q _ => ∃ (p : Int) (m : Addr) (md : List Int) (x : Int) (n : Nat), vs = [.int p, .ref m, .int x, .int n] ∧ (2 ≤ p ∧ p ≤ 7) ∧ SqL K H m (md.map V.int) ∧ 2 ≤ md.length ∧ md.length ≤ 100 ∧ Cf p md ∧ n ≤ 100000 ∧ Evl.RetV (.int (lpow p md x n)) H Q
theorem len_law_power (vs : List V) (H : Hp) (Q : VK) (E : XK) (h : sp_law_power K vs H Q E) : vs.length = 4 := by obtain ⟨_, _, _, _, _, rfl, _⟩ := h; rfl
def t_law_power (K : Fr) : TS := (tSeq (tAsg (tC (.int 1)) (gName 4)) (tSeq (tFor (iRng1 (tCons (tVar 3) tNil)) (gName 5) (tAsg (tCall (sp_law_times K) [] E0 (tCons (tVar 0) (tCons (tVar 1) (tCons (tVar 4) (tCons (tVar 2) tNil))))) (gName 4))) (tRet (tVar 4))))
theorem pure_law_power (vs : List V) (H : Hp) (Q : VK) (E : XK) (h : sp_law_power K vs H Q E) : t_law_power K { nx := fun _ H' => Q .non H', rt := Q } (start ["_law_prime", "_law_modulus", "_law_one", "_law_many", "_law_found", "_law_turn"] vs) H := by
  obtain ⟨p, m, md, x, n, rfl, hp, hm, hm1, hm2, cm, hn, q⟩ := h
  refine tSeqI (tAsgI (tCI ?_))
  dsimp only
  refine tSeqI ?_
  dsimp only
  refine forR1 (n := (n : Int)) (fun i σ H' => ∃ f y, σ = [some (.int p), some (.ref m), some (.int x), some (.int (n : Nat)), some (.int f), y] ∧ Ex H H' ∧ lpowGo p md x (n - i) f = lpow p md x n)
    (fun Q q => ⟨_, rfl, q⟩) (by omega) ⟨1, none, rfl, Ex.refl H, rfl⟩ (fun i σ H' hi hP => ?_) (fun σ H' hP => ?_)
  · obtain ⟨f, y, rfl, eH, hF⟩ := hP
    refine ⟨_, rfl, _, rfl, _, rfl, _, rfl, p, m, md, f, x, rfl, hp, Ex.seq eH hm, hm1, hm2, cm, fun H2 e2 => ?_⟩
    refine ⟨ltimes p md f x, _, rfl, Ex.trans eH e2, ?_⟩
    have e : n - i = (n - (i + 1)) + 1 := by omega
    rw [e] at hF
    exact hF
  · obtain ⟨f, y, rfl, eH, hF⟩ := hP
    have e : n - (n : Int).toNat = 0 := by omega
    rw [e] at hF
    have hF : f = lpow p md x n := hF
    rw [hF]
    exact ⟨_, rfl, q H' eH⟩

end TP
/-! PK -/
set_option maxHeartbeats 4000000
namespace TP
open PySem PySem.Spec PyProof.Rows L2
local macro_rules | `(tactic| walk_at "s1") => `(tactic| first | refine ⟨_, rfl, ?_⟩ | refine ⟨_, _, rfl, rfl, ?_⟩ | refine ⟨rfl, ?_⟩ | refine iteT ?_ | refine iteF ?_)
local macro_rules | `(tactic| walk_at "st") => `(tactic| (repeat (walk_at "s1")))
local macro_rules | `(tactic| walk_at "sq") => `(tactic| first | assumption | exact sqL (by assumption) | exact sqT (by assumption) | (refine Ex.seq (by assumption) ?_; walk_at "sq") | (refine Ex.tup (by assumption) ?_; walk_at "sq"))
local macro_rules | `(tactic| walk_at "at") => `(tactic| first | assumption | (refine (show Ex _ _ by assumption) _ _ ?_; walk_at "at"))
local macro_rules | `(tactic| walk_at "sl") => `(tactic| ((try dsimp only); refine tSeqI ?_; (try dsimp only)))

/-! # Powers and turns by places in the row of powers -/
variable {F : FD}
theorem powF_cong (F : FD) {m n : Nat} (h : m % F.pows.length = n % F.pows.length) : powF F m = powF F n := by unfold powF; rw [h]
theorem lg_powF (o : F.Ok) (n : Nat) : lgF F (powF F n) = n % F.pows.length := by
  have h := Nat.mod_lt n o.pos
  have hm := powF_in o n
  have h1 := o.ix hm
  have h2 : F.pows[n % F.pows.length]? = some (powF F n) := by
    unfold powF
    rw [List.getD_eq_getElem?_getD, List.getElem?_eq_getElem h]; rfl
  exact (List.getElem?_inj (List.idxOf_lt_length_of_mem hm) o.nd).mp (h1.trans h2.symm)
theorem powF_lg (o : F.Ok) {x : Int} (hx : InF F x) (n : x ≠ 0) : powF F (lgF F x) = x := by
  have h1 := o.ix (hx.mem o n)
  unfold powF
  rw [Nat.mod_eq_of_lt (lgF_lt o hx n), List.getD_eq_getElem?_getD]
  unfold lgF
  rw [h1]; rfl
theorem powF_ne (o : F.Ok) (n : Nat) : powF F n ≠ 0 := by
  have := o.low _ (powF_in o n)
  omega
theorem powF_zero (o : F.Ok) : powF F 0 = 1 := by
  unfold powF
  rw [Nat.zero_mod, List.getD_eq_getElem?_getD, o.fst]; rfl
theorem raisF_ne (o : F.Ok) {x : Int} (n : x ≠ 0) (m : Nat) : raisF F x m = powF F (lgF F x * m) := by
  unfold raisF
  by_cases c : m = 0
  · rw [if_pos c, c, Nat.mul_zero, powF_zero o]
  · rw [if_neg c, if_neg n]
theorem raisF_0 (F : FD) (m : Nat) : raisF F 0 m = if m = 0 then 1 else 0 := by
  unfold raisF
  rw [if_pos (rfl : (0 : Int) = 0)]
theorem raisF_1x (o : F.Ok) {x : Int} (hx : InF F x) : raisF F x 1 = x := by
  by_cases n : x = 0
  · rw [n, raisF_0]; rfl
  · rw [raisF_ne o n, Nat.mul_one, powF_lg o hx n]
theorem raisF_one (o : F.Ok) (m : Nat) : raisF F 1 m = 1 := by
  have h : lgF F 1 = 0 := by
    have := lg_powF o 0
    rw [powF_zero o, Nat.zero_mod] at this
    exact this
  rw [raisF_ne o (by decide), h, Nat.zero_mul, powF_zero o]
theorem modmul (a b n : Nat) : (a % n * b) % n = a * b % n := by rw [Nat.mod_mul_mod]
theorem raisF_raisF (o : F.Ok) {x : Int} (a b : Nat) : raisF F (raisF F x a) b = raisF F x (a * b) := by
  by_cases n : x = 0
  · subst n
    rw [raisF_0, raisF_0]
    by_cases ca : a = 0
    · rw [if_pos ca, if_pos (by rw [ca, Nat.zero_mul])]; exact raisF_one o b
    · rw [if_neg ca, raisF_0]
      by_cases cb : b = 0
      · rw [if_pos cb, if_pos (by rw [cb, Nat.mul_zero])]
      · rw [if_neg cb, if_neg (Nat.mul_ne_zero ca cb)]
  · rw [raisF_ne o n, raisF_ne o (powF_ne o _), lg_powF o, raisF_ne o n]
    refine powF_cong F ?_
    rw [modmul, Nat.mul_assoc]
theorem mulF_ne (F : FD) {x y : Int} (hx : x ≠ 0) (hy : y ≠ 0) : mulF F x y = powF F (lgF F x + lgF F y) := by
  unfold mulF
  rw [if_neg hx, if_neg hy]
theorem mulF_0x (F : FD) (y : Int) : mulF F 0 y = 0 := by unfold mulF; rw [if_pos rfl]
theorem mulF_x0 (F : FD) (x : Int) : mulF F x 0 = 0 := by
  unfold mulF
  split
  · rfl
  · rw [if_pos rfl]
theorem raisF_mulF (o : F.Ok) (x y : Int) {m : Nat} (hm : m ≠ 0) : raisF F (mulF F x y) m = mulF F (raisF F x m) (raisF F y m) := by
  by_cases n : x = 0
  · rw [n, mulF_0x, raisF_0, if_neg hm, mulF_0x]
  · by_cases k : y = 0
    · rw [k, mulF_x0, raisF_0, if_neg hm, mulF_x0]
    · rw [mulF_ne F n k, raisF_ne o (powF_ne o _), raisF_ne o n, raisF_ne o k, mulF_ne F (powF_ne o _) (powF_ne o _), lg_powF o, lg_powF o, lg_powF o]
      refine powF_cong F ?_
      rw [modmul, Nat.add_mul, ← Nat.add_mod]
theorem mul_step (o : F.Ok) {x : Int} (hx : InF F x) (h : Nat) : mulF F (raisF F x h) x = raisF F x (h + 1) := by
  by_cases n : x = 0
  · rw [n, mulF_x0, raisF_0]; rfl
  · rw [raisF_ne o n, raisF_ne o n, mulF_ne F (powF_ne o _) n, lg_powF o]
    refine powF_cong F ?_
    rw [Nat.mod_add_mod, Nat.mul_add, Nat.mul_one]
theorem raisF_all (o : F.Ok) {x : Int} (hx : InF F x) : raisF F x F.pows.length = if 0 < x then 1 else 0 := by
  by_cases n : x = 0
  · rw [n, raisF_0, if_neg (by have := o.pos; omega)]; rfl
  · rw [raisF_ne o n, if_pos (by unfold InF at hx; omega), ← powF_zero o]
    refine powF_cong F ?_
    rw [Nat.mul_mod_left, Nat.zero_mod]
theorem raisF_size (o : F.Ok) {x : Int} (hx : InF F x) : raisF F x (F.pows.length + 1) = x := by
  by_cases n : x = 0
  · rw [n, raisF_0]; rfl
  · rw [raisF_ne o n]
    refine Eq.trans (powF_cong F ?_) (powF_lg o hx n)
    rw [Nat.mul_add, Nat.mul_one, Nat.mul_comm, Nat.mul_add_mod]
/-! ### turns -/
def tx (F : FD) (k : Int) : Nat := (F.p ^ (k % F.t).toNat).toNat
theorem turnF_eq (F : FD) (x k : Int) : turnF F x k = raisF F x (tx F k) := rfl
theorem p_nat (o : F.Ok) : F.p = ((F.p.toNat : Nat) : Int) := by have := o.two; omega
theorem tx_eq (o : F.Ok) (k : Int) : tx F k = F.p.toNat ^ (k % F.t).toNat := by
  unfold tx
  have h : F.p ^ (k % F.t).toNat = ((F.p.toNat ^ (k % F.t).toNat : Nat) : Int) := by
    rw [Int.natCast_pow, ← p_nat o]
  rw [h]
  rfl
theorem size_nat (o : F.Ok) : F.p.toNat ^ F.t = F.pows.length + 1 := by
  have h1 := o.cnt
  have h2 : F.size = ((F.p.toNat ^ F.t : Nat) : Int) := by
    unfold FD.size
    rw [Int.natCast_pow, ← p_nat o]
  rw [h2] at h1
  omega
theorem tx_ne (o : F.Ok) (k : Int) : tx F k ≠ 0 := by
  rw [tx_eq o]
  have := o.two
  exact Nat.ne_of_gt (Nat.pow_pos (by omega))
theorem pow_t (o : F.Ok) (q r : Nat) : F.p.toNat ^ (F.t * q + r) % F.pows.length = F.p.toNat ^ r % F.pows.length := by
  rw [Nat.pow_add, Nat.pow_mul, size_nat o]
  have h : ∀ q : Nat, (F.pows.length + 1) ^ q % F.pows.length = 1 % F.pows.length := by
    intro q
    rw [Nat.pow_mod, Nat.add_mod_left, ← Nat.pow_mod, Nat.one_pow]
  rw [Nat.mul_mod, h, ← Nat.mul_mod, Nat.one_mul]
theorem tx_add (o : F.Ok) (a b : Int) : (tx F a * tx F b) % F.pows.length = tx F (a + b) % F.pows.length := by
  have ht := o.tb
  have t0 : (F.t : Int) ≠ 0 := by omega
  rw [tx_eq o, tx_eq o, tx_eq o, ← Nat.pow_add]
  have h1 := Int.emod_nonneg a t0
  have h2 := Int.emod_nonneg b t0
  have h3 : (((a + b) % F.t).toNat) = ((a % F.t).toNat + (b % F.t).toNat) % F.t := by
    have h4 := Int.emod_nonneg (a + b) t0
    have e : (a + b) % (F.t : Int) = (((a % F.t).toNat + (b % F.t).toNat : Nat) : Int) % (F.t : Int) := by
      have e1 : (((a % (F.t : Int)).toNat + (b % (F.t : Int)).toNat : Nat) : Int) = a % F.t + b % F.t := by omega
      rw [e1, ← Int.add_emod]
    rw [e]
    omega
  rw [h3]
  have e := Nat.div_add_mod ((a % (F.t : Int)).toNat + (b % (F.t : Int)).toNat) F.t
  rw [← e, pow_t o, e]
theorem turn_turn (o : F.Ok) (x a b : Int) : turnF F (turnF F x a) b = turnF F x (a + b) := by
  rw [turnF_eq, turnF_eq, turnF_eq, raisF_raisF o]
  by_cases n : x = 0
  · rw [n, raisF_0, raisF_0, if_neg (Nat.mul_ne_zero (tx_ne o a) (tx_ne o b)), if_neg (tx_ne o _)]
  · rw [raisF_ne o n, raisF_ne o n]
    refine powF_cong F ?_
    rw [Nat.mul_mod, tx_add o, ← Nat.mul_mod]
theorem turn_mod (F : FD) (x : Int) {a b : Int} (h : a % F.t = b % F.t) : turnF F x a = turnF F x b := by
  unfold turnF
  rw [h]
theorem turn_0 (o : F.Ok) {x : Int} (hx : InF F x) : turnF F x 0 = x := by
  have ht := o.tb
  rw [turnF_eq, tx_eq o]
  have e : ((0 : Int) % F.t).toNat = 0 := by simp
  rw [e, Nat.pow_zero, raisF_1x o hx]
theorem turn_t (o : F.Ok) {x : Int} (hx : InF F x) : turnF F x F.t = x := by
  rw [turn_mod F x (b := 0) (by simp), turn_0 o hx]
theorem turn_1 (o : F.Ok) (x : Int) : turnF F x 1 = raisF F x F.p.toNat := by
  have ht := o.tb
  rw [turnF_eq, tx_eq o]
  have e : ((1 : Int) % F.t).toNat = 1 := by
    have : (1 : Int) % F.t = 1 := Int.emod_eq_of_lt (by omega) (by omega)
    rw [this]; rfl
  rw [e, Nat.pow_one]
theorem turn_InF (o : F.Ok) (x k : Int) : InF F (turnF F x k) := raisF_InF o _ _
theorem turn_mul (o : F.Ok) (x y k : Int) : turnF F (mulF F x y) k = mulF F (turnF F x k) (turnF F y k) := by
  rw [turnF_eq, turnF_eq, turnF_eq]
  exact raisF_mulF o x y (tx_ne o k)
theorem turn_back (o : F.Ok) {x : Int} (hx : InF F x) (k : Int) : turnF F (turnF F x k) (-k) = x := by
  rw [turn_turn o, Int.add_right_neg, turn_0 o hx]
theorem turn_forth (o : F.Ok) {x : Int} (hx : InF F x) (k : Int) : turnF F (turnF F x (-k)) k = x := by
  rw [turn_turn o, Int.add_left_neg, turn_0 o hx]
/-! ### what is asked of a field by numbers alone -/
structure Good (F : FD) : Prop where
  ok : F.Ok
  pw : ∀ x, InF F x → ∀ n : Nat, n ≤ 12 → lpow F.p F.md x n = raisF F x n
  ai : ∀ x y, InF F (addF F x y)
  tn : ∀ x y, InF F x → InF F y → turnF F (addF F x y) 1 = addF F (turnF F x 1) (turnF F y 1)
  fx : ∀ x : Int, 0 ≤ x → x < F.p → turnF F x 1 = x
theorem turn_add (g : Good F) {x y : Int} (hx : InF F x) (hy : InF F y) : ∀ k : Nat, turnF F (addF F x y) k = addF F (turnF F x k) (turnF F y k)
  | 0 => by
    show turnF F _ 0 = addF F (turnF F x 0) (turnF F y 0)
    rw [turn_0 g.ok (g.ai x y), turn_0 g.ok hx, turn_0 g.ok hy]
  | k + 1 => by
    have e : ((k + 1 : Nat) : Int) = (k : Int) + 1 := by omega
    rw [e, ← turn_turn g.ok, turn_add g hx hy k, g.tn _ _ (turn_InF g.ok _ _) (turn_InF g.ok _ _), turn_turn g.ok, turn_turn g.ok]
theorem p_InF (o : F.Ok) : InF F F.p := by
  have hp := o.two
  have ht := o.tb
  have h : F.p ^ 2 ≤ F.p ^ F.t := by
    rw [p_nat o, ← Int.natCast_pow, ← Int.natCast_pow]
    exact Int.ofNat_le.mpr (Nat.pow_le_pow_right (by omega) ht.1)
  have h2 : F.p ^ 2 = F.p * F.p := by rw [Int.pow_succ, Int.pow_succ, Int.pow_zero, Int.one_mul]
  have h3 : F.p * 2 ≤ F.p * F.p := Int.mul_le_mul_of_nonneg_left hp.1 (by omega)
  unfold InF FD.size
  omega

end TP
/-! PM -/
set_option maxHeartbeats 4000000
namespace TP
open PySem PySem.Spec PyProof.Rows L2
local macro_rules | `(tactic| walk_at "s1") => `(tactic| first | refine ⟨_, rfl, ?_⟩ | refine ⟨_, _, rfl, rfl, ?_⟩ | refine ⟨rfl, ?_⟩ | refine iteT ?_ | refine iteF ?_)
local macro_rules | `(tactic| walk_at "st") => `(tactic| (repeat (walk_at "s1")))
local macro_rules | `(tactic| walk_at "sq") => `(tactic| first | assumption | exact sqL (by assumption) | exact sqT (by assumption) | (refine Ex.seq (by assumption) ?_; walk_at "sq") | (refine Ex.tup (by assumption) ?_; walk_at "sq"))
local macro_rules | `(tactic| walk_at "at") => `(tactic| first | assumption | (refine (show Ex _ _ by assumption) _ _ ?_; walk_at "at"))
local macro_rules | `(tactic| walk_at "sl") => `(tactic| ((try dsimp only); refine tSeqI ?_; (try dsimp only)))

/-! # Numbers by their figures: what is linear in them -/
theorem getD_set (l : List Int) (i j : Nat) (v : Int) : (l.set i v).getD j 0 = if i = j ∧ j < l.length then v else l.getD j 0 := by
  rw [List.getD_eq_getElem?_getD, List.getD_eq_getElem?_getD, List.getElem?_set]
  by_cases h : i = j
  · subst h
    by_cases k : i < l.length
    · simp [k]
    · rw [if_pos rfl, if_neg k, if_neg (fun z => k z.2), List.getElem?_eq_none (by omega)]
  · rw [if_neg h, if_neg (fun z => h z.1)]
theorem figs_horn {p : Int} (hp : 0 < p) : ∀ ds : List Int, Cf p ds → figs p ds.length (hornP p ds) = ds
  | [], _ => rfl
  | d :: r, h => by
    have hd := h d List.mem_cons_self
    have ih := figs_horn hp r fun x hx => h x (List.mem_cons_of_mem _ hx)
    show (hornP p r * p + d) % p :: figs p r.length ((hornP p r * p + d) / p) = d :: r
    have e1 : (hornP p r * p + d) % p = d := by
      rw [Int.mul_comm, Int.mul_add_emod_self_left, Int.emod_eq_of_lt hd.1 hd.2]
    have e2 : (hornP p r * p + d) / p = hornP p r := by
      rw [Int.mul_comm, Int.mul_add_ediv_left _ _ (by omega), Int.ediv_eq_zero_of_lt hd.1 hd.2, Int.add_zero]
    rw [e1, e2, ih]
theorem horn_range {p : Int} (hp : 0 < p) : ∀ ds : List Int, Cf p ds → 0 ≤ hornP p ds ∧ hornP p ds < p ^ ds.length
  | [], _ => ⟨by show (0 : Int) ≤ 0; omega, by show (0 : Int) < p ^ 0; rw [Int.pow_zero]; omega⟩
  | d :: r, h => by
    have hd := h d List.mem_cons_self
    have ih := horn_range hp r fun x hx => h x (List.mem_cons_of_mem _ hx)
    show 0 ≤ hornP p r * p + d ∧ hornP p r * p + d < p ^ (r.length + 1)
    rw [Int.pow_succ]
    have h1 : 0 ≤ hornP p r * p := Int.mul_nonneg ih.1 (by omega)
    have h2 : (hornP p r + 1) * p ≤ p ^ r.length * p := Int.mul_le_mul_of_nonneg_right (by omega) (by omega)
    rw [Int.add_mul, Int.one_mul] at h2
    omega
theorem horn_figs {p : Int} (hp : 0 < p) : ∀ (n : Nat) (x : Int), 0 ≤ x → x < p ^ n → hornP p (figs p n x) = x
  | 0, x, h0, h1 => by
    rw [Int.pow_zero] at h1
    show (0 : Int) = x
    omega
  | n + 1, x, h0, h1 => by
    rw [Int.pow_succ] at h1
    show hornP p (figs p n (x / p)) * p + x % p = x
    rw [horn_figs hp n (x / p) (Int.ediv_nonneg h0 (by omega)) (Int.ediv_lt_of_lt_mul hp h1)]
    have := Int.mul_ediv_add_emod x p
    rw [Int.mul_comm] at this
    exact this
structure Lin (p c1 c2 : Int) (l l1 l2 : List Int) : Prop where
  e1 : l.length = l1.length
  e2 : l.length = l2.length
  ev : ∀ i, p ∣ l.getD i 0 - (c1 * l1.getD i 0 + c2 * l2.getD i 0)
section
variable {p c1 c2 : Int}
theorem Lin.set {l l1 l2 : List Int} (h : Lin p c1 c2 l l1 l2) (i : Nat) {v v1 v2 : Int} (hv : p ∣ v - (c1 * v1 + c2 * v2)) : Lin p c1 c2 (l.set i v) (l1.set i v1) (l2.set i v2) := by
  refine ⟨by rw [List.length_set, List.length_set, h.e1], by rw [List.length_set, List.length_set, h.e2], fun j => ?_⟩
  rw [getD_set, getD_set, getD_set, ← h.e1, ← h.e2]
  by_cases c : i = j ∧ j < l.length
  · rw [if_pos c, if_pos c, if_pos c]; exact hv
  · rw [if_neg c, if_neg c, if_neg c]; exact h.ev j
theorem rRow_lin (pl n : Nat) : ∀ (ms : List Int) (j : Nat) {l l1 l2 : List Int}, Lin p c1 c2 l l1 l2 → Lin p c1 c2 (rRow pl n ms j l) (rRow pl n ms j l1) (rRow pl n ms j l2)
  | [], _, _, _, _, h => h
  | m :: ms, j, l, l1, l2, h => by
    rw [rRow_cons, rRow_cons, rRow_cons]
    refine rRow_lin pl n ms (j + 1) (h.set _ ?_)
    have e : l.getD (pl - n + j) 0 - l.getD pl 0 * m - (c1 * (l1.getD (pl - n + j) 0 - l1.getD pl 0 * m) + c2 * (l2.getD (pl - n + j) 0 - l2.getD pl 0 * m)) =
        (l.getD (pl - n + j) 0 - (c1 * l1.getD (pl - n + j) 0 + c2 * l2.getD (pl - n + j) 0)) - (l.getD pl 0 - (c1 * l1.getD pl 0 + c2 * l2.getD pl 0)) * m := by
      generalize l.getD (pl - n + j) 0 = a
      generalize l1.getD (pl - n + j) 0 = b
      generalize l2.getD (pl - n + j) 0 = d
      generalize l.getD pl 0 = x
      generalize l1.getD pl 0 = y
      generalize l2.getD pl 0 = z
      grind
    rw [e]
    exact Int.dvd_sub (h.ev _) (Int.dvd_mul_of_dvd_left (h.ev _))
theorem rAll_lin (n : Nat) (md : List Int) : ∀ (k : Nat) {l l1 l2 : List Int}, Lin p c1 c2 l l1 l2 → Lin p c1 c2 (rAll n md k l) (rAll n md k l1) (rAll n md k l2)
  | 0, _, _, _, h => h
  | k + 1, l, l1, l2, h => by
    rw [rAll_succ, rAll_succ, rAll_succ]
    exact rAll_lin n md k ((rRow_lin (n + k) n (md.take n) 0 h).set _ (by simp))
theorem tRow_linL (i : Nat) {x x1 x2 : Int} (hx : p ∣ x - (c1 * x1 + c2 * x2)) : ∀ (ys : List Int) (j : Nat) {l l1 l2 : List Int}, Lin p c1 c2 l l1 l2 → Lin p c1 c2 (tRow x i ys j l) (tRow x1 i ys j l1) (tRow x2 i ys j l2)
  | [], _, _, _, _, h => h
  | y :: ys, j, l, l1, l2, h => by
    rw [tRow_cons, tRow_cons, tRow_cons]
    refine tRow_linL i hx ys (j + 1) (h.set _ ?_)
    have e : l.getD (i + j) 0 + x * y - (c1 * (l1.getD (i + j) 0 + x1 * y) + c2 * (l2.getD (i + j) 0 + x2 * y)) =
        (l.getD (i + j) 0 - (c1 * l1.getD (i + j) 0 + c2 * l2.getD (i + j) 0)) + (x - (c1 * x1 + c2 * x2)) * y := by
      generalize l.getD (i + j) 0 = a
      generalize l1.getD (i + j) 0 = b
      generalize l2.getD (i + j) 0 = d
      grind
    rw [e]
    exact Int.dvd_add (h.ev _) (Int.dvd_mul_of_dvd_left hx)
theorem Lin.head {x x1 x2 : Int} {l l1 l2 : List Int} (h : Lin p c1 c2 (x :: l) (x1 :: l1) (x2 :: l2)) : p ∣ x - (c1 * x1 + c2 * x2) := by
  have := h.ev 0
  simpa using this
theorem Lin.tail {x x1 x2 : Int} {l l1 l2 : List Int} (h : Lin p c1 c2 (x :: l) (x1 :: l1) (x2 :: l2)) : Lin p c1 c2 l l1 l2 := by
  refine ⟨by simpa using h.e1, by simpa using h.e2, fun i => ?_⟩
  have := h.ev (i + 1)
  simpa using this
theorem tAll_linL (ys : List Int) : ∀ (xs xs1 xs2 : List Int) (i : Nat) {l l1 l2 : List Int}, Lin p c1 c2 xs xs1 xs2 → Lin p c1 c2 l l1 l2 → Lin p c1 c2 (tAll ys xs i l) (tAll ys xs1 i l1) (tAll ys xs2 i l2)
  | [], [], [], _, _, _, _, _, h => h
  | [], _ :: _, _, _, _, _, _, k, _ => by have := k.e1; simp at this
  | [], _, _ :: _, _, _, _, _, k, _ => by have := k.e2; simp at this
  | _ :: _, [], _, _, _, _, _, k, _ => by have := k.e1; simp at this
  | _ :: _, _, [], _, _, _, _, k, _ => by have := k.e2; simp at this
  | x :: xs, x1 :: xs1, x2 :: xs2, i, l, l1, l2, k, h => by
    rw [tAll_cons, tAll_cons, tAll_cons]
    exact tAll_linL ys xs xs1 xs2 (i + 1) k.tail (tRow_linL i k.head ys 0 h)
theorem tRow_linR (i : Nat) (x : Int) : ∀ (ys ys1 ys2 : List Int) (j : Nat) {l l1 l2 : List Int}, Lin p c1 c2 ys ys1 ys2 → Lin p c1 c2 l l1 l2 → Lin p c1 c2 (tRow x i ys j l) (tRow x i ys1 j l1) (tRow x i ys2 j l2)
  | [], [], [], _, _, _, _, _, h => h
  | [], _ :: _, _, _, _, _, _, k, _ => by have := k.e1; simp at this
  | [], _, _ :: _, _, _, _, _, k, _ => by have := k.e2; simp at this
  | _ :: _, [], _, _, _, _, _, k, _ => by have := k.e1; simp at this
  | _ :: _, _, [], _, _, _, _, k, _ => by have := k.e2; simp at this
  | y :: ys, y1 :: ys1, y2 :: ys2, j, l, l1, l2, k, h => by
    rw [tRow_cons, tRow_cons, tRow_cons]
    refine tRow_linR i x ys ys1 ys2 (j + 1) k.tail (h.set _ ?_)
    have hy := k.head
    have e : l.getD (i + j) 0 + x * y - (c1 * (l1.getD (i + j) 0 + x * y1) + c2 * (l2.getD (i + j) 0 + x * y2)) =
        (l.getD (i + j) 0 - (c1 * l1.getD (i + j) 0 + c2 * l2.getD (i + j) 0)) + (y - (c1 * y1 + c2 * y2)) * x := by
      generalize l.getD (i + j) 0 = a
      generalize l1.getD (i + j) 0 = b
      generalize l2.getD (i + j) 0 = d
      grind
    rw [e]
    exact Int.dvd_add (h.ev _) (Int.dvd_mul_of_dvd_left hy)
theorem tAll_linR (ys ys1 ys2 : List Int) (k : Lin p c1 c2 ys ys1 ys2) : ∀ (xs : List Int) (i : Nat) {l l1 l2 : List Int}, Lin p c1 c2 l l1 l2 → Lin p c1 c2 (tAll ys xs i l) (tAll ys1 xs i l1) (tAll ys2 xs i l2)
  | [], _, _, _, _, h => h
  | x :: xs, i, l, l1, l2, h => by
    rw [tAll_cons, tAll_cons, tAll_cons]
    exact tAll_linR ys ys1 ys2 k xs (i + 1) (tRow_linR i x ys ys1 ys2 0 k h)
theorem Lin.zero (n : Nat) : Lin p c1 c2 (List.replicate n 0) (List.replicate n 0) (List.replicate n 0) := by
  refine ⟨rfl, rfl, fun i => ?_⟩
  have e : (List.replicate n (0 : Int)).getD i 0 = 0 := by
    rw [List.getD_eq_getElem?_getD, List.getElem?_replicate]
    split <;> rfl
  rw [e]
  simp
theorem getD_map0 (f : Int → Int) (h0 : f 0 = 0) (l : List Int) (i : Nat) : (l.map f).getD i 0 = f (l.getD i 0) := by
  rw [List.getD_eq_getElem?_getD, List.getD_eq_getElem?_getD, List.getElem?_map]
  cases l[i]? with
  | none => exact h0.symm
  | some x => rfl
theorem getD_take0 (l : List Int) (n i : Nat) : (l.take n).getD i 0 = if i < n then l.getD i 0 else 0 := by
  rw [List.getD_eq_getElem?_getD, List.getD_eq_getElem?_getD, List.getElem?_take]
  split <;> rfl
theorem Lin.mod {l l1 l2 : List Int} (h : Lin p c1 c2 l l1 l2) : Lin p c1 c2 (l.map (· % p)) (l1.map (· % p)) (l2.map (· % p)) := by
  refine ⟨by rw [List.length_map, List.length_map, h.e1], by rw [List.length_map, List.length_map, h.e2], fun i => ?_⟩
  rw [getD_map0 _ (Int.zero_emod p), getD_map0 _ (Int.zero_emod p), getD_map0 _ (Int.zero_emod p)]
  have hv := h.ev i
  generalize l.getD i 0 = a at hv
  generalize l1.getD i 0 = b at hv
  generalize l2.getD i 0 = d at hv
  have ha : p ∣ a - a % p := ⟨a / p, by have := Int.mul_ediv_add_emod a p; omega⟩
  have hb : p ∣ b - b % p := ⟨b / p, by have := Int.mul_ediv_add_emod b p; omega⟩
  have hd : p ∣ d - d % p := ⟨d / p, by have := Int.mul_ediv_add_emod d p; omega⟩
  have e : a % p - (c1 * (b % p) + c2 * (d % p)) = (a - (c1 * b + c2 * d)) - (a - a % p) + ((b - b % p) * c1 + (d - d % p) * c2) := by
    generalize a % p = a'
    generalize b % p = b'
    generalize d % p = d'
    grind
  rw [e]
  exact Int.dvd_add (Int.dvd_sub hv ha) (Int.dvd_add (Int.dvd_mul_of_dvd_left hb) (Int.dvd_mul_of_dvd_left hd))
theorem Lin.take {l l1 l2 : List Int} (h : Lin p c1 c2 l l1 l2) (n : Nat) : Lin p c1 c2 (l.take n) (l1.take n) (l2.take n) := by
  refine ⟨by rw [List.length_take, List.length_take, h.e1], by rw [List.length_take, List.length_take, h.e2], fun i => ?_⟩
  rw [getD_take0, getD_take0, getD_take0]
  split
  · exact h.ev i
  · simp
end
/-! ### products -/
theorem rRow_len (pl n : Nat) : ∀ (ms : List Int) (j : Nat) (l : List Int), (rRow pl n ms j l).length = l.length
  | [], _, _ => rfl
  | m :: ms, j, l => by rw [rRow_cons, rRow_len pl n ms, List.length_set]
theorem rAll_len (n : Nat) (md : List Int) : ∀ (k : Nat) (l : List Int), (rAll n md k l).length = l.length
  | 0, _ => rfl
  | k + 1, l => by rw [rAll_succ, rAll_len n md k, List.length_set, rRow_len]
theorem tRow_len (x : Int) (i : Nat) : ∀ (ys : List Int) (j : Nat) (l : List Int), (tRow x i ys j l).length = l.length
  | [], _, _ => rfl
  | y :: ys, j, l => by rw [tRow_cons, tRow_len x i ys, List.length_set]
theorem tAll_len (ys : List Int) : ∀ (xs : List Int) (i : Nat) (l : List Int), (tAll ys xs i l).length = l.length
  | [], _, _ => rfl
  | x :: xs, i, l => by rw [tAll_cons, tAll_len ys xs, tRow_len]
def dl (p : Int) (md : List Int) (n : Nat) (x y : Int) : List Int := ((rAll n md (n - 1) (tAll (figs p n y) (figs p n x) 0 (List.replicate (2 * n - 1) 0))).take n).map (· % p)
theorem cf_mod {p : Int} (hp : 0 < p) (l : List Int) : Cf p (l.map (· % p)) := fun x hx => by
  obtain ⟨y, _, rfl⟩ := List.mem_map.mp hx
  exact ⟨Int.emod_nonneg _ (by omega), Int.emod_lt_of_pos _ hp⟩
theorem dl_len (p : Int) (md : List Int) {n : Nat} (hn : 1 ≤ n) (x y : Int) : (dl p md n x y).length = n := by
  unfold dl
  rw [List.length_map, List.length_take, rAll_len, tAll_len, List.length_replicate]
  omega
section
variable {F : FD}
abbrev M (F : FD) (x y : Int) : Int := ltimes F.p F.md x y
theorem M_eq (F : FD) (x y : Int) : M F x y = hornP F.p (dl F.p F.md F.t x y) := rfl
theorem pp (o : F.Ok) : 0 < F.p := by have := o.two; omega
theorem figs_M (o : F.Ok) (x y : Int) : figs F.p F.t (M F x y) = dl F.p F.md F.t x y := by
  have hl := dl_len F.p F.md (n := F.t) (by have := o.tb; omega) x y
  have h := figs_horn (pp o) (dl F.p F.md F.t x y) (cf_mod (pp o) _)
  rw [hl] at h
  exact h
theorem M_in (o : F.Ok) (x y : Int) : InF F (M F x y) := by
  have hl := dl_len F.p F.md (n := F.t) (by have := o.tb; omega) x y
  have h := horn_range (pp o) (dl F.p F.md F.t x y) (cf_mod (pp o) _)
  rw [hl] at h
  exact h
/-- x's figures are c1 times x1's and c2 times x2's -/
def LinF (F : FD) (c1 c2 x x1 x2 : Int) : Prop := Lin F.p c1 c2 (figs F.p F.t x) (figs F.p F.t x1) (figs F.p F.t x2)
def LinMap (F : FD) (f : Int → Int) : Prop := ∀ c1 c2 x x1 x2, LinF F c1 c2 x x1 x2 → LinF F c1 c2 (f x) (f x1) (f x2)
theorem M_left (o : F.Ok) (y : Int) : LinMap F fun x => M F x y := fun c1 c2 x x1 x2 h => by
  unfold LinF
  rw [figs_M o, figs_M o, figs_M o]
  exact ((rAll_lin _ _ _ (tAll_linL _ _ _ _ 0 h (Lin.zero _))).take _).mod
theorem M_right (o : F.Ok) (x : Int) : LinMap F fun y => M F x y := fun c1 c2 y y1 y2 h => by
  unfold LinF
  rw [figs_M o, figs_M o, figs_M o]
  exact ((rAll_lin _ _ _ (tAll_linR _ _ _ h _ 0 (Lin.zero _))).take _).mod
theorem LinMap.comp {f g : Int → Int} (hf : LinMap F f) (hg : LinMap F g) : LinMap F fun x => f (g x) := fun c1 c2 x x1 x2 h => hf _ _ _ _ _ (hg _ _ _ _ _ h)
/-- figures that are congruent are the same -/
theorem Lin.uniq (o : F.Ok) {c1 c2 x y x1 x2 : Int} (hx : InF F x) (hy : InF F y) (h : LinF F c1 c2 x x1 x2) (k : LinF F c1 c2 y x1 x2) : x = y := by
  have e : figs F.p F.t x = figs F.p F.t y := by
    refine List.ext_getElem (by rw [figs_len, figs_len]) fun i h1 h2 => ?_
    have cx := figs_cf (pp o) F.t x _ (List.getElem_mem h1)
    have cy := figs_cf (pp o) F.t y _ (List.getElem_mem h2)
    have d := Int.dvd_sub (h.ev i) (k.ev i)
    rw [List.getD_eq_getElem?_getD, List.getElem?_eq_getElem h1, List.getD_eq_getElem?_getD (l := figs F.p F.t y), List.getElem?_eq_getElem h2] at d
    have e2 : ∀ a b s : Int, (a - s) - (b - s) = a - b := fun a b s => by omega
    rw [e2] at d
    have d : F.p ∣ (figs F.p F.t x)[i] - (figs F.p F.t y)[i] := d
    generalize (figs F.p F.t x)[i] = a at cx d
    generalize (figs F.p F.t y)[i] = b at cy d
    obtain ⟨q, hq⟩ := d
    have h0 := pp o
    have : q = 0 := by
      rcases Int.lt_trichotomy q 0 with z | z | z
      · have := Int.mul_le_mul_of_nonneg_left (show q ≤ -1 by omega) (show 0 ≤ F.p by omega)
        omega
      · exact z
      · have := Int.mul_le_mul_of_nonneg_left (show 1 ≤ q by omega) (show 0 ≤ F.p by omega)
        omega
    subst this
    omega
  rw [← horn_figs (pp o) F.t x hx.1 hx.2, ← horn_figs (pp o) F.t y hy.1 hy.2, e]
/-! ### from the units to all -/
def mapR (n : Nat) (f : Nat → Int) : List Int := (List.range n).map f
theorem mapR_len (n : Nat) (f : Nat → Int) : (mapR n f).length = n := by unfold mapR; rw [List.length_map, List.length_range]
theorem mapR_get (n : Nat) (f : Nat → Int) (i : Nat) : (mapR n f).getD i 0 = if i < n then f i else 0 := by
  unfold mapR
  rw [List.getD_eq_getElem?_getD, List.getElem?_map]
  by_cases h : i < n
  · rw [List.getElem?_range h, if_pos h]; rfl
  · rw [List.getElem?_eq_none (by rw [List.length_range]; omega), if_neg h]; rfl
theorem ext_getD {l m : List Int} (e : l.length = m.length) (h : ∀ i, i < l.length → l.getD i 0 = m.getD i 0) : l = m := by
  refine List.ext_getElem e fun i h1 h2 => ?_
  have := h i h1
  rw [List.getD_eq_getElem?_getD, List.getElem?_eq_getElem h1, List.getD_eq_getElem?_getD, List.getElem?_eq_getElem h2] at this
  exact this
theorem horn_zero (p : Int) : ∀ n : Nat, hornP p (List.replicate n 0) = 0
  | 0 => rfl
  | n + 1 => by
    rw [List.replicate_succ]
    show hornP p (List.replicate n 0) * p + 0 = 0
    rw [horn_zero p n]
    simp
def unitE (n k : Nat) : List Int := mapR n fun i => if i = k then 1 else 0
def preE (n : Nat) (ds : List Int) (k : Nat) : List Int := mapR n fun i => if i < k then ds.getD i 0 else 0
/-- the number whose k-th figure is 1 -/
def bas (F : FD) (k : Nat) : Int := hornP F.p (unitE F.t k)
theorem cf_unit (o : F.Ok) (k : Nat) : Cf F.p (unitE F.t k) := fun x hx => by
  obtain ⟨i, _, rfl⟩ := List.mem_map.mp hx
  have := o.two
  (try dsimp only)
  split <;> omega
theorem figs_bas (o : F.Ok) (k : Nat) : figs F.p F.t (bas F k) = unitE F.t k := by
  have h := figs_horn (pp o) (unitE F.t k) (cf_unit o k)
  rw [show (unitE F.t k).length = F.t from mapR_len _ _] at h
  exact h
theorem cf_pre (o : F.Ok) {ds : List Int} (hd : Cf F.p ds) (k : Nat) : Cf F.p (preE F.t ds k) := fun x hx => by
  obtain ⟨i, _, rfl⟩ := List.mem_map.mp hx
  have := o.two
  (try dsimp only)
  split
  · by_cases h : i < ds.length
    · exact hd _ (getD_mem h)
    · rw [List.getD_eq_getElem?_getD, List.getElem?_eq_none (by omega)]
      show 0 ≤ (0 : Int) ∧ (0 : Int) < F.p
      omega
  · omega
theorem figs_pre (o : F.Ok) {ds : List Int} (hd : Cf F.p ds) (k : Nat) : figs F.p F.t (hornP F.p (preE F.t ds k)) = preE F.t ds k := by
  have h := figs_horn (pp o) (preE F.t ds k) (cf_pre o hd k)
  rw [show (preE F.t ds k).length = F.t from mapR_len _ _] at h
  exact h
theorem pre_step (o : F.Ok) {ds : List Int} (hd : Cf F.p ds) (k : Nat) : LinF F 1 (ds.getD k 0) (hornP F.p (preE F.t ds (k + 1))) (hornP F.p (preE F.t ds k)) (bas F k) := by
  unfold LinF
  rw [figs_pre o hd, figs_pre o hd, figs_bas o]
  refine ⟨by unfold preE; rw [mapR_len, mapR_len], by unfold preE unitE; rw [mapR_len, mapR_len], fun i => ?_⟩
  unfold preE unitE
  rw [mapR_get, mapR_get, mapR_get]
  by_cases h : i < F.t
  · rw [if_pos h, if_pos h, if_pos h]
    by_cases h1 : i < k
    · rw [if_pos (by omega), if_pos h1, if_neg (by omega)]
      simp
    · by_cases h2 : i = k
      · rw [if_pos (by omega), if_neg h1, if_pos h2, h2]
        simp
      · rw [if_neg (by omega), if_neg h1, if_neg h2]
        simp
  · rw [if_neg h, if_neg h, if_neg h]
    simp
theorem pre_all (o : F.Ok) (x : Int) (hx : InF F x) : hornP F.p (preE F.t (figs F.p F.t x) F.t) = x := by
  have e : preE F.t (figs F.p F.t x) F.t = figs F.p F.t x := by
    refine ext_getD (by unfold preE; rw [mapR_len, figs_len]) fun i h1 => ?_
    unfold preE at h1 ⊢
    rw [mapR_len] at h1
    rw [mapR_get, if_pos h1, if_pos h1]
  rw [e, horn_figs (pp o) F.t x hx.1 hx.2]
/-- two linear ones that agree at the units agree -/
theorem lin_ext (o : F.Ok) {f g : Int → Int} (hf : LinMap F f) (hg : LinMap F g) (rf : ∀ x, InF F x → InF F (f x)) (rg : ∀ x, InF F x → InF F (g x)) (h0 : f 0 = g 0) (hb : ∀ k, k < F.t → f (bas F k) = g (bas F k)) (x : Int) (hx : InF F x) : f x = g x := by
  have cf := figs_cf (pp o) F.t x
  have inp : ∀ k, InF F (hornP F.p (preE F.t (figs F.p F.t x) k)) := fun k => by
    have h := horn_range (pp o) (preE F.t (figs F.p F.t x) k) (cf_pre o cf k)
    rw [show (preE F.t (figs F.p F.t x) k).length = F.t from mapR_len _ _] at h
    exact h
  have go : ∀ k, k ≤ F.t → f (hornP F.p (preE F.t (figs F.p F.t x) k)) = g (hornP F.p (preE F.t (figs F.p F.t x) k)) := by
    intro k
    induction k with
    | zero =>
      intro _
      have e : hornP F.p (preE F.t (figs F.p F.t x) 0) = 0 := by
        have e2 : preE F.t (figs F.p F.t x) 0 = List.replicate F.t 0 := by
          refine ext_getD (by unfold preE; rw [mapR_len, List.length_replicate]) fun i h1 => ?_
          unfold preE at h1 ⊢
          rw [mapR_len] at h1
          rw [mapR_get, if_pos h1, if_neg (Nat.not_lt_zero _), List.getD_eq_getElem?_getD, List.getElem?_replicate, if_pos h1]
          rfl
        rw [e2, horn_zero]
      rw [e]
      exact h0
    | succ k ih =>
      intro hk
      have s := pre_step o cf k
      have s1 := hf _ _ _ _ _ s
      have s2 := hg _ _ _ _ _ s
      rw [ih (by omega), hb k (by omega)] at s1
      exact Lin.uniq o (rf _ (inp _)) (rg _ (inp _)) s1 s2
  have := go F.t (Nat.le_refl _)
  rwa [pre_all o x hx] at this
/-! ### the products are those of the row of powers -/
def gen (F : FD) : Int := F.pows.getD 1 0
structure Tab (F : FD) : Prop where
  ok : F.Ok
  step : ∀ k, k < F.pows.length → M F (F.pows.getD k 0) (gen F) = F.pows.getD ((k + 1) % F.pows.length) 0
  asc : ∀ i j, i < F.t → j < F.t → M F (M F (bas F i) (bas F j)) (gen F) = M F (bas F i) (M F (bas F j) (gen F))
  one : ∀ i, i < F.t → M F (bas F i) 1 = bas F i
theorem lin00 (x x1 x2 : Int) (h : figs F.p F.t x = List.replicate F.t 0) : LinF F 0 0 x x1 x2 := by
  unfold LinF
  rw [h]
  refine ⟨by rw [List.length_replicate, figs_len], by rw [List.length_replicate, figs_len], fun i => ?_⟩
  have e : (List.replicate F.t (0 : Int)).getD i 0 = 0 := by
    rw [List.getD_eq_getElem?_getD, List.getElem?_replicate]
    split <;> rfl
  rw [e]
  simp
theorem figs_0 (p : Int) : ∀ n : Nat, figs p n 0 = List.replicate n 0
  | 0 => rfl
  | n + 1 => by
    rw [figs_succ, List.replicate_succ]
    rw [Int.zero_emod, Int.zero_ediv, figs_0 p n]
theorem map_0 (o : F.Ok) {f : Int → Int} (hf : LinMap F f) (r : InF F (f 0)) : f 0 = 0 :=
  Lin.uniq o (x1 := f 0) (x2 := f 0) r (InF_zero o) (hf 0 0 0 0 0 (lin00 0 0 0 (figs_0 _ _))) (lin00 0 _ _ (figs_0 _ _))
theorem M_0y (o : F.Ok) (y : Int) : M F 0 y = 0 := map_0 o (M_left o y) (M_in o _ _)
theorem M_x0 (o : F.Ok) (x : Int) : M F x 0 = 0 := map_0 o (M_right o x) (M_in o _ _)
theorem M_asc (T : Tab F) {x y : Int} (hx : InF F x) (hy : InF F y) : M F (M F x y) (gen F) = M F x (M F y (gen F)) := by
  have o := T.ok
  refine lin_ext o (f := fun x => M F (M F x y) (gen F)) (g := fun x => M F x (M F y (gen F))) ((M_left o (gen F)).comp (M_left o y)) (M_left o _) (fun _ _ => M_in o _ _) (fun _ _ => M_in o _ _) ?_ (fun i hi => ?_) x hx
  · show M F (M F 0 y) (gen F) = M F 0 _
    rw [M_0y o, M_0y o, M_0y o]
  · refine lin_ext o (f := fun y => M F (M F (bas F i) y) (gen F)) (g := fun y => M F (bas F i) (M F y (gen F))) ((M_left o (gen F)).comp (M_right o _)) ((M_right o _).comp (M_left o _)) (fun _ _ => M_in o _ _) (fun _ _ => M_in o _ _) ?_ (fun j hj => T.asc i j hi hj) y hy
    show M F (M F (bas F i) 0) (gen F) = M F (bas F i) (M F 0 (gen F))
    rw [M_x0 o, M_0y o, M_x0 o]
theorem LinMap.id : LinMap F fun x => x := fun _ _ _ _ _ h => h
theorem M_one (T : Tab F) {x : Int} (hx : InF F x) : M F x 1 = x := by
  have o := T.ok
  exact lin_ext o (f := fun x => M F x 1) (g := fun x => x) (M_left o 1) LinMap.id (fun _ _ => M_in o _ _) (fun _ h => h) (M_0y o 1) (fun i hi => T.one i hi) x hx
theorem pow_step (T : Tab F) (k : Nat) : M F (powF F k) (gen F) = powF F (k + 1) := by
  unfold powF
  rw [T.step _ (Nat.mod_lt k T.ok.pos), Nat.mod_add_mod]
theorem M_pow (T : Tab F) (k : Nat) : ∀ j : Nat, M F (powF F k) (powF F j) = powF F (k + j)
  | 0 => by rw [powF_zero T.ok, M_one T (powF_InF T.ok k)]; rfl
  | j + 1 => by
    rw [← pow_step T j, ← M_asc T (powF_InF T.ok k) (powF_InF T.ok j), M_pow T k j, pow_step T]
    rfl
/-- this law's own products are the program's -/
theorem M_mul (T : Tab F) {x y : Int} (hx : InF F x) (hy : InF F y) : M F x y = mulF F x y := by
  have o := T.ok
  by_cases n : x = 0
  · rw [n, M_0y o, mulF_0x]
  · by_cases k : y = 0
    · rw [k, M_x0 o, mulF_x0]
    · rw [mulF_ne F n k, ← M_pow T, powF_lg o hx n, powF_lg o hy k]
theorem lpow_raise (T : Tab F) {x : Int} (hx : InF F x) : ∀ (n j : Nat), lpowGo F.p F.md x n (raisF F x j) = raisF F x (j + n)
  | 0, j => rfl
  | n + 1, j => by
    show lpowGo F.p F.md x n (M F (raisF F x j) x) = _
    rw [M_mul T (raisF_InF T.ok _ _) hx, mul_step T.ok hx, lpow_raise T hx n (j + 1)]
    congr 1
    omega
theorem lpow_eq (T : Tab F) {x : Int} (hx : InF F x) (n : Nat) : lpow F.p F.md x n = raisF F x n := by
  have h := lpow_raise T hx n 0
  rw [Nat.zero_add] at h
  exact h
/-! ### sums -/
theorem told_horn (p : Int) : ∀ (ds : List Int) (c : Int), (List.zipWith (· * ·) ds ((List.range ds.length).map fun i => c * p ^ i)).sum = c * hornP p ds
  | [], c => by show (0 : Int) = c * 0; rw [Int.mul_zero]
  | d :: r, c => by
    rw [List.length_cons, List.range_succ_eq_map, List.map_cons, List.zipWith_cons_cons, List.sum_cons, List.map_map]
    have ih := told_horn p r (c * p)
    have e : (List.map ((fun i => c * p ^ i) ∘ Nat.succ) (List.range r.length)) = (List.range r.length).map fun i => c * p * p ^ i := by
      refine List.map_congr_left fun i _ => ?_
      show c * p ^ (i + 1) = c * p * p ^ i
      rw [Int.pow_succ]
      generalize p ^ i = z
      grind
    rw [e, ih]
    show d * (c * p ^ 0) + c * p * hornP p r = c * (hornP p r * p + d)
    rw [Int.pow_zero]
    generalize hornP p r = z
    grind
theorem toldP_horn (p : Int) (ds : List Int) (n : Nat) (h : ds.length = n + 1) : toldP ds (unitsP p n) = hornP p ds := by
  have z := told_horn p ds 1
  rw [h, Int.one_mul] at z
  unfold toldP unitsP
  rw [← z]
  congr 2
  refine List.map_congr_left fun i _ => ?_
  rw [Int.one_mul]
def sumD (F : FD) (x y : Int) : List Int := (List.zip (figs F.p F.t x) (figs F.p F.t y)).map fun z => (z.1 + z.2) % F.p
theorem sumD_len (F : FD) (x y : Int) : (sumD F x y).length = F.t := by
  unfold sumD
  rw [List.length_map, List.length_zip, figs_len, figs_len, Nat.min_self]
theorem cf_sum (o : F.Ok) (x y : Int) : Cf F.p (sumD F x y) := fun v hv => by
  obtain ⟨z, _, rfl⟩ := List.mem_map.mp hv
  exact ⟨Int.emod_nonneg _ (by have := pp o; omega), Int.emod_lt_of_pos _ (pp o)⟩
theorem addF_horn (o : F.Ok) (x y : Int) : addF F x y = hornP F.p (sumD F x y) := by
  have ht := o.tb
  exact toldP_horn F.p (sumD F x y) (F.t - 1) (by rw [sumD_len]; omega)
theorem addF_in (o : F.Ok) (x y : Int) : InF F (addF F x y) := by
  rw [addF_horn o]
  have h := horn_range (pp o) _ (cf_sum o x y)
  rw [sumD_len] at h
  exact h
theorem addF_lin (o : F.Ok) (x y : Int) : LinF F 1 1 (addF F x y) x y := by
  unfold LinF
  have h := figs_horn (pp o) _ (cf_sum o x y)
  rw [sumD_len] at h
  rw [addF_horn o, h]
  refine ⟨by rw [sumD_len, figs_len], by rw [sumD_len, figs_len], fun i => ?_⟩
  have e : (sumD F x y).getD i 0 = ((figs F.p F.t x).getD i 0 + (figs F.p F.t y).getD i 0) % F.p := by
    unfold sumD
    by_cases c : i < F.t
    · rw [List.getD_eq_getElem?_getD, List.getD_eq_getElem?_getD, List.getD_eq_getElem?_getD, List.getElem?_map, List.getElem?_eq_getElem (l := List.zip _ _) (by rw [List.length_zip, figs_len, figs_len]; omega), List.getElem_zip, List.getElem?_eq_getElem (by rw [figs_len]; exact c), List.getElem?_eq_getElem (by rw [figs_len]; exact c)]
      rfl
    · rw [List.getD_eq_getElem?_getD, List.getD_eq_getElem?_getD, List.getD_eq_getElem?_getD, List.getElem?_eq_none (by rw [List.length_map, List.length_zip, figs_len, figs_len]; omega), List.getElem?_eq_none (l := figs F.p F.t x) (by rw [figs_len]; omega), List.getElem?_eq_none (l := figs F.p F.t y) (by rw [figs_len]; omega)]
      show (0 : Int) = (0 + 0) % F.p
      simp
  rw [e]
  generalize (figs F.p F.t x).getD i 0 = a
  generalize (figs F.p F.t y).getD i 0 = b
  exact ⟨-((a + b) / F.p), by have := Int.mul_ediv_add_emod (a + b) F.p; rw [Int.mul_neg]; omega⟩
/-- a linear one by its figures at the units -/
def matF (F : FD) (f : Int → Int) (x : Int) : Int := hornP F.p (mapR F.t fun j => (((List.range F.t).map fun i => (figs F.p F.t x).getD i 0 * (figs F.p F.t (f (bas F i))).getD j 0).sum) % F.p)
theorem sum_lin {p c1 c2 : Int} {a a1 a2 : Nat → Int} (b : Nat → Int) (h : ∀ i, p ∣ a i - (c1 * a1 i + c2 * a2 i)) : ∀ l : List Nat, p ∣ (l.map fun i => a i * b i).sum - (c1 * (l.map fun i => a1 i * b i).sum + c2 * (l.map fun i => a2 i * b i).sum)
  | [] => by simp
  | i :: l => by
    have ih := sum_lin b h l
    rw [List.map_cons, List.map_cons, List.map_cons, List.sum_cons, List.sum_cons, List.sum_cons]
    have hi := h i
    generalize (l.map fun i => a i * b i).sum = s at ih
    generalize (l.map fun i => a1 i * b i).sum = s1 at ih
    generalize (l.map fun i => a2 i * b i).sum = s2 at ih
    have e : a i * b i + s - (c1 * (a1 i * b i + s1) + c2 * (a2 i * b i + s2)) = (a i - (c1 * a1 i + c2 * a2 i)) * b i + (s - (c1 * s1 + c2 * s2)) := by
      generalize a i = u
      generalize a1 i = u1
      generalize a2 i = u2
      generalize b i = w
      grind
    rw [e]
    exact Int.dvd_add (Int.dvd_mul_of_dvd_left hi) ih
theorem matF_figs (o : F.Ok) (f : Int → Int) (x : Int) : figs F.p F.t (matF F f x) = (mapR F.t fun j => ((List.range F.t).map fun i => (figs F.p F.t x).getD i 0 * (figs F.p F.t (f (bas F i))).getD j 0).sum).map (· % F.p) := by
  have e : (mapR F.t fun j => (((List.range F.t).map fun i => (figs F.p F.t x).getD i 0 * (figs F.p F.t (f (bas F i))).getD j 0).sum) % F.p) = (mapR F.t fun j => ((List.range F.t).map fun i => (figs F.p F.t x).getD i 0 * (figs F.p F.t (f (bas F i))).getD j 0).sum).map (· % F.p) := by
    unfold mapR
    rw [List.map_map]
    rfl
  unfold matF
  rw [e]
  have h := figs_horn (pp o) _ (cf_mod (pp o) (mapR F.t fun j => ((List.range F.t).map fun i => (figs F.p F.t x).getD i 0 * (figs F.p F.t (f (bas F i))).getD j 0).sum))
  rw [List.length_map, mapR_len] at h
  exact h
theorem matF_lin (o : F.Ok) (f : Int → Int) : LinMap F (matF F f) := fun c1 c2 x x1 x2 h => by
  unfold LinF
  rw [matF_figs o, matF_figs o, matF_figs o]
  refine Lin.mod ⟨by rw [mapR_len, mapR_len], by rw [mapR_len, mapR_len], fun j => ?_⟩
  rw [mapR_get, mapR_get, mapR_get]
  by_cases c : j < F.t
  · rw [if_pos c, if_pos c, if_pos c]
    exact sum_lin (fun i => (figs F.p F.t (f (bas F i))).getD j 0) h.ev (List.range F.t)
  · rw [if_neg c, if_neg c, if_neg c]
    simp
theorem turn_additive (o : F.Ok) (h : ∀ x, InF F x → turnF F x 1 = matF F (fun z => turnF F z 1) x) (x y : Int) (hx : InF F x) (hy : InF F y) : turnF F (addF F x y) 1 = addF F (turnF F x 1) (turnF F y 1) := by
  have s := matF_lin o (fun z => turnF F z 1) _ _ _ _ _ (addF_lin o x y)
  rw [← h x hx, ← h y hy, ← h _ (addF_in o x y)] at s
  exact Lin.uniq o (turn_InF o _ _) (addF_in o _ _) s (addF_lin o _ _)
end
/-! ### a field's numbers, looked at -/
def okB (F : FD) (size : Nat) : Bool :=
  decide (F.p = 2 ∨ F.p = 3 ∨ F.p = 5 ∨ F.p = 7) && (decide (3 ≤ F.md.length ∧ F.md.length ≤ 8) && (decide (Cf F.p F.md) && (decide (F.md.getLastD 0 = 1) && (decide (F.size = (size : Int)) && (decide (size ≤ 128) &&
  (decide (allP F.p F.md F.size = some F.pows) && (isModV F.p (some (F.md.map V.int)) && (decide F.pows.Nodup && (decide (F.pows.length + 1 = size) && (((List.range size).all fun i => i == 0 || F.pows.contains (i : Int)) && ((F.pows.all fun x => decide (0 < x) && decide (x < (size : Int))) && decide (F.pows[0]? = some 1))))))))))))
theorem okB_ok {F : FD} {size : Nat} (h : okB F size = true) : F.Ok ∧ F.size = (size : Int) := by
  unfold okB at h
  simp only [Bool.and_eq_true, decide_eq_true_eq] at h
  obtain ⟨h1, h2, h3, h4, h5, h6, h7, h8, h9, h10, h11, h12, h13⟩ := h
  refine ⟨⟨h1, h2, h3, h4, by omega, h7, h8, h9, by omega, fun x x0 x1 => ?_, fun x hx => ?_, h13⟩, h5⟩
  · have := List.all_eq_true.mp h11 x.toNat (List.mem_range.mpr (by omega))
    rw [show ((x.toNat : Nat) : Int) = x by omega] at this
    rcases Bool.or_eq_true_iff.mp this with c | c
    · have := eq_of_beq c; omega
    · exact List.contains_iff_mem.mp c
  · have := List.all_eq_true.mp h12 x hx
    obtain ⟨a, b⟩ := Bool.and_eq_true_iff.mp this
    exact ⟨of_decide_eq_true a, by have := of_decide_eq_true b; omega⟩
def stepB (F : FD) : Bool := (List.range F.pows.length).all fun k => decide (M F (F.pows.getD k 0) (gen F) = F.pows.getD ((k + 1) % F.pows.length) 0)
def ascB (F : FD) : Bool := (List.range F.t).all fun i => (List.range F.t).all fun j => decide (M F (M F (bas F i) (bas F j)) (gen F) = M F (bas F i) (M F (bas F j) (gen F)))
def oneB (F : FD) : Bool := (List.range F.t).all fun i => decide (M F (bas F i) 1 = bas F i)
def turnB (F : FD) (size : Nat) : Bool := (List.range size).all fun x => decide (turnF F (x : Int) 1 = matF F (fun z => turnF F z 1) x)
def fixB (F : FD) : Bool := (List.range F.p.toNat).all fun x => decide (turnF F (x : Int) 1 = (x : Int))
theorem good_of {F : FD} {size : Nat} (h1 : okB F size = true) (h2 : stepB F = true) (h3 : ascB F = true) (h4 : oneB F = true) (h5 : turnB F size = true) (h6 : fixB F = true) : Good F := by
  obtain ⟨o, hs⟩ := okB_ok h1
  have T : Tab F := ⟨o, fun k hk => of_decide_eq_true (List.all_eq_true.mp h2 k (List.mem_range.mpr hk)), fun i j hi hj => of_decide_eq_true (List.all_eq_true.mp (List.all_eq_true.mp h3 i (List.mem_range.mpr hi)) j (List.mem_range.mpr hj)), fun i hi => of_decide_eq_true (List.all_eq_true.mp h4 i (List.mem_range.mpr hi))⟩
  refine ⟨o, fun x hx n _ => lpow_eq T hx n, addF_in o, fun x y hx hy => turn_additive o (fun z hz => ?_) x y hx hy, fun x x0 x1 => ?_⟩
  · have := of_decide_eq_true (List.all_eq_true.mp h5 z.toNat (List.mem_range.mpr (by unfold InF at hz; omega)))
    rw [show ((z.toNat : Nat) : Int) = z by unfold InF at hz; omega] at this
    exact this
  · have := of_decide_eq_true (List.all_eq_true.mp h6 x.toNat (List.mem_range.mpr (by omega)))
    rw [show ((x.toNat : Nat) : Int) = x by omega] at this
    exact this

end TP
/-! PN -/
set_option maxHeartbeats 4000000
namespace TP
open PySem PySem.Spec PyProof.Rows L2
local macro_rules | `(tactic| walk_at "s1") => `(tactic| first | refine ⟨_, rfl, ?_⟩ | refine ⟨_, _, rfl, rfl, ?_⟩ | refine ⟨rfl, ?_⟩ | refine iteT ?_ | refine iteF ?_)
local macro_rules | `(tactic| walk_at "st") => `(tactic| (repeat (walk_at "s1")))
local macro_rules | `(tactic| walk_at "sq") => `(tactic| first | assumption | exact sqL (by assumption) | exact sqT (by assumption) | (refine Ex.seq (by assumption) ?_; walk_at "sq") | (refine Ex.tup (by assumption) ?_; walk_at "sq"))
local macro_rules | `(tactic| walk_at "at") => `(tactic| first | assumption | (refine (show Ex _ _ by assumption) _ _ ?_; walk_at "at"))
local macro_rules | `(tactic| walk_at "sl") => `(tactic| ((try dsimp only); refine tSeqI ?_; (try dsimp only)))

variable {K : Fr}
/-! ### differences, all turns, norms, traces -/
def subF (F : FD) (x y : Int) : Int := toldP ((List.zip (figs F.p F.t x) (figs F.p F.t y)).map fun z => (z.1 - z.2) % F.p) F.units
def allT (F : FD) (x : Int) : List Int := (List.range F.t).map fun i => turnF F x (i : Nat)
def normF (F : FD) (x : Int) : Int := (allT F x).foldl (mulF F) 1
def traceF (F : FD) (x : Int) : Int := (allT F x).foldl (addF F) 0
theorem allT_in {F : FD} (o : F.Ok) (x : Int) : ∀ y ∈ allT F x, InF F y := fun y hy => by
  obtain ⟨i, _, rfl⟩ := List.mem_map.mp hy
  exact turn_InF o x _
theorem allT_len (F : FD) (x : Int) : (allT F x).length = F.t := by unfold allT; rw [List.length_map, List.length_range]
def sp_Field_dot_taken (K : Fr) : Sp := fun vs H Q _ => ∃ a F ok x y, vs = [.ref a, .int x, .int y] ∧ FA K H a F ok ∧ Evl.RetV (.int (subF F x y)) H Q
theorem len_Field_dot_taken (vs : List V) (H : Hp) (Q : VK) (E : XK) (h : sp_Field_dot_taken K vs H Q E) : vs.length = 3 := by obtain ⟨_, _, _, _, _, rfl, _⟩ := h; rfl
def t_Field_dot_taken (K : Fr) : TS := (tSeq (tAsg (tListZip K (tCons (tMeth (He.ga K "Field") "figures_of" (sp_Field_dot_figures_of K) [] E0 (tVar 0) (tCons (tVar 1) tNil)) (tCons (tMeth (He.ga K "Field") "figures_of" (sp_Field_dot_figures_of K) [] E0 (tVar 0) (tCons (tVar 2) tNil)) tNil))) (gName 3)) (tRet (tMeth (He.ga K "Field") "with_figures" (sp_Field_dot_with_figures K) [] E0 (tVar 0) (tCons (tLc (iList K (tVar 3)) (gTup K 2 (gCons (gName 4) (gCons (gName 5) gNil))) tYes (tOp rModI (tOp rSubI (tVar 4) (tVar 5)) (tFld K (tVar 0) "_prime")) [4, 5]) tNil))))
theorem look_taken (p : Int) (m : Addr) (s : Int) (u w e : Addr) : List.lookup ("taken" : Str) (fFs p m s u w e) = none := rfl
theorem pure_Field_dot_taken (vs : List V) (H : Hp) (Q : VK) (E : XK) (h : sp_Field_dot_taken K vs H Q E) : t_Field_dot_taken K { nx := fun _ H' => Q .non H', rt := Q } (start ["self", "one", "other", "pairs", "figure", "beside"] vs) H := by
  obtain ⟨a, F, ok, x, y, rfl, f, q⟩ := h
  have ff := f
  obtain ⟨c, o, dx, m, u, w, e, kvs, h1, h2, h3, h4, h5, h6, _⟩ := f
  have hpl := o.two
  have htb := o.tb
  have lk := look_meth F.p m F.size u w e
  refine ⟨_, rfl, a, dx, _, rfl, h1, lk.1, _, rfl, a, F, ok, x, rfl, ff, fun l1 H1 n1 e1 hl1 => ?_⟩
  refine ⟨_, rfl, a, dx, _, rfl, e1 _ _ h1, lk.1, _, rfl, a, F, ok, y, rfl, ff.ex e1, fun l2 H2 n2 e2 hl2 => ?_⟩
  refine ⟨l1, l2, _, _, rfl, sqL (e2 _ _ hl1), sqL hl2, fun H3 ps ts e3 nps nts hps hlp hpp => ?_⟩
  have E3 : Ex H H3 := Ex.trans e1 (Ex.trans e2 e3)
  refine ⟨_, rfl, a, dx, _, rfl, E3 _ _ h1, lk.2.1, ?_⟩
  rw [zip_vals] at hpp
  refine lcPairs (a := ps) (ts := ts) (fun x y => .int ((intOf x - intOf y) % F.p)) (fun Q q => ⟨_, rfl, q⟩) (sqL hlp) hpp ?_ (fun x y => rfl) (fun i v1 v2 gi H4 e4 Q4 q4 => ?_) (fun l H4 n4 e4 h4 => ?_)
  · rw [List.length_map, List.length_zip, figs_len, figs_len]; omega
  · rw [List.getElem?_map] at gi
    cases ez : (List.zip (figs F.p F.t x) (figs F.p F.t y))[i]? with
    | none => rw [ez] at gi; cases gi
    | some z =>
      rw [ez] at gi
      cases gi
      exact ⟨_, rfl, _, rfl, _, _, rfl, rfl, _, rfl, a, _, dx, _, _, rfl, e4 _ _ (E3 _ _ h1), c.cls, c.n1, rfl, _, _, rfl, rfl, by omega, q4 H4 (Ex.refl _)⟩
  · have e5 : ((List.zip (figs F.p F.t x) (figs F.p F.t y)).map fun z => (V.int z.1, V.int z.2)).map (fun z => (fun x y => V.int ((intOf x - intOf y) % F.p)) z.1 z.2) = ((List.zip (figs F.p F.t x) (figs F.p F.t y)).map fun z => (z.1 - z.2) % F.p).map V.int := by
      rw [List.map_map, List.map_map]; rfl
    rw [e5] at h4
    refine ⟨a, F, ok, l, _, rfl, ff.ex (Ex.trans E3 e4), sqL h4, ?_, fun v hv => ?_, fun H5 e6 => q H5 (Ex.trans E3 (Ex.trans e4 e6))⟩
    · rw [List.length_map, List.length_zip, figs_len, figs_len]; omega
    · obtain ⟨z, _, rfl⟩ := List.mem_map.mp hv
      have := Int.emod_nonneg (z.1 - z.2) (show F.p ≠ 0 by omega)
      have := Int.emod_lt_of_pos (z.1 - z.2) (show 0 < F.p by omega)
      omega
def difD (F : FD) (x y : Int) : List Int := (List.zip (figs F.p F.t x) (figs F.p F.t y)).map fun z => (z.1 - z.2) % F.p
theorem subF_in {F : FD} (o : F.Ok) (x y : Int) : InF F (subF F x y) := by
  have ht := o.tb
  have hl : (difD F x y).length = F.t := by unfold difD; rw [List.length_map, List.length_zip, figs_len, figs_len, Nat.min_self]
  have hc : Cf F.p (difD F x y) := fun v hv => by
    obtain ⟨z, _, rfl⟩ := List.mem_map.mp hv
    exact ⟨Int.emod_nonneg _ (by have := pp o; omega), Int.emod_lt_of_pos _ (pp o)⟩
  have e : subF F x y = hornP F.p (difD F x y) := toldP_horn F.p (difD F x y) (F.t - 1) (by rw [hl]; omega)
  rw [e]
  have h := horn_range (pp o) _ hc
  rw [hl] at h
  exact h
def sp_minus (K : Fr) : Sp := fun vs H Q _ => ∃ a F ok x y, vs = [.ref a, .int x, .int y] ∧ FA K H a F ok ∧ InF F x ∧ InF F y ∧ Evl.RetV (.int (subF F x y)) H Q
theorem len_minus (vs : List V) (H : Hp) (Q : VK) (E : XK) (h : sp_minus K vs H Q E) : vs.length = 3 := by obtain ⟨_, _, _, _, _, rfl, _⟩ := h; rfl
def t_minus (K : Fr) : TS := (tSeq (tDrop (tCall (sp_check_two K) [] E0 (tCons (tVar 0) (tCons (tVar 1) (tCons (tVar 2) tNil))))) (tRet (tMeth (He.ga K "Field") "taken" (sp_Field_dot_taken K) [] E0 (tVar 0) (tCons (tVar 1) (tCons (tVar 2) tNil)))))
theorem pure_minus (vs : List V) (H : Hp) (Q : VK) (E : XK) (h : sp_minus K vs H Q E) : t_minus K { nx := fun _ H' => Q .non H', rt := Q } (start ["field", "one", "other"] vs) H := by
  obtain ⟨a, F, ok, x, y, rfl, f, hx, hy, q⟩ := h
  have ff := f
  obtain ⟨c, o, dx, m, u, w, e, kvs, h1, _⟩ := f
  exact ⟨_, rfl, _, rfl, _, rfl, a, F, ok, x, y, rfl, ff, hx, hy, _, rfl, a, dx, _, rfl, h1, look_taken F.p m F.size u w e, _, rfl, _, rfl, a, F, ok, x, y, rfl, ff, q⟩
def sp_all_turned (K : Fr) : Sp := fun vs H Q _ => ∃ a F ok x, vs = [.ref a, .int x] ∧ FA K H a F ok ∧ InF F x ∧ Evl.RetL ((allT F x).map V.int) H Q
theorem len_all_turned (vs : List V) (H : Hp) (Q : VK) (E : XK) (h : sp_all_turned K vs H Q E) : vs.length = 2 := by obtain ⟨_, _, _, _, rfl, _⟩ := h; rfl
def t_all_turned (K : Fr) : TS := (tSeq (tDrop (tCall (sp_check_field K) [] E0 (tCons (tVar 0) tNil))) (tSeq (tDrop (tCall (sp_check_one K) [] E0 (tCons (tVar 0) (tCons (tVar 1) tNil)))) (tRet (tLc (iRng1 (tCons (tProp (He.ga K "Field") (sp_Field_dot_turns K) [] E0 (tVar 0)) tNil)) (gName 2) tYes (tMeth (He.ga K "Field") "turned" (sp_Field_dot_turned K) [] E0 (tVar 0) (tCons (tVar 1) (tCons (tVar 2) tNil))) [2]))))
theorem given_all (n : Nat) (v : Nat → Int) : Evl.given n (fun _ => true) (fun i => V.int (v i)) = ((List.range n).map v).map V.int := by
  unfold Evl.given
  rw [List.map_map, List.filter_eq_self.mpr (fun _ _ => rfl)]
  rfl
theorem pure_all_turned (vs : List V) (H : Hp) (Q : VK) (E : XK) (h : sp_all_turned K vs H Q E) : t_all_turned K { nx := fun _ H' => Q .non H', rt := Q } (start ["field", "one", "many"] vs) H := by
  obtain ⟨a, F, ok, x, rfl, f, hx, q⟩ := h
  have ff := f
  obtain ⟨c, o, dx, m, u, w, e, kvs, h1, _⟩ := f
  have htb := o.tb
  have lk := look_meth F.p m F.size u w e
  refine ⟨_, rfl, a, F, ok, rfl, ff, _, rfl, _, rfl, a, F, ok, x, rfl, ff, hx, ?_⟩
  dsimp only
  refine tRetI ?_
  refine lcRng1 (n := (F.t : Int)) (fun _ => true) (fun i => .int (turnF F x (i : Nat))) (fun Q q => ⟨_, rfl, a, dx, _, rfl, h1, a, F, ok, rfl, ff, q⟩) (by omega) (by omega) (fun x => rfl) (fun i _ => wvYes) (fun i hi _ H6 e6 Q6 q6 => ?_) (fun r H6 n6 e6 h6 => ?_)
  · exact ⟨_, rfl, a, dx, _, rfl, e6 _ _ h1, lk.2.2.2.2.2, _, rfl, _, rfl, a, F, ok, x, (i : Nat), rfl, ff.ex e6, hx, q6 H6 (Ex.refl _)⟩
  · rw [given_all] at h6
    exact q r H6 n6 e6 h6
theorem fold_in {F : FD} (o : F.Ok) {f : Int → Int → Int} (hf : ∀ x y, InF F (f x y)) : ∀ (l : List Int) (a : Int), InF F a → InF F (l.foldl f a)
  | [], a, h => h
  | x :: l, a, _ => fold_in o hf l _ (hf a x)
theorem norm_in {F : FD} (o : F.Ok) (x : Int) : InF F (normF F x) := fold_in o (mulF_InF o) _ _ (InF_one o)
theorem trace_in {F : FD} (o : F.Ok) (x : Int) : InF F (traceF F x) := fold_in o (addF_in o) _ _ (InF_zero o)
def sp_norm (K : Fr) : Sp := fun vs H Q _ => ∃ a F ok x, vs = [.ref a, .int x] ∧ FA K H a F ok ∧ InF F x ∧ Evl.RetV (.int (normF F x)) H Q
theorem len_norm (vs : List V) (H : Hp) (Q : VK) (E : XK) (h : sp_norm K vs H Q E) : vs.length = 2 := by obtain ⟨_, _, _, _, rfl, _⟩ := h; rfl
def t_norm (K : Fr) : TS := (tSeq (tAsg (tC (.int 1)) (gName 2)) (tSeq (tFor (iList K (tCall (sp_all_turned K) [] E0 (tCons (tVar 0) (tCons (tVar 1) tNil)))) (gName 3) (tAsg (tMeth (He.ga K "Field") "multiplied" (sp_Field_dot_multiplied K) [] E0 (tVar 0) (tCons (tVar 2) (tCons (tVar 3) tNil))) (gName 2))) (tRet (tVar 2))))
theorem pure_norm (vs : List V) (H : Hp) (Q : VK) (E : XK) (h : sp_norm K vs H Q E) : t_norm K { nx := fun _ H' => Q .non H', rt := Q } (start ["field", "one", "product", "factor"] vs) H := by
  obtain ⟨a, F, ok, x, rfl, f, hx, q⟩ := h
  have o := f.2.1
  refine tSeqI (tAsgI (tCI ?_))
  dsimp only
  refine tSeqI ?_
  dsimp only
  refine ⟨_, rfl, _, rfl, a, F, ok, x, rfl, f, hx, fun l H1 n1 e1 h1 => ?_⟩
  refine ⟨l, rfl, ⟨_, sqL h1⟩, for_list (xs := (allT F x).map V.int) (fun i σ H' => ∃ acc y, σ = [some (.ref a), some (.int x), some (.int acc), y] ∧ H' = H1 ∧ InF F acc ∧ ((allT F x).drop i).foldl (mulF F) acc = normF F x) ⟨1, none, rfl, rfl, InF_one o, rfl⟩ (fun i σ H' _ hP => by obtain ⟨_, _, _, rfl, _⟩ := hP; exact sqL h1) (fun i v σ H' gi hP => ?_) (fun σ H' hP => ?_)⟩
  · obtain ⟨acc, y, rfl, rfl, ha, hF⟩ := hP
    obtain ⟨rfl, hi⟩ := getD_of gi
    rw [drop_get hi, List.foldl_cons] at hF
    have f1 := f.ex e1
    have ff := f1
    obtain ⟨c, o, dx, m, u, w, e, kvs, h2, _⟩ := f1
    have lk := look_meth F.p m F.size u w e
    exact ⟨_, rfl, a, dx, _, rfl, h2, lk.2.2.2.1, _, rfl, _, rfl, a, F, ok, acc, _, rfl, ff, ha, allT_in o x _ (getD_mem hi), _, _, rfl, rfl, mulF_InF o _ _, hF⟩
  · obtain ⟨acc, y, rfl, rfl, ha, hF⟩ := hP
    rw [List.length_map, List.drop_length] at hF
    have hF : acc = normF F x := hF
    rw [hF]
    exact ⟨_, rfl, q H' e1⟩
def sp_trace (K : Fr) : Sp := fun vs H Q _ => ∃ a F ok x, vs = [.ref a, .int x] ∧ FA K H a F ok ∧ InF F x ∧ Evl.RetV (.int (traceF F x)) H Q
theorem len_trace (vs : List V) (H : Hp) (Q : VK) (E : XK) (h : sp_trace K vs H Q E) : vs.length = 2 := by obtain ⟨_, _, _, _, rfl, _⟩ := h; rfl
def t_trace (K : Fr) : TS := (tSeq (tAsg (tC (.int 0)) (gName 2)) (tSeq (tFor (iList K (tCall (sp_all_turned K) [] E0 (tCons (tVar 0) (tCons (tVar 1) tNil)))) (gName 3) (tAsg (tMeth (He.ga K "Field") "added" (sp_Field_dot_added K) [] E0 (tVar 0) (tCons (tVar 2) (tCons (tVar 3) tNil))) (gName 2))) (tRet (tVar 2))))
theorem pure_trace (vs : List V) (H : Hp) (Q : VK) (E : XK) (h : sp_trace K vs H Q E) : t_trace K { nx := fun _ H' => Q .non H', rt := Q } (start ["field", "one", "total", "part"] vs) H := by
  obtain ⟨a, F, ok, x, rfl, f, hx, q⟩ := h
  have o := f.2.1
  refine tSeqI (tAsgI (tCI ?_))
  dsimp only
  refine tSeqI ?_
  dsimp only
  refine ⟨_, rfl, _, rfl, a, F, ok, x, rfl, f, hx, fun l H1 n1 e1 h1 => ?_⟩
  refine ⟨l, rfl, ⟨_, sqL h1⟩, for_list (xs := (allT F x).map V.int) (fun i σ H' => ∃ acc y, σ = [some (.ref a), some (.int x), some (.int acc), y] ∧ Ex H1 H' ∧ ((allT F x).drop i).foldl (addF F) acc = traceF F x) ⟨0, none, rfl, Ex.refl _, rfl⟩ (fun i σ H' _ hP => by obtain ⟨_, _, _, e, _⟩ := hP; exact sqL (e _ _ h1)) (fun i v σ H' gi hP => ?_) (fun σ H' hP => ?_)⟩
  · obtain ⟨acc, y, rfl, eH, hF⟩ := hP
    obtain ⟨rfl, hi⟩ := getD_of gi
    rw [drop_get hi, List.foldl_cons] at hF
    have f1 := f.ex (Ex.trans e1 eH)
    have ff := f1
    obtain ⟨c, o, dx, m, u, w, e, kvs, h2, _⟩ := f1
    have lk := look_meth F.p m F.size u w e
    exact ⟨_, rfl, a, dx, _, rfl, h2, lk.2.2.1, _, rfl, _, rfl, a, F, ok, acc, _, rfl, ff, fun H2 e2 => ⟨_, _, rfl, Ex.trans eH e2, hF⟩⟩
  · obtain ⟨acc, y, rfl, eH, hF⟩ := hP
    rw [List.length_map, List.drop_length] at hF
    have hF : acc = traceF F x := hF
    rw [hF]
    exact ⟨_, rfl, q H' (Ex.trans e1 eH)⟩

end TP
/-! KL18 -/
set_option maxHeartbeats 4000000
namespace TP
open PySem PySem.Spec PyProof.Rows L2
local macro_rules | `(tactic| walk_at "s1") => `(tactic| first | refine ⟨_, rfl, ?_⟩ | refine ⟨_, _, rfl, rfl, ?_⟩ | refine ⟨rfl, ?_⟩ | refine iteT ?_ | refine iteF ?_)
local macro_rules | `(tactic| walk_at "st") => `(tactic| (repeat (walk_at "s1")))
local macro_rules | `(tactic| walk_at "sq") => `(tactic| first | assumption | exact sqL (by assumption) | exact sqT (by assumption) | (refine Ex.seq (by assumption) ?_; walk_at "sq") | (refine Ex.tup (by assumption) ?_; walk_at "sq"))
local macro_rules | `(tactic| walk_at "at") => `(tactic| first | assumption | (refine (show Ex _ _ by assumption) _ _ ?_; walk_at "at"))
local macro_rules | `(tactic| walk_at "sl") => `(tactic| ((try dsimp only); refine tSeqI ?_; (try dsimp only)))
variable {K : Fr}
theorem neT (x : Int) : (!decide (V.int x = V.int x)) = false := by simp
theorem eqT (x : Int) : decide (V.int x = V.int x) = true := by simp
theorem FA.ins {H : Hp} {a : Addr} {F : FD} {ok : Addr → Prop} (h : FA K H a F ok) : ∃ dx fs, H a = some (.ins (He.ga K "Field") dx fs) := by
  obtain ⟨c, o, dx, m, u, w, x, kvs, h1, _⟩ := h
  exact ⟨dx, _, h1⟩
section
variable {σ : L2.St} {H : Hp} {D : Ends} {c a b : TT} {t u : TS} {te : TE} {Q : Bool → Hp → Prop}
theorem tIfSI (h : c σ H fun b H1 => if b = true then t D σ H1 else u D σ H1) : tIfS c t u D σ H := h
theorem tOrI (h : a σ H fun k H1 => if k = true then Q true H1 else b σ H1 Q) : tOr a b σ H Q := h
theorem tNextI (h : D.nx σ H) : tNext D σ H := h
theorem tTestI (h : te σ H fun x H' => ∃ k, x = .bl k ∧ Q k H') : tTest te σ H Q := h
end
/-! ### quotients -/
def divF (F : FD) (x y : Int) : Int := if x = 0 then 0 else F.pows.getD (((lgF F x : Int) - (lgF F y : Int)) % (F.pows.length : Int)).toNat 0
theorem div_mul {F : FD} (o : F.Ok) {x y : Int} (hx : InF F x) (hy : InF F y) (n : y ≠ 0) : mulF F (divF F x y) y = x := by
  by_cases c : x = 0
  · unfold divF
    rw [if_pos c, mulF_0x, c]
  · unfold divF
    rw [if_neg c]
    have hp := o.pos
    have h0 := Int.emod_nonneg ((lgF F x : Int) - (lgF F y : Int)) (show (F.pows.length : Int) ≠ 0 by omega)
    have h1 := Int.emod_lt_of_pos ((lgF F x : Int) - (lgF F y : Int)) (show (0 : Int) < F.pows.length by omega)
    generalize hk : (((lgF F x : Int) - (lgF F y : Int)) % (F.pows.length : Int)) = k at h0 h1
    have e : F.pows.getD k.toNat 0 = powF F k.toNat := by unfold powF; rw [Nat.mod_eq_of_lt (by omega)]
    rw [e, mulF_ne F (powF_ne o _) n, lg_powF o]
    refine Eq.trans (powF_cong F ?_) (powF_lg o hx c)
    rw [Nat.mod_add_mod]
    have h2 : ((k.toNat + lgF F y : Nat) : Int) % (F.pows.length : Int) = (lgF F x : Int) % (F.pows.length : Int) := by
      rw [Int.natCast_add, show ((k.toNat : Nat) : Int) = k by omega, ← hk, Int.emod_add_emod, Int.sub_add_cancel]
    have h3 := h2
    rw [← Int.natCast_emod, ← Int.natCast_emod] at h3
    exact Int.ofNat.inj h3
theorem divF_in {F : FD} (o : F.Ok) (x y : Int) : InF F (divF F x y) := by
  unfold divF
  split
  · exact InF_zero o
  · have hp := o.pos
    have h0 := Int.emod_nonneg ((lgF F x : Int) - (lgF F y : Int)) (show (F.pows.length : Int) ≠ 0 by omega)
    have h1 := Int.emod_lt_of_pos ((lgF F x : Int) - (lgF F y : Int)) (show (0 : Int) < F.pows.length by omega)
    generalize (((lgF F x : Int) - (lgF F y : Int)) % (F.pows.length : Int)) = k at h0 h1
    have e : F.pows.getD k.toNat 0 = powF F k.toNat := by unfold powF; rw [Nat.mod_eq_of_lt (by omega)]
    rw [e]
    exact powF_InF o _
theorem mul_comm' (F : FD) (x y : Int) : mulF F x y = mulF F y x := by
  by_cases n : x = 0
  · rw [n, mulF_0x, mulF_x0]
  · by_cases k : y = 0
    · rw [k, mulF_0x, mulF_x0]
    · rw [mulF_ne F n k, mulF_ne F k n, Nat.add_comm]
theorem zip_self (f : Int → Int → Int) (h : ∀ a, f a a = 0) (p : Int) : ∀ l : List Int, hornP p ((List.zip l l).map fun z => f z.1 z.2) = 0
  | [] => rfl
  | x :: l => by
    rw [List.zip_cons_cons, List.map_cons]
    show hornP p _ * p + f x x = 0
    rw [zip_self f h p l, h x]
    simp
theorem sub_self {F : FD} (o : F.Ok) (x : Int) : subF F x x = 0 := by
  have ht := o.tb
  have hl : (difD F x x).length = F.t := by unfold difD; rw [List.length_map, List.length_zip, figs_len, Nat.min_self]
  have e : subF F x x = hornP F.p (difD F x x) := toldP_horn F.p (difD F x x) (F.t - 1) (by rw [hl]; omega)
  rw [e]
  exact zip_self (fun a b => (a - b) % F.p) (fun a => by rw [Int.sub_self, Int.zero_emod]) F.p _
theorem dgetF2 {F : FD} {e : Addr} {H : Hp} {kvs : List (Key × V)} {x : Int} (o : F.Ok) (h5 : H e = some (.dK kvs)) (h6 : PlacesIn kvs F.pows) (hx : InF F x) (n : x ≠ 0) : DGet H e (.int x) (some (.int (lgF F x : Nat))) := dgetF o h5 h6 hx n
def sp_Field_dot_divided (K : Fr) : Sp := fun vs H Q _ => ∃ a F ok x y, vs = [.ref a, .int x, .int y] ∧ FA K H a F ok ∧ InF F x ∧ InF F y ∧ y ≠ 0 ∧ Q (.int (divF F x y)) H
theorem len_Field_dot_divided (vs : List V) (H : Hp) (Q : VK) (E : XK) (h : sp_Field_dot_divided K vs H Q E) : vs.length = 3 := by obtain ⟨_, _, _, _, _, rfl, _⟩ := h; rfl
def t_Field_dot_divided (K : Fr) : TS := (tSeq (tIfS (tTest (tOp rEq (tVar 1) (tC (.int 0)))) (tRet (tC (.int 0))) tNext) (tRet (tOp (rIxL K) (tFld K (tVar 0) "_powers") (tOp rModI (tOp rSubI (tDGet (tFld K (tVar 0) "_exponents") (tVar 1)) (tDGet (tFld K (tVar 0) "_exponents") (tVar 2))) (tCB (rLenA K) (tCons (tFld K (tVar 0) "_powers") tNil))))))
theorem pure_Field_dot_divided (vs : List V) (H : Hp) (Q : VK) (E : XK) (h : sp_Field_dot_divided K vs H Q E) : t_Field_dot_divided K { nx := fun _ H' => Q .non H', rt := Q } (start ["self", "one", "other"] vs) H := by
  obtain ⟨a, F, ok, x, y, rfl, ⟨c, o, dx, m, u, w, e, kvs, h1, h2, h3, h4, h5, h6, _⟩, hx, hy, ny, q⟩ := h
  refine ⟨_, rfl, rfl, _, rfl, ?_⟩
  rw [dec_int0]
  unfold divF at q
  by_cases cx : x = 0
  · rw [if_pos cx] at q
    rw [decide_eq_true cx]
    exact iteT q
  · rw [if_neg cx] at q
    rw [decide_eq_false cx]
    refine iteF ?_
    have hpos := o.pos
    have k0 := Int.emod_nonneg ((lgF F x : Int) - (lgF F y : Int)) (show (F.pows.length : Int) ≠ 0 by omega)
    have k1 := Int.emod_lt_of_pos ((lgF F x : Int) - (lgF F y : Int)) (show (0 : Int) < F.pows.length by omega)
    refine ⟨_, rfl, a, _, dx, _, _, rfl, h1, c.cls, c.n5, rfl, _, rfl, a, _, dx, _, _, rfl, h1, c.cls, c.n6, rfl, _, rfl, e, _, rfl, dgetF o h5 h6 hx cx, _, rfl, a, _, dx, _, _, rfl, h1, c.cls, c.n6, rfl, _, rfl, e, _, rfl, dgetF o h5 h6 hy ny, _, _, rfl, rfl, _, rfl, a, _, dx, _, _, rfl, h1, c.cls, c.n5, rfl, w, _, rfl, .inl (sqL h4), _, _, rfl, rfl, ?_, w, _, _, _, rfl, rfl, sqL h4, ?_, q⟩
    · rw [List.length_map]; omega
    · rw [List.length_map]
      generalize ((lgF F x : Int) - (lgF F y : Int)) % (F.pows.length : Int) = k at k0 k1
      have z := at_ints (ns := F.pows) (j := k.toNat) (by omega)
      rw [show ((k.toNat : Nat) : Int) = k by omega] at z
      exact z

def sp_Field_dot_prime (K : Fr) : Sp := fun vs H Q _ => ∃ a F ok, vs = [.ref a] ∧ FA K H a F ok ∧ Q (.int F.p) H
theorem len_Field_dot_prime (vs : List V) (H : Hp) (Q : VK) (E : XK) (h : sp_Field_dot_prime K vs H Q E) : vs.length = 1 := by obtain ⟨_, _, _, rfl, _⟩ := h; rfl
def t_Field_dot_prime (K : Fr) : TS := (tRet (tFld K (tVar 0) "_prime"))
theorem pure_Field_dot_prime (vs : List V) (H : Hp) (Q : VK) (E : XK) (h : sp_Field_dot_prime K vs H Q E) : t_Field_dot_prime K { nx := fun _ H' => Q .non H', rt := Q } (start ["self"] vs) H := by
  obtain ⟨a, F, ok, rfl, ⟨c, o, dx, m, u, w, e, kvs, h1, h2, h3, h4, h5, h6, _⟩, q⟩ := h
  exact ⟨_, rfl, a, _, dx, _, _, rfl, h1, c.cls, c.n1, rfl, q⟩
/-! ### a quotient, or an error -/
def sp_over (K : Fr) : Sp := fun vs H Q E => ∃ a F ok x y, vs = [.ref a, .int x, .int y] ∧ FA K H a F ok ∧ InF F x ∧ InF F y ∧ (y ≠ 0 → Q (.int (divF F x y)) H) ∧ (y = 0 → E (.ref (He.ga K "DividedByNought")) none H)
theorem len_over (vs : List V) (H : Hp) (Q : VK) (E : XK) (h : sp_over K vs H Q E) : vs.length = 3 := by obtain ⟨_, _, _, _, _, rfl, _⟩ := h; rfl
def t_over (K : Fr) (E : XK) : TS := (tSeq (tDrop (tCall (sp_check_two K) [] E0 (tCons (tVar 0) (tCons (tVar 1) (tCons (tVar 2) tNil))))) (tSeq (tIfS (tTest (tOp rEq (tVar 2) (tC (.int 0)))) (tRaise E (.ref (He.ga K "DividedByNought"))) tNext) (tRet (tMeth (He.ga K "Field") "divided" (sp_Field_dot_divided K) [] E0 (tVar 0) (tCons (tVar 1) (tCons (tVar 2) tNil))))))
theorem look_div (p : Int) (m : Addr) (s : Int) (u w e : Addr) : List.lookup ("divided" : Str) (fFs p m s u w e) = none := rfl
theorem pure_over (vs : List V) (H : Hp) (Q : VK) (E : XK) (h : sp_over K vs H Q E) : t_over K E { nx := fun _ H' => Q .non H', rt := Q } (start ["field", "one", "other"] vs) H := by
  obtain ⟨a, F, ok, x, y, rfl, f, hx, hy, q1, q2⟩ := h
  have ff := f
  obtain ⟨c, o, dx, m, u, w, e, kvs, h1, _⟩ := f
  refine ⟨_, rfl, _, rfl, _, rfl, a, F, ok, x, y, rfl, ff, hx, hy, _, rfl, rfl, _, rfl, ?_⟩
  rw [dec_int0]
  by_cases cy : y = 0
  · rw [decide_eq_true cy]
    exact iteT (q2 cy)
  · rw [decide_eq_false cy]
    exact iteF ⟨_, rfl, a, dx, _, rfl, h1, look_div F.p m F.size u w e, _, rfl, _, rfl, a, F, ok, x, y, rfl, ff, hx, hy, cy, q1 cy⟩
def sp_law_is_refused (K : Fr) : Sp := fun vs H Q _ => ∃ a F ok x, vs = [.ref a, .int x] ∧ PySem.W.exmOne K (.ref (He.ga K "DividedByNought")) (.ref (He.ga K "DividedByNought")) = some true ∧ FA K H a F ok ∧ InF F x ∧ Q (.bl true) H
theorem len_law_is_refused (vs : List V) (H : Hp) (Q : VK) (E : XK) (h : sp_law_is_refused K vs H Q E) : vs.length = 2 := by obtain ⟨_, _, _, _, rfl, _⟩ := h; rfl
def t_law_is_refused (K : Fr) : TS := (tSeq (tAsg (tC (.int 0)) (gName 2)) (tSeq (fun D σ H => (fun W => tDrop (tCallNS 3 (sp_over K) (permV [2, 1, 0]) (WE W) (tCons (tC (.int 0)) (tCons (tVar 1) (tCons (tVar 0) tNil))))) (wOnly K (.ref (He.ga K "DividedByNought")) (fun _ _ _ => (tAsg (tC (.int 1)) (gName 2))) (fun _ _ _ _ => False) D) D σ H) (tRet (tOp rEq (tVar 2) (tC (.int 1))))))
theorem pure_law_is_refused (vs : List V) (H : Hp) (Q : VK) (E : XK) (h : sp_law_is_refused K vs H Q E) : t_law_is_refused K { nx := fun _ H' => Q .non H', rt := Q } (start ["_law_field_here", "_law_one", "_law_refused"] vs) H := by
  obtain ⟨a, F, ok, x, rfl, ex1, f, hx, q⟩ := h
  have o := f.2.1
  refine ⟨_, rfl, _, rfl, rfl, a, F, ok, x, 0, rfl, f, hx, InF_zero o, fun z => absurd rfl z, fun _ => ⟨true, ex1, fun _ d _ => ?_, fun z => nomatch z⟩⟩
  refine ⟨_, rfl, rfl, ?_⟩
  rw [eqT]
  exact q
/-! ### sums and products in any sequence and bracket -/
section
variable {F : FD}
theorem figs_add (o : F.Ok) (x y : Int) (i : Nat) : (figs F.p F.t (addF F x y)).getD i 0 = ((figs F.p F.t x).getD i 0 + (figs F.p F.t y).getD i 0) % F.p := by
  have h := figs_horn (pp o) _ (cf_sum o x y)
  rw [sumD_len] at h
  rw [addF_horn o, h]
  unfold sumD
  by_cases c : i < F.t
  · rw [List.getD_eq_getElem?_getD, List.getD_eq_getElem?_getD, List.getD_eq_getElem?_getD, List.getElem?_map, List.getElem?_eq_getElem (l := List.zip _ _) (by rw [List.length_zip, figs_len, figs_len]; omega), List.getElem_zip, List.getElem?_eq_getElem (by rw [figs_len]; exact c), List.getElem?_eq_getElem (by rw [figs_len]; exact c)]
    rfl
  · rw [List.getD_eq_getElem?_getD, List.getD_eq_getElem?_getD, List.getD_eq_getElem?_getD, List.getElem?_eq_none (by rw [List.length_map, List.length_zip, figs_len, figs_len]; omega), List.getElem?_eq_none (l := figs F.p F.t x) (by rw [figs_len]; omega), List.getElem?_eq_none (l := figs F.p F.t y) (by rw [figs_len]; omega)]
    show (0 : Int) = (0 + 0) % F.p
    simp
theorem figs_eq (o : F.Ok) {x y : Int} (hx : InF F x) (hy : InF F y) (h : ∀ i, (figs F.p F.t x).getD i 0 = (figs F.p F.t y).getD i 0) : x = y := by
  have e : figs F.p F.t x = figs F.p F.t y := ext_getD (by rw [figs_len, figs_len]) fun i _ => h i
  rw [← horn_figs (pp o) F.t x hx.1 hx.2, ← horn_figs (pp o) F.t y hy.1 hy.2, e]

theorem figs_in (o : F.Ok) (x : Int) (i : Nat) : 0 ≤ (figs F.p F.t x).getD i 0 ∧ (figs F.p F.t x).getD i 0 < F.p := by
  have hp := pp o
  by_cases c : i < F.t
  · exact figs_cf hp F.t x _ (getD_mem (by rw [figs_len]; exact c))
  · rw [List.getD_eq_getElem?_getD, List.getElem?_eq_none (by rw [figs_len]; omega)]
    show 0 ≤ (0 : Int) ∧ (0 : Int) < F.p
    omega
theorem figs_sub (o : F.Ok) (x y : Int) (i : Nat) : (figs F.p F.t (subF F x y)).getD i 0 = ((figs F.p F.t x).getD i 0 - (figs F.p F.t y).getD i 0) % F.p := by
  have ht := o.tb
  have hl : (difD F x y).length = F.t := by unfold difD; rw [List.length_map, List.length_zip, figs_len, figs_len, Nat.min_self]
  have hc : Cf F.p (difD F x y) := fun v hv => by
    obtain ⟨z, _, rfl⟩ := List.mem_map.mp hv
    exact ⟨Int.emod_nonneg _ (by have := pp o; omega), Int.emod_lt_of_pos _ (pp o)⟩
  have e : subF F x y = hornP F.p (difD F x y) := toldP_horn F.p (difD F x y) (F.t - 1) (by rw [hl]; omega)
  have h := figs_horn (pp o) _ hc
  rw [hl] at h
  rw [e, h]
  unfold difD
  by_cases c : i < F.t
  · rw [List.getD_eq_getElem?_getD, List.getD_eq_getElem?_getD, List.getD_eq_getElem?_getD, List.getElem?_map, List.getElem?_eq_getElem (l := List.zip _ _) (by rw [List.length_zip, figs_len, figs_len]; omega), List.getElem_zip, List.getElem?_eq_getElem (by rw [figs_len]; exact c), List.getElem?_eq_getElem (by rw [figs_len]; exact c)]
    rfl
  · rw [List.getD_eq_getElem?_getD, List.getD_eq_getElem?_getD, List.getD_eq_getElem?_getD, List.getElem?_eq_none (by rw [List.length_map, List.length_zip, figs_len, figs_len]; omega), List.getElem?_eq_none (l := figs F.p F.t x) (by rw [figs_len]; omega), List.getElem?_eq_none (l := figs F.p F.t y) (by rw [figs_len]; omega)]
    show (0 : Int) = (0 - 0) % F.p
    simp
theorem add_assoc' (o : F.Ok) (a b c : Int) : addF F (addF F a b) c = addF F a (addF F b c) := by
  refine figs_eq o (addF_in o _ _) (addF_in o _ _) fun i => ?_
  rw [figs_add o, figs_add o, figs_add o, figs_add o, Int.emod_add_emod, Int.add_comm ((figs F.p F.t a).getD i 0) (_ % F.p), Int.emod_add_emod]
  congr 1
  omega
theorem sub_add' (o : F.Ok) {a : Int} (b : Int) (ha : InF F a) : addF F (subF F a b) b = a := by
  refine figs_eq o (addF_in o _ _) ha fun i => ?_
  rw [figs_add o, figs_sub o, Int.emod_add_emod, Int.sub_add_cancel]
  have := figs_in o a i
  exact Int.emod_eq_of_lt this.1 this.2
theorem sub_rev (o : F.Ok) (a b : Int) : subF F a b = subF F 0 (subF F b a) := by
  refine figs_eq o (subF_in o _ _) (subF_in o _ _) fun i => ?_
  rw [figs_sub o, figs_sub o, figs_sub o, figs_0]
  have e : (List.replicate F.t (0 : Int)).getD i 0 = 0 := by
    rw [List.getD_eq_getElem?_getD, List.getElem?_replicate]
    split <;> rfl
  rw [e]
  generalize (figs F.p F.t a).getD i 0 = u
  generalize (figs F.p F.t b).getD i 0 = v
  have h := Int.mul_ediv_add_emod (v - u) F.p
  have e2 : 0 - (v - u) % F.p = (u - v) + F.p * ((v - u) / F.p) := by omega
  rw [e2, Int.add_mul_emod_self_left]
theorem mul_assoc' (o : F.Ok) (a b c : Int) : mulF F (mulF F a b) c = mulF F a (mulF F b c) := by
  by_cases ha : a = 0
  · subst ha; rw [mulF_0x, mulF_0x, mulF_0x]
  · by_cases hb : b = 0
    · subst hb; rw [mulF_x0, mulF_0x, mulF_x0]
    · by_cases hc : c = 0
      · subst hc; rw [mulF_x0, mulF_x0, mulF_x0]
      · rw [mulF_ne F ha hb, mulF_ne F hb hc, mulF_ne F (powF_ne o _) hc, mulF_ne F ha (powF_ne o _), lg_powF o, lg_powF o]
        refine powF_cong F ?_
        rw [Nat.mod_add_mod, Nat.add_mod_mod]
        congr 1
        omega
theorem distrib (T : Tab F) {a b c : Int} (ha : InF F a) (hb : InF F b) (hc : InF F c) : mulF F a (addF F b c) = addF F (mulF F a b) (mulF F a c) := by
  have o := T.ok
  have s := M_right o a _ _ _ _ _ (addF_lin o b c)
  have e1 : M F a (addF F b c) = mulF F a (addF F b c) := M_mul T ha (addF_in o b c)
  have e2 : M F a b = mulF F a b := M_mul T ha hb
  have e3 : M F a c = mulF F a c := M_mul T ha hc
  have s : LinF F 1 1 (M F a (addF F b c)) (M F a b) (M F a c) := s
  rw [e1, e2, e3] at s
  exact Lin.uniq o (mulF_InF o _ _) (addF_in o _ _) s (addF_lin o _ _)
def sumN (F : FD) (a : Int) : Nat → Int
  | 0 => 0
  | k + 1 => addF F (sumN F a k) a
theorem figs_sumN (o : F.Ok) (a : Int) (i : Nat) : ∀ k : Nat, (figs F.p F.t (sumN F a k)).getD i 0 = ((k : Int) * (figs F.p F.t a).getD i 0) % F.p
  | 0 => by
    show (figs F.p F.t 0).getD i 0 = _
    rw [figs_0]
    have e : (List.replicate F.t (0 : Int)).getD i 0 = 0 := by
      rw [List.getD_eq_getElem?_getD, List.getElem?_replicate]
      split <;> rfl
    rw [e]
    simp
  | k + 1 => by
    show (figs F.p F.t (addF F (sumN F a k) a)).getD i 0 = _
    rw [figs_add o, figs_sumN o a i k, Int.emod_add_emod]
    congr 1
    rw [Int.natCast_add, Int.add_mul]
    simp
theorem sumN_in (o : F.Ok) (a : Int) : ∀ k : Nat, InF F (sumN F a k)
  | 0 => InF_zero o
  | _ + 1 => addF_in o _ _
theorem sumN_p (o : F.Ok) (a : Int) : sumN F a F.p.toNat = 0 := by
  refine figs_eq o (sumN_in o a _) (InF_zero o) fun i => ?_
  rw [figs_sumN o, figs_0, ← p_nat o, Int.mul_emod_right]
  rw [List.getD_eq_getElem?_getD, List.getElem?_replicate]
  split <;> rfl
theorem div_of_mul (o : F.Ok) {a b : Int} (ha : InF F a) (hb : InF F b) (n : b ≠ 0) : divF F (mulF F a b) b = a := by
  by_cases c : a = 0
  · subst c; rw [mulF_0x]; unfold divF; rw [if_pos rfl]
  · have hp := o.pos
    rw [mulF_ne F c n]
    unfold divF
    rw [if_neg (powF_ne o _), lg_powF o]
    have hl := lgF_lt o ha c
    have e : (((lgF F a + lgF F b) % F.pows.length : Nat) : Int) - (lgF F b : Int) = (lgF F a : Int) - F.pows.length * (((lgF F a + lgF F b) / F.pows.length : Nat) : Int) := by
      have h := Nat.div_add_mod (lgF F a + lgF F b) F.pows.length
      have h2 : (F.pows.length : Int) * (((lgF F a + lgF F b) / F.pows.length : Nat) : Int) + (((lgF F a + lgF F b) % F.pows.length : Nat) : Int) = (lgF F a : Int) + (lgF F b : Int) := by
        rw [← Int.natCast_mul, ← Int.natCast_add, h]
        rfl
      omega
    rw [e, Int.sub_mul_emod_self_left, Int.emod_eq_of_lt (by omega) (by omega)]
    have z := powF_lg o ha c
    unfold powF at z
    rw [Nat.mod_eq_of_lt hl] at z
    exact z
end
def sp_law_three_right (K : Fr) : Sp := fun vs H Q _ => ∃ (a : Addr) (F : FD) (ok : Addr → Prop) (x y z : Int), vs = [.ref a, .int x, .int y, .int z] ∧ Tab F ∧ FA K H a F ok ∧ InF F x ∧ InF F y ∧ InF F z ∧ Evl.RetV (.bl true) H Q
theorem len_law_three_right (vs : List V) (H : Hp) (Q : VK) (E : XK) (h : sp_law_three_right K vs H Q E) : vs.length = 4 := by obtain ⟨_, _, _, _, _, _, rfl, _⟩ := h; rfl
def t_law_three_right (K : Fr) : TS := (tSeq (tIfS (tTest (tOp rNe (tCall (sp_plus K) [] E0 (tCons (tVar 0) (tCons (tCall (sp_plus K) [] E0 (tCons (tVar 0) (tCons (tVar 1) (tCons (tVar 2) tNil)))) (tCons (tVar 3) tNil)))) (tCall (sp_plus K) [] E0 (tCons (tVar 0) (tCons (tVar 1) (tCons (tCall (sp_plus K) [] E0 (tCons (tVar 0) (tCons (tVar 2) (tCons (tVar 3) tNil)))) tNil)))))) (tRet (tC (.bl false))) tNext) (tSeq (tIfS (tTest (tOp rNe (tCall (sp_times K) [] E0 (tCons (tVar 0) (tCons (tCall (sp_times K) [] E0 (tCons (tVar 0) (tCons (tVar 1) (tCons (tVar 2) tNil)))) (tCons (tVar 3) tNil)))) (tCall (sp_times K) [] E0 (tCons (tVar 0) (tCons (tVar 1) (tCons (tCall (sp_times K) [] E0 (tCons (tVar 0) (tCons (tVar 2) (tCons (tVar 3) tNil)))) tNil)))))) (tRet (tC (.bl false))) tNext) (tSeq (tIfS (tTest (tOp rNe (tCall (sp_times K) [] E0 (tCons (tVar 0) (tCons (tVar 1) (tCons (tCall (sp_plus K) [] E0 (tCons (tVar 0) (tCons (tVar 2) (tCons (tVar 3) tNil)))) tNil)))) (tCall (sp_plus K) [] E0 (tCons (tVar 0) (tCons (tCall (sp_times K) [] E0 (tCons (tVar 0) (tCons (tVar 1) (tCons (tVar 2) tNil)))) (tCons (tCall (sp_times K) [] E0 (tCons (tVar 0) (tCons (tVar 1) (tCons (tVar 3) tNil)))) tNil)))))) (tRet (tC (.bl false))) tNext) (tSeq (tIfS (tOr (tTest (tOp rNe (tCall (sp_plus K) [] E0 (tCons (tVar 0) (tCons (tCall (sp_minus K) [] E0 (tCons (tVar 0) (tCons (tVar 1) (tCons (tVar 2) tNil)))) (tCons (tVar 2) tNil)))) (tVar 1))) (tTest (tOp rNe (tCall (sp_times K) [] E0 (tCons (tVar 0) (tCons (tVar 1) (tCons (tVar 2) tNil)))) (tCall (sp_times K) [] E0 (tCons (tVar 0) (tCons (tVar 2) (tCons (tVar 1) tNil))))))) (tRet (tC (.bl false))) tNext) (tSeq (tAsg (tC (.int 0)) (gName 4)) (tSeq (tFor (iRng1 (tCons (tProp (He.ga K "Field") (sp_Field_dot_prime K) [] E0 (tVar 0)) tNil)) (gName 5) (tAsg (tCall (sp_plus K) [] E0 (tCons (tVar 0) (tCons (tVar 4) (tCons (tVar 1) tNil)))) (gName 4))) (tSeq (tIfS (tOr (tTest (tOp rNe (tVar 4) (tC (.int 0)))) (tTest (tOp rNe (tCall (sp_minus K) [] E0 (tCons (tVar 0) (tCons (tVar 1) (tCons (tVar 2) tNil)))) (tCall (sp_minus K) [] E0 (tCons (tVar 0) (tCons (tC (.int 0)) (tCons (tCall (sp_minus K) [] E0 (tCons (tVar 0) (tCons (tVar 2) (tCons (tVar 1) tNil)))) tNil))))))) (tRet (tC (.bl false))) tNext) (tRet (tOrV (tOp rEq (tVar 2) (tC (.int 0))) (tOp rEq (tCall (sp_over K) [] E0 (tCons (tVar 0) (tCons (tCall (sp_times K) [] E0 (tCons (tVar 0) (tCons (tVar 1) (tCons (tVar 2) tNil)))) (tCons (tVar 2) tNil)))) (tVar 1)))))))))))
theorem ifT2 {b : Bool} {A B : Prop} (e : b = true) (h : A) : if b = true then A else B := by
  rw [e, if_pos rfl]
  exact h
theorem ifF {b : Bool} {A B : Prop} (e : b = false) (h : B) : if b = true then A else B := by
  rw [e, if_neg Bool.false_ne_true]
  exact h
theorem pure_law_three_right (vs : List V) (H : Hp) (Q : VK) (E : XK) (h : sp_law_three_right K vs H Q E) : t_law_three_right K { nx := fun _ H' => Q .non H', rt := Q } (start ["_law_field_here", "_law_one", "_law_two", "_law_three", "_law_total", "_law_turn"] vs) H := by
  obtain ⟨a, F, ok, x, y, z, rfl, T, f, hx, hy, hz, q⟩ := h
  have o := T.ok
  have hpl := o.two
  refine ⟨_, rfl, _, rfl, _, rfl, _, rfl, a, F, ok, x, y, rfl, f, hx, hy, fun H1 e1 => ?_⟩
  have f1 := f.ex e1
  refine ⟨_, rfl, a, F, ok, _, z, rfl, f1, addF_in o _ _, hz, fun H2 e2 => ?_⟩
  have f2 := f1.ex e2
  refine ⟨_, rfl, _, rfl, _, rfl, _, rfl, _, rfl, a, F, ok, y, z, rfl, f2, hy, hz, fun H3 e3 => ?_⟩
  have f3 := f2.ex e3
  refine ⟨a, F, ok, x, _, rfl, f3, hx, addF_in o _ _, fun H4 e4 => ⟨rfl, _, rfl, ?_⟩⟩
  rw [add_assoc' o, neT]
  have f4 := f3.ex e4
  refine iteF ⟨_, rfl, _, rfl, _, rfl, _, rfl, a, F, ok, x, y, rfl, f4, hx, hy, _, rfl, a, F, ok, _, z, rfl, f4, mulF_InF o _ _, hz, _, rfl, _, rfl, _, rfl, _, rfl, _, rfl, a, F, ok, y, z, rfl, f4, hy, hz, a, F, ok, x, _, rfl, f4, hx, mulF_InF o _ _, rfl, _, rfl, ?_⟩
  rw [mul_assoc' o, neT]
  refine iteF ⟨_, rfl, _, rfl, _, rfl, _, rfl, _, rfl, a, F, ok, y, z, rfl, f4, hy, hz, fun H5 e5 => ?_⟩
  have f5 := f4.ex e5
  refine ⟨a, F, ok, x, _, rfl, f5, hx, addF_in o _ _, _, rfl, _, rfl, _, rfl, _, rfl, a, F, ok, x, y, rfl, f5, hx, hy, _, rfl, _, rfl, _, rfl, a, F, ok, x, z, rfl, f5, hx, hz, a, F, ok, _, _, rfl, f5, mulF_InF o _ _, mulF_InF o _ _, fun H6 e6 => ⟨rfl, _, rfl, ?_⟩⟩
  rw [distrib T hx hy hz, neT]
  have f6 := f5.ex e6
  refine iteF ⟨_, rfl, _, rfl, _, rfl, _, rfl, a, F, ok, x, y, rfl, f6, hx, hy, fun H7 e7 => ⟨_, rfl, a, F, ok, _, y, rfl, f6.ex e7, subF_in o _ _, hy, fun H8 e8 => ⟨_, rfl, rfl, _, rfl, ?_⟩⟩⟩
  rw [sub_add' o y hx, neT]
  have f8 := f6.ex (Ex.trans e7 e8)
  refine iteF ⟨_, rfl, _, rfl, _, rfl, a, F, ok, x, y, rfl, f8, hx, hy, _, rfl, _, rfl, _, rfl, a, F, ok, y, x, rfl, f8, hy, hx, rfl, _, rfl, ?_⟩
  rw [mul_comm' F y x, neT]
  obtain ⟨dx, fs, hi⟩ := f8.ins
  refine iteF (tNextI ?_)
  dsimp only
  refine tSeqI (tAsgI (tCI ?_))
  dsimp only
  refine tSeqI ?_
  dsimp only
  refine forR1 (n := F.p) (fun i σ H' => ∃ y5, σ = [some (.ref a), some (.int x), some (.int y), some (.int z), some (.int (sumN F x i)), y5] ∧ Ex H8 H') (fun Q q => ⟨_, rfl, a, dx, fs, rfl, hi, a, F, ok, rfl, f8, q⟩) (by omega) ⟨none, rfl, Ex.refl _⟩ (fun i σ H' hi' hP => ?_) (fun σ H' hP => ?_)
  · obtain ⟨y5, rfl, eH⟩ := hP
    exact ⟨_, rfl, _, rfl, _, rfl, a, F, ok, _, x, rfl, f8.ex eH, sumN_in o x i, hx, fun H9 e9 => ⟨some (.int (i : Nat)), rfl, Ex.trans eH e9⟩⟩
  · obtain ⟨y5, rfl, eH⟩ := hP
    rw [sumN_p o]
    have f9 := f8.ex eH
    refine ⟨_, rfl, rfl, _, rfl, ?_⟩
    rw [neT]
    refine iteF ⟨_, rfl, _, rfl, _, rfl, a, F, ok, x, y, rfl, f9, hx, hy, fun H10 e10 => ⟨_, rfl, _, rfl, _, rfl, _, rfl, a, F, ok, y, x, rfl, f9.ex e10, hy, hx, fun H11 e11 => ⟨a, F, ok, 0, _, rfl, f9.ex (Ex.trans e10 e11), InF_zero o, subF_in o _ _, fun H12 e12 => ⟨rfl, _, rfl, ?_⟩⟩⟩⟩
    rw [← sub_rev o, neT]
    have f12 := f9.ex (Ex.trans e10 (Ex.trans e11 e12))
    have eAll : Ex H H12 := Ex.trans e1 (Ex.trans e2 (Ex.trans e3 (Ex.trans e4 (Ex.trans e5 (Ex.trans e6 (Ex.trans e7 (Ex.trans e8 (Ex.trans eH (Ex.trans e10 (Ex.trans e11 e12))))))))))
    refine iteF ⟨_, rfl, rfl, _, rfl, ?_⟩
    rw [dec_int0]
    by_cases cy : y = 0
    · rw [decide_eq_true cy]
      exact iteT (q H12 eAll)
    · rw [decide_eq_false cy]
      refine iteF ⟨_, rfl, _, rfl, _, rfl, _, rfl, a, F, ok, x, y, rfl, f12, hx, hy, _, rfl, a, F, ok, _, y, rfl, f12, mulF_InF o _ _, hy, fun _ => ⟨_, rfl, rfl, ?_⟩, fun zz => absurd zz cy⟩
      rw [div_of_mul o hx hy cy, eqT]
      exact q H12 eAll
/-! ### all elements of a small field -/
def rng (F : FD) : List Int := (List.range F.size.toNat).map fun (i : Nat) => (i : Int)
def ordGo (F : FD) (o : Int) : Nat → Int → Int → Int × Int
  | 0, h, m => (h, m)
  | n + 1, h, m => if h = 1 then ordGo F o n h m else ordGo F o n (mulF F h o) (m + 1)
theorem ordGo_succ (F : FD) (o : Int) (n : Nat) (h m : Int) : ordGo F o (n + 1) h m = if h = 1 then ordGo F o n h m else ordGo F o n (mulF F h o) (m + 1) := rfl
def ordB (F : FD) : List Int → Bool
  | [] => false
  | o :: l => decide ((F.size - 1) / (ordGo F o F.size.toNat o 1).2 * (ordGo F o F.size.toNat o 1).2 = F.size - 1) && (decide (raisF F o (ordGo F o F.size.toNat o 1).2.toNat = 1) && (decide ((ordGo F o F.size.toNat o 1).2 = F.size - 1) || ordB F l))
def prodS (F : FD) (l : List Int) : Int := l.foldl (fun p o => if 0 < o then mulF F p o else p) 1
structure Good18 (F : FD) : Prop where
  tab : Tab F
  mp : F.size ≤ 32 → ∀ a, InF F a → a ≠ 0 → ((rng F).map (mulF F a)).Perm (rng F)
  ap : F.size ≤ 32 → ∀ a, InF F a → ((rng F).map (addF F a)).Perm (rng F)
  tot : F.size ≤ 32 → (rng F).foldl (addF F) 0 = 0
  prd : F.size ≤ 32 → prodS F (rng F) = subF F 0 1
  ord : F.size ≤ 32 → ordB F ((rng F).drop 1) = true
theorem rng_le (F : FD) : (rng F).Pairwise (· ≤ ·) := by
  unfold rng
  refine List.Pairwise.map _ (fun a b (h : a < b) => ?_) List.pairwise_lt_range
  omega
theorem rng_mem {F : FD} (o : F.Ok) : ∀ x ∈ rng F, InF F x := fun x hx => by
  obtain ⟨i, hi, rfl⟩ := List.mem_map.mp hx
  have := List.mem_range.mp hi
  unfold InF; omega
theorem rng_len (F : FD) : (rng F).length = F.size.toNat := by unfold rng; rw [List.length_map, List.length_range]
theorem sorted_is {F : FD} {l : List Int} (p : l.Perm (rng F)) (s : l.Pairwise (· ≤ ·)) : l = rng F :=
  List.Perm.eq_of_pairwise (le := (· ≤ ·)) (fun a b _ _ h1 h2 => Int.le_antisymm h1 h2) s (rng_le F) p
theorem ord_pos (F : FD) (o : Int) : ∀ (n : Nat) (h m : Int), 1 ≤ m → 1 ≤ (ordGo F o n h m).2 ∧ (ordGo F o n h m).2 ≤ m + n
  | 0, h, m, k => ⟨k, by show m ≤ _; omega⟩
  | n + 1, h, m, k => by
    unfold ordGo
    split
    · have := ord_pos F o n h m k; omega
    · have := ord_pos F o n (mulF F h o) (m + 1) (by omega); omega
def sp_law_all_right (K : Fr) : Sp := fun vs H Q _ => ∃ (a : Addr) (F : FD) (ok : Addr → Prop) (x : Int), vs = [.ref a, .int x] ∧ Good18 F ∧ F.size ≤ 32 ∧ FA K H a F ok ∧ InF F x ∧ ∀ H', Q (.bl true) H'
theorem len_law_all_right (vs : List V) (H : Hp) (Q : VK) (E : XK) (h : sp_law_all_right K vs H Q E) : vs.length = 2 := by obtain ⟨_, _, _, _, rfl, _⟩ := h; rfl
def t_law_all_right (K : Fr) : TS := (tSeq (tAsg (tLstRg (tRg1 (tProp (He.ga K "Field") (sp_Field_dot_size K) [] E0 (tVar 0)))) (gName 2)) (tSeq (tIfS (tAnd (tTest (tOp rNe (tVar 1) (tC (.int 0)))) (tTest (tOp (rNeD K) (tCB (rSortedI K) (tCons (tLc (iList K (tVar 2)) (gName 5) tYes (tCall (sp_times K) [] E0 (tCons (tVar 0) (tCons (tVar 1) (tCons (tVar 5) tNil)))) [5]) tNil)) (tVar 2)))) (tRet (tC (.bl false))) tNext) (tSeq (tPar 3 4 (tCons (tC (.int 0)) (tCons (tC (.int 1)) tNil))) (tSeq (tFor (iList K (tVar 2)) (gName 5) (tSeq (tAsg (tCall (sp_plus K) [] E0 (tCons (tVar 0) (tCons (tVar 3) (tCons (tVar 5) tNil)))) (gName 3)) (tAsg (tIf (tTest (tOp rGtI (tVar 5) (tC (.int 0)))) (tCall (sp_times K) [] E0 (tCons (tVar 0) (tCons (tVar 4) (tCons (tVar 5) tNil)))) (tVar 4)) (gName 4)))) (tSeq (tIfS (tOr (tTest (tOp rNe (tVar 3) (tC (.int 0)))) (tOr (tTest (tOp rNe (tVar 4) (tCall (sp_minus K) [] E0 (tCons (tVar 0) (tCons (tC (.int 0)) (tCons (tC (.int 1)) tNil)))))) (tTest (tOp (rNeD K) (tCB (rSortedI K) (tCons (tLc (iList K (tVar 2)) (gName 5) tYes (tCall (sp_plus K) [] E0 (tCons (tVar 0) (tCons (tVar 1) (tCons (tVar 5) tNil)))) [5]) tNil)) (tVar 2))))) (tRet (tC (.bl false))) tNext) (tSeq (tFor (iList K (tSl (rSlL K) (tVar 2) (tPart (tC (.int 1))) tNoPart)) (gName 5) (tSeq (tPar 6 7 (tCons (tVar 5) (tCons (tC (.int 1)) tNil))) (tSeq (tFor (iRng1 (tCons (tProp (He.ga K "Field") (sp_Field_dot_size K) [] E0 (tVar 0)) tNil)) (gName 8) (tIfS (tTest (tOp rNe (tVar 6) (tC (.int 1)))) (tPar 6 7 (tCons (tCall (sp_times K) [] E0 (tCons (tVar 0) (tCons (tVar 6) (tCons (tVar 5) tNil)))) (tCons (tOp rAddI (tVar 7) (tC (.int 1))) tNil))) tNext)) (tSeq (tIfS (tOr (tTest (tOp rNe (tOp rMulI (tOp rFdivI (tOp rSubI (tProp (He.ga K "Field") (sp_Field_dot_size K) [] E0 (tVar 0)) (tC (.int 1))) (tVar 7)) (tVar 7)) (tOp rSubI (tProp (He.ga K "Field") (sp_Field_dot_size K) [] E0 (tVar 0)) (tC (.int 1))))) (tTest (tOp rNe (tCall (sp_power K) [] E0 (tCons (tVar 0) (tCons (tVar 5) (tCons (tVar 7) tNil)))) (tC (.int 1))))) (tRet (tC (.bl false))) tNext) (tIfS (tTest (tOp rEq (tVar 7) (tOp rSubI (tProp (He.ga K "Field") (sp_Field_dot_size K) [] E0 (tVar 0)) (tC (.int 1))))) (tRet (tC (.bl true))) tNext))))) (tRet (tC (.bl false)))))))))
theorem pure_law_all_right (vs : List V) (H : Hp) (Q : VK) (E : XK) (h : sp_law_all_right K vs H Q E) : t_law_all_right K { nx := fun _ H' => Q .non H', rt := Q } (start ["_law_field_here", "_law_one", "_law_some", "_law_total", "_law_product", "_law_other", "_law_here", "_law_many", "_law_turn"] vs) H := by
  obtain ⟨a, F, ok, x, rfl, g, hz, f, hx, q⟩ := h
  have o := g.tab.ok
  have hpos := o.pos
  have hcnt := o.cnt
  obtain ⟨dx, fs, hi⟩ := f.ins
  refine ⟨_, rfl, a, dx, fs, rfl, hi, a, F, ok, rfl, f, _, rfl, RgOk.of_le (by omega) (by omega) (by omega) (by omega), ?_⟩
  intro ls n1; generalize E_ : upd _ ls _ = H1; have e1 := genE E_ n1; have h1 := genS E_; clear E_
  have er : rgV 0 F.size = (rng F).map V.int := by
    unfold rgV rng
    rw [List.map_map, Int.sub_zero]
    refine List.map_congr_left fun i _ => ?_
    show V.int (0 + (i : Int)) = V.int (i : Int)
    rw [Int.zero_add]
  rw [er] at h1
  have f1 := f.ex e1
  have hrl := rng_len F
  have hrm := rng_mem o
  have gtot := g.tot hz
  have gprd := g.prd hz
  have gord := g.ord hz
  have gmp := g.mp hz x hx
  have gap := g.ap hz x hx
  have sorted : ∀ l : List Int, l.Perm (rng F) → l.Pairwise (· ≤ ·) → l = rng F := fun l p s => sorted_is p s
  generalize rng F = R at h1 hrl hrm gtot gprd gord gmp gap sorted
  dsimp only
  refine tSeqI (tIfSI ?_)
  refine ⟨_, rfl, rfl, _, rfl, ?_⟩
  rw [show (!decide (V.int x = V.int 0)) = !decide (x = 0) by rw [dec_int0]]
  -- what follows the first test
  have next1 : ∀ H2, Ex H1 H2 → (tSeq (tPar 3 4 (tCons (tC (.int 0)) (tCons (tC (.int 1)) tNil))) (tSeq (tFor (iList K (tVar 2)) (gName 5) (tSeq (tAsg (tCall (sp_plus K) [] E0 (tCons (tVar 0) (tCons (tVar 3) (tCons (tVar 5) tNil)))) (gName 3)) (tAsg (tIf (tTest (tOp rGtI (tVar 5) (tC (.int 0)))) (tCall (sp_times K) [] E0 (tCons (tVar 0) (tCons (tVar 4) (tCons (tVar 5) tNil)))) (tVar 4)) (gName 4)))) (tSeq (tIfS (tOr (tTest (tOp rNe (tVar 3) (tC (.int 0)))) (tOr (tTest (tOp rNe (tVar 4) (tCall (sp_minus K) [] E0 (tCons (tVar 0) (tCons (tC (.int 0)) (tCons (tC (.int 1)) tNil)))))) (tTest (tOp (rNeD K) (tCB (rSortedI K) (tCons (tLc (iList K (tVar 2)) (gName 5) tYes (tCall (sp_plus K) [] E0 (tCons (tVar 0) (tCons (tVar 1) (tCons (tVar 5) tNil)))) [5]) tNil)) (tVar 2))))) (tRet (tC (.bl false))) tNext) (tSeq (tFor (iList K (tSl (rSlL K) (tVar 2) (tPart (tC (.int 1))) tNoPart)) (gName 5) (tSeq (tPar 6 7 (tCons (tVar 5) (tCons (tC (.int 1)) tNil))) (tSeq (tFor (iRng1 (tCons (tProp (He.ga K "Field") (sp_Field_dot_size K) [] E0 (tVar 0)) tNil)) (gName 8) (tIfS (tTest (tOp rNe (tVar 6) (tC (.int 1)))) (tPar 6 7 (tCons (tCall (sp_times K) [] E0 (tCons (tVar 0) (tCons (tVar 6) (tCons (tVar 5) tNil)))) (tCons (tOp rAddI (tVar 7) (tC (.int 1))) tNil))) tNext)) (tSeq (tIfS (tOr (tTest (tOp rNe (tOp rMulI (tOp rFdivI (tOp rSubI (tProp (He.ga K "Field") (sp_Field_dot_size K) [] E0 (tVar 0)) (tC (.int 1))) (tVar 7)) (tVar 7)) (tOp rSubI (tProp (He.ga K "Field") (sp_Field_dot_size K) [] E0 (tVar 0)) (tC (.int 1))))) (tTest (tOp rNe (tCall (sp_power K) [] E0 (tCons (tVar 0) (tCons (tVar 5) (tCons (tVar 7) tNil)))) (tC (.int 1))))) (tRet (tC (.bl false))) tNext) (tIfS (tTest (tOp rEq (tVar 7) (tOp rSubI (tProp (He.ga K "Field") (sp_Field_dot_size K) [] E0 (tVar 0)) (tC (.int 1))))) (tRet (tC (.bl true))) tNext))))) (tRet (tC (.bl false))))))) { nx := fun _ H' => Q .non H', rt := Q } [some (.ref a), some (.int x), some (.ref ls), none, none, none, none, none, none] H2 := by
    intro H2 e2
    have f2 := f1.ex e2
    have h2 := e2 _ _ h1
    refine ⟨_, _, rfl, ?_⟩
    dsimp only
    refine tSeqI ?_
    dsimp only
    refine ⟨_, rfl, ls, rfl, ⟨_, sqL h2⟩, for_list (xs := R.map V.int) (fun i σ H' => ∃ tt pp y5, σ = [some (.ref a), some (.int x), some (.ref ls), some (.int tt), some (.int pp), y5, none, none, none] ∧ Ex H2 H' ∧ InF F tt ∧ InF F pp ∧ (R.drop i).foldl (addF F) tt = R.foldl (addF F) 0 ∧ (R.drop i).foldl (fun p o => if 0 < o then mulF F p o else p) pp = prodS F R)
      ⟨0, 1, none, rfl, Ex.refl _, InF_zero o, InF_one o, rfl, rfl⟩ (fun i σ H' _ hP => by obtain ⟨_, _, _, _, e, _⟩ := hP; exact sqL (e _ _ h2)) (fun i v σ H' gi hP => ?_) (fun σ H' hP => ?_)⟩
    · obtain ⟨tt, pp, y5, rfl, eH, itt, ipp, hF1, hF2⟩ := hP
      obtain ⟨rfl, hi'⟩ := getD_of gi
      rw [drop_get hi', List.foldl_cons] at hF1 hF2
      have hR := hrm _ (getD_mem hi')
      generalize R.getD i 0 = r at hF1 hF2 hR
      have fH := f2.ex eH
      refine ⟨_, rfl, _, rfl, _, rfl, a, F, ok, tt, r, rfl, fH, itt, hR, fun H3 e3 => ?_⟩
      have f3 := fH.ex e3
      refine ⟨_, rfl, _, _, rfl, rfl, _, rfl, ?_⟩
      by_cases c0 : 0 < r
      · rw [if_pos c0] at hF2
        rw [decide_eq_true c0]
        exact iteT ⟨_, rfl, _, rfl, _, rfl, a, F, ok, pp, r, rfl, f3, ipp, hR, _, _, _, rfl, Ex.trans eH e3, addF_in o _ _, mulF_InF o _ _, hF1, hF2⟩
      · rw [if_neg c0] at hF2
        rw [decide_eq_false c0]
        exact iteF ⟨_, rfl, _, _, _, rfl, Ex.trans eH e3, addF_in o _ _, ipp, hF1, hF2⟩
    · obtain ⟨tt, pp, y5, rfl, eH, itt, ipp, hF1, hF2⟩ := hP
      rw [List.length_map, List.drop_length] at hF1 hF2
      have hF1 : tt = R.foldl (addF F) 0 := hF1
      have hF2 : pp = prodS F R := hF2
      rw [gtot] at hF1
      rw [gprd] at hF2
      subst hF1 hF2
      have fH := f2.ex eH
      have hH := eH _ _ h2
      refine ⟨_, rfl, rfl, _, rfl, ?_⟩
      rw [neT]
      refine iteF ⟨_, rfl, _, rfl, a, F, ok, 0, 1, rfl, fH, InF_zero o, InF_one o, fun H3 e3 => ⟨rfl, _, rfl, ?_⟩⟩
      rw [neT]
      refine iteF ?_
      have f3 := fH.ex e3
      have h3 := e3 _ _ hH
      refine tTestI (tOpI (tCB1 ?_))
      refine lcMap (a := ls) (fun v => .int (addF F x (intOf v))) (fun Q q => ⟨_, rfl, q⟩) (sqL h3) (by rw [List.length_map]; omega) (fun x => rfl) (fun i v gi H6 e6 Q6 q6 => ?_) (fun l4 H4 n4 e4 h4 => ?_)
      · obtain ⟨rfl, hi'⟩ := getD_of gi
        exact ⟨_, rfl, _, rfl, _, rfl, a, F, ok, x, _, rfl, f3.ex e6, hx, hrm _ (getD_mem hi'), q6⟩
      have em : (R.map V.int).map (fun v => V.int (addF F x (intOf v))) = (R.map (addF F x)).map V.int := by rw [List.map_map, List.map_map]; rfl
      rw [em] at h4
      refine ⟨l4, _, rfl, sqL h4, fun ns' p perm srt np => ?_⟩
      generalize E_ : upd _ p _ = H7
      have e7 := genE E_ np
      have h7 := genS E_
      clear E_
      have es : ns' = R := sorted ns' (perm.trans gap) srt
      subst es
      have h7' := e7 _ _ (e4 _ _ h3)
      refine ⟨_, rfl, _, _, dp_ints (sqL h7), dp_ints (sqL h7'), shaped_ints _, shaped_ints _, _, rfl, ?_⟩
      rw [eqv_ints, decide_eq_true rfl]
      refine iteF ?_
      have f7 := f3.ex (Ex.trans e4 e7)
      obtain ⟨dx7, fs7, hi7⟩ := f7.ins
      refine ⟨_, rfl, _, rfl, ls, _, rfl, sqL h7', ?_⟩
      intro l5 n8; generalize E_ : upd _ l5 _ = H8; have e8 := genE E_ n8; have h8 := genS E_; clear E_
      have ec : cutV (ns'.map V.int) (some 1) none = (ns'.drop 1).map V.int := by
        unfold cutV
        rw [HT.sIx_none]
        have e1 : HT.sIx (ns'.map V.int).length 0 (some (1 : Int)) = 1 := by
          show HT.sIx (ns'.map V.int).length 0 (some ((1 : Nat) : Int)) = 1
          rw [HT.sIx_nat, List.length_map]
          omega
        rw [e1, List.map_drop, List.take_of_length_le (by rw [List.length_drop]; omega)]
      rw [ec] at h8
      have hdm : ∀ y ∈ ns'.drop 1, InF F y := fun y hy => hrm y (List.mem_of_mem_drop hy)
      generalize ns'.drop 1 = D at h8 gord hdm
      have f8 := f7.ex e8
      have hi8 := e8 _ _ hi7
      refine ⟨l5, rfl, ⟨_, sqL h8⟩, for_list (xs := D.map V.int) (fun i σ H' => ∃ y5 y6 y7 y8, σ = [some (.ref a), some (.int x), some (.ref ls), some (.int 0), some (.int (subF F 0 1)), y5, y6, y7, y8] ∧ Ex H8 H' ∧ ordB F (D.drop i) = true) ⟨_, none, none, none, rfl, Ex.refl _, gord⟩ (fun i σ H' _ hP => by obtain ⟨_, _, _, _, _, e, _⟩ := hP; exact sqL (e _ _ h8)) (fun i v σ H' gi hP => ?_) (fun σ H' hP => ?_)⟩
      · obtain ⟨y5, y6, y7, y8, rfl, eH2, hO⟩ := hP
        obtain ⟨rfl, hi'⟩ := getD_of gi
        rw [drop_get hi'] at hO
        have hD := hdm _ (getD_mem hi')
        generalize D.getD i 0 = r at hO hD
        have fr := f8.ex eH2
        have hir := eH2 _ _ hi8
        unfold ordB at hO
        have hop := ord_pos F r F.size.toNat r 1 (by omega)
        simp only [Bool.and_eq_true, decide_eq_true_eq] at hO
        obtain ⟨o1, o2, o3⟩ := hO
        refine ⟨_, rfl, _, _, rfl, ?_⟩
        dsimp only
        refine tSeqI ?_
        dsimp only
        refine forR1 (n := F.size) (fun j σ H9 => ∃ h m y8, σ = [some (.ref a), some (.int x), some (.ref ls), some (.int 0), some (.int (subF F 0 1)), some (.int r), some (.int h), some (.int m), y8] ∧ H9 = H' ∧ InF F h ∧ ordGo F r (F.size.toNat - j) h m = ordGo F r F.size.toNat r 1) (fun Q q => ⟨_, rfl, a, dx7, fs7, rfl, hir, a, F, ok, rfl, fr, q⟩) (by omega) ⟨r, 1, y8, rfl, rfl, hD, rfl⟩ (fun j σ H9 hj hP => ?_) (fun σ H9 hP => ?_)
        · obtain ⟨h, m, w8, rfl, rfl, hh, hG⟩ := hP
          have ej : F.size.toNat - j = (F.size.toNat - (j + 1)) + 1 := by omega
          rw [ej, ordGo_succ] at hG
          refine ⟨_, rfl, rfl, _, rfl, ?_⟩
          by_cases c1 : h = 1
          · rw [if_pos c1] at hG
            refine ifF (by show (!decide (V.int h = V.int 1)) = false; rw [c1, neT]) ?_
            exact ⟨h, m, some (.int (j : Nat)), rfl, rfl, hh, hG⟩
          · rw [if_neg c1] at hG
            have et : (!decide (V.int h = V.int 1)) = true := by rw [decide_eq_false fun z => c1 (V.int.inj z)]; rfl
            rw [et]
            exact iteT ⟨_, rfl, _, rfl, _, rfl, a, F, ok, h, r, rfl, fr, hh, hD, _, rfl, _, _, rfl, rfl, _, _, rfl, mulF F h r, m + 1, some (.int (j : Nat)), rfl, rfl, mulF_InF o _ _, hG⟩
        · obtain ⟨h, m, w8, rfl, rfl, hh, hG⟩ := hP
          rw [Nat.sub_self] at hG
          have hm : m = (ordGo F r F.size.toNat r 1).2 := congrArg Prod.snd (show (h, m) = _ from hG)
          rw [← hm] at o1 o2 o3 hop
          refine ⟨_, rfl, a, dx7, fs7, rfl, hir, a, F, ok, rfl, fr, _, _, rfl, rfl, _, rfl, _, _, rfl, rfl, ⟨by omega, by omega⟩, _, rfl, _, _, rfl, rfl, .inr (by omega), _, rfl, a, dx7, fs7, rfl, hir, a, F, ok, rfl, fr, _, _, rfl, rfl, rfl, _, rfl, ?_⟩
          refine ifF (by show (!decide (V.int ((F.size - 1) / m * m) = V.int (F.size - 1))) = false; rw [o1, neT]) ?_
          refine ⟨_, rfl, _, rfl, _, rfl, a, F, ok, r, m.toNat, by show [V.ref a, V.int r, V.int m] = [V.ref a, V.int r, V.int ((m.toNat : Nat) : Int)]; rw [show ((m.toNat : Nat) : Int) = m by omega], fr, hD, by omega, rfl, _, rfl, ?_⟩
          rw [o2, neT]
          refine iteF ?_
          refine ⟨_, rfl, _, rfl, a, dx7, fs7, rfl, hir, a, F, ok, rfl, fr, _, _, rfl, rfl, rfl, _, rfl, ?_⟩
          by_cases c2 : m = F.size - 1
          · have et : decide (V.int m = V.int (F.size - 1)) = true := decide_eq_true (by rw [c2])
            refine ifT2 et (q H9)
          · have et : decide (V.int m = V.int (F.size - 1)) = false := decide_eq_false fun z => c2 (V.int.inj z)
            refine ifF et ?_
            refine ⟨_, _, _, _, rfl, eH2, ?_⟩
            rcases Bool.or_eq_true_iff.mp o3 with z | z
            · exact absurd (of_decide_eq_true z) c2
            · exact z
      · obtain ⟨y5, y6, y7, y8, rfl, eH2, hO⟩ := hP
        rw [List.length_map, List.drop_length] at hO
        cases hO
  by_cases cx : x = 0
  · rw [decide_eq_true cx]
    exact iteF (iteF (next1 H1 (Ex.refl _)))
  · rw [decide_eq_false cx]
    refine iteT (tTestI (tOpI (tCB1 ?_)))
    refine lcMap (a := ls) (fun v => .int (mulF F x (intOf v))) (fun Q q => ⟨_, rfl, q⟩) (sqL h1) (by rw [List.length_map]; omega) (fun x => rfl) (fun i v gi H6 e6 Q6 q6 => ?_) (fun l4 H4 n4 e4 h4 => ?_)
    · obtain ⟨rfl, hi'⟩ := getD_of gi
      exact ⟨_, rfl, _, rfl, _, rfl, a, F, ok, x, _, rfl, f1.ex e6, hx, hrm _ (getD_mem hi'), q6 H6 (Ex.refl _)⟩
    have em : (R.map V.int).map (fun v => V.int (mulF F x (intOf v))) = (R.map (mulF F x)).map V.int := by rw [List.map_map, List.map_map]; rfl
    rw [em] at h4
    refine ⟨l4, _, rfl, sqL h4, fun ns' p perm srt np => ?_⟩
    generalize E_ : upd _ p _ = H7
    have e7 := genE E_ np
    have h7 := genS E_
    clear E_
    have es : ns' = R := sorted ns' (perm.trans (gmp cx)) srt
    subst es
    refine ⟨_, rfl, _, _, dp_ints (sqL h7), dp_ints (sqL (e7 _ _ (e4 _ _ h1))), shaped_ints _, shaped_ints _, _, rfl, ?_⟩
    rw [eqv_ints, decide_eq_true rfl]
    exact iteF (next1 H7 (Ex.trans e4 e7))
/-! ### the whole -/
def GoodAll : Prop := ∀ z ∈ flds, ∃ F : FD, F.p = z.1 ∧ F.md = z.2 ∧ Good18 F
def Txt18 (K : Fr) : Prop := FieldCls K ∧ PySem.W.exmOne K (.ref (He.ga K "DividedByNought")) (.ref (He.ga K "DividedByNought")) = some true
def sp_law_right (K : Fr) : Sp := fun vs H Q _ => ∃ pt, vs = [.ref pt] ∧ GoodAll ∧ Txt18 K ∧ Po pt H ∧ ∀ H', Q (.bl true) H'
theorem len_law_right (vs : List V) (H : Hp) (Q : VK) (E : XK) (h : sp_law_right K vs H Q E) : vs.length = 1 := by obtain ⟨_, rfl, _⟩ := h; rfl
def t_law_right (K : Fr) : TS := (tSeq (tAsg (tCall (sp_law_field K) [] E0 (tCons (tVar 0) tNil)) (gTup K 2 (gCons (gName 1) (gCons (gName 2) gNil)))) (tSeq (tAsg (tMake (He.ga K "Field") (sp_Field_dot___init__ K) [] E0 (tCons (tVar 1) (tCons (tVar 2) tNil))) (gName 3)) (tSeq (tFor (iRng1 (tCons (tC (.int 4)) tNil)) (gName 4) (tSeq (tPar3 5 6 7 (tCons (tCall (sp_law_draw K) [] E0 (tCons (tVar 0) (tCons (tProp (He.ga K "Field") (sp_Field_dot_size K) [] E0 (tVar 3)) tNil))) (tCons (tCall (sp_law_draw K) [] E0 (tCons (tVar 0) (tCons (tProp (He.ga K "Field") (sp_Field_dot_size K) [] E0 (tVar 3)) tNil))) (tCons (tCall (sp_law_draw K) [] E0 (tCons (tVar 0) (tCons (tProp (He.ga K "Field") (sp_Field_dot_size K) [] E0 (tVar 3)) tNil))) tNil)))) (tIfS (tOr (tNot (tB (tCall (sp_law_three_right K) [] E0 (tCons (tVar 3) (tCons (tVar 5) (tCons (tVar 6) (tCons (tVar 7) tNil))))))) (tNot (tB (tCall (sp_law_is_refused K) [] E0 (tCons (tVar 3) (tCons (tVar 5) tNil)))))) (tRet (tC (.bl false))) tNext))) (tRet (tOrV (tOp rGtI (tProp (He.ga K "Field") (sp_Field_dot_size K) [] E0 (tVar 3)) (tC (.int 32))) (tCall (sp_law_all_right K) [] E0 (tCons (tVar 3) (tCons (tCall (sp_law_draw K) [] E0 (tCons (tVar 0) (tCons (tProp (He.ga K "Field") (sp_Field_dot_size K) [] E0 (tVar 3)) tNil))) tNil))))))))
theorem pure_law_right (vs : List V) (H : Hp) (Q : VK) (E : XK) (h : sp_law_right K vs H Q E) : t_law_right K { nx := fun _ H' => Q .non H', rt := Q } (start ["_law_pot_here", "_law_prime", "_law_modulus", "_law_field_here", "_law_turn", "_law_one", "_law_two", "_law_three"] vs) H := by
  obtain ⟨pt, rfl, G, ⟨c, ex1⟩, P, q⟩ := h
  refine ⟨_, rfl, pt, rfl, P, fun z hz t m H1 ht hm nm e1 P1 => ?_⟩
  obtain ⟨F, hF1, hF2, g⟩ := G z hz
  rw [← hF1] at ht
  rw [← hF2] at hm
  have o := g.tab.ok
  have hcnt := o.cnt
  have hbig := o.big
  refine ⟨t, _, rfl, sqT ht, rfl, _, _, rfl, _, _, rfl, rfl, ?_⟩
  refine ⟨_, rfl, _, rfl, fun x dx nx ndx hne => ?_⟩
  generalize h0 : upd (upd H1 dx (.own x)) x (.ins (He.ga K "Field") dx []) = H0
  have EH0 : Ex H1 H0 := fun y u hy => by
    rw [← h0, upd_ne (fun e => by rw [e, nx] at hy; cases hy), upd_ne (fun e => by rw [e, ndx] at hy; cases hy)]
    exact hy
  have hx0 : H0 x = some (.ins (He.ga K "Field") dx []) := by rw [← h0]; exact upd_same
  refine ⟨x, m, dx, F, rfl, c, o, hx0, .inl (sqL (EH0 _ _ hm)), fun H2 e2 f2 => ⟨rfl, ?_⟩⟩
  have E2 : Ex H1 H2 := fun y u hy => e2 y u (fun e => by rw [e, nx] at hy; cases hy) (EH0 y u hy)
  have P0 := P1.ex EH0
  have f2 := f2.mono (ok' := (· ≠ pt)) fun y hy => P0.ne hy
  have P2 := P1.ex E2
  have hpos := o.pos
  have hsz1 : 1 ≤ F.size := by omega
  walk_at "sl"
  refine forR1 (n := 4) (fun i σ H' => ∃ y4 y5 y6 y7, σ = [some (.ref pt), some (.int F.p), some (.ref m), some (.ref x), y4, y5, y6, y7] ∧ FA K H' x F (· ≠ pt) ∧ Po pt H') (fun Q q => q) (by decide) ⟨none, none, none, none, rfl, f2, P2⟩ (fun i σ H' hi hP => ?_) (fun σ H' hP => ?_)
  · obtain ⟨y4, y5, y6, y7, rfl, fH, PH⟩ := hP
    obtain ⟨dx3, fs3, hi3⟩ := fH.ins
    refine ⟨_, rfl, _, rfl, x, dx3, fs3, rfl, hi3, x, F, _, rfl, fH, pt, F.size, rfl, hsz1, by omega, PH, fun v1 H3 v10 v11 e3 P3 => ?_⟩
    have f3 := fH.exP e3 PH
    obtain ⟨dx4, fs4, hi4⟩ := f3.ins
    refine ⟨_, rfl, _, rfl, x, dx4, fs4, rfl, hi4, x, F, _, rfl, f3, pt, F.size, rfl, hsz1, by omega, P3, fun v2 H4 v20 v21 e4 P4 => ?_⟩
    have f4 := f3.exP e4 P3
    obtain ⟨dx5, fs5, hi5⟩ := f4.ins
    refine ⟨_, rfl, _, rfl, x, dx5, fs5, rfl, hi5, x, F, _, rfl, f4, pt, F.size, rfl, hsz1, by omega, P4, fun v3 H5 v30 v31 e5 P5 => ⟨_, _, _, rfl, ?_⟩⟩
    have f5 := f4.exP e5 P4
    refine ⟨_, rfl, _, rfl, _, rfl, _, rfl, x, F, _, v1, v2, v3, rfl, g.tab, f5, ⟨v10, v11⟩, ⟨v20, v21⟩, ⟨v30, v31⟩, fun H6 e6 => ⟨true, rfl, iteF ?_⟩⟩
    have f6 := f5.ex e6
    exact ⟨_, rfl, _, rfl, x, F, _, v1, rfl, ex1, f6, ⟨v10, v11⟩, true, rfl, iteF ⟨_, _, _, _, rfl, f6, P5.ex e6⟩⟩
  · obtain ⟨y4, y5, y6, y7, rfl, fH, PH⟩ := hP
    obtain ⟨dx3, fs3, hi3⟩ := fH.ins
    refine ⟨_, rfl, x, dx3, fs3, rfl, hi3, x, F, _, rfl, fH, _, _, rfl, rfl, _, rfl, ?_⟩
    by_cases cz : 32 < F.size
    · rw [decide_eq_true cz]
      exact iteT (q H')
    · rw [decide_eq_false cz]
      refine iteF ⟨_, rfl, _, rfl, _, rfl, x, dx3, fs3, rfl, hi3, x, F, _, rfl, fH, pt, F.size, rfl, hsz1, by omega, PH, fun v1 H3 v10 v11 e3 P3 => ?_⟩
      exact ⟨x, F, _, v1, rfl, g, by omega, fH.exP e3 PH, ⟨v10, v11⟩, q⟩
def sp_law (K : Fr) : Sp := fun vs H Q _ => ∃ (a : Addr) (ns : List Int), vs = [.ref a] ∧ GoodAll ∧ Txt18 K ∧ SqL K H a (ns.map V.int) ∧ ∀ H', Q (.bl true) H'
theorem len_law (vs : List V) (H : Hp) (Q : VK) (E : XK) (h : sp_law K vs H Q E) : vs.length = 1 := by obtain ⟨_, _, rfl, _⟩ := h; rfl
def t_law (K : Fr) : TS := (tRet (tCall (sp_law_right K) [] E0 (tCons (tCall (sp_law_pot K) [] E0 (tCons (tVar 0) (tCons (tC (.int 0)) tNil))) tNil)))
theorem pure_law (vs : List V) (H : Hp) (Q : VK) (E : XK) (h : sp_law K vs H Q E) : t_law K { nx := fun _ H' => Q .non H', rt := Q } (start ["_law_script"] vs) H := by
  obtain ⟨a, ns, rfl, G, c, hs, q⟩ := h
  exact ⟨_, rfl, a, ns, 0, rfl, hs, fun p H1 n1 e1 P1 => ⟨p, rfl, G, c, P1, q⟩⟩

end TP
/-! F18 -/
set_option maxHeartbeats 0
namespace A18
open PySem PySem.Spec PyProof.Rows L2 TP

def primesB (K : Fr) : Bool := He.tupB K "PRIMES" [.int 2, .int 3, .int 5, .int 7]
def fieldB (K : Fr) : Bool := (He.Fa.cls "Field").ok K && ((He.Fa.noat "Field" "_prime").ok K && ((He.Fa.noat "Field" "_modulus").ok K && ((He.Fa.noat "Field" "_size").ok K && ((He.Fa.noat "Field" "_units").ok K && ((He.Fa.noat "Field" "_powers").ok K && ((He.Fa.noat "Field" "_exponents").ok K &&
  (He.eqO (PySem.W.findIn K (.ref (He.ga K "Field")) "__class__") (some (some (.builtin "object.__class__"))) && (He.eqO (PySem.W.specialIn K (.builtin "object.__class__") "__get__") (some (some (.builtin "getset_descriptor.__get__"))) &&
  (decide (PySem.W.takesIn K (.builtin "object.__class__") = some true) && decide (PySem.W.mroIn K (He.ga K "Field") (.type "object") = some true))))))))))
theorem fieldB_ok {K : Fr} (h : fieldB K = true) : FieldCls K := by
  obtain ⟨h1, h⟩ := He.ba h
  obtain ⟨h2, h⟩ := He.ba h
  obtain ⟨h3, h⟩ := He.ba h
  obtain ⟨h4, h⟩ := He.ba h
  obtain ⟨h5, h⟩ := He.ba h
  obtain ⟨h6, h⟩ := He.ba h
  obtain ⟨h7, h⟩ := He.ba h
  obtain ⟨h8, h⟩ := He.ba h
  obtain ⟨h9, h⟩ := He.ba h
  obtain ⟨h10, h11⟩ := He.ba h
  exact ⟨He.cls_ok h1, He.noat_ok h2, He.noat_ok h3, He.noat_ok h4, He.noat_ok h5, He.noat_ok h6, He.noat_ok h7, He.eqO_ok h8, He.eqO_ok h9, of_decide_eq_true h10, of_decide_eq_true h11⟩
def topS (i : Nat) : Stmt := PySem.Challenge.pw_turnpowers_k18_whole_fields_as_fields.main.body.getD i (.Pass ⟨0, 0, 0, 0⟩)
abbrev s_is_integer : Stmt := topS 1
abbrev s_is_count : Stmt := topS 2
abbrev s_is_below : Stmt := topS 3
abbrev s_is_list : Stmt := topS 4
abbrev s_are_below : Stmt := topS 5
abbrev s_without_noughts : Stmt := topS 6
abbrev s_product_of : Stmt := topS 19
abbrev s_inverse_of : Stmt := topS 20
abbrev s_rest_of : Stmt := topS 21
abbrev s_common_of : Stmt := topS 22
abbrev s_power_rest : Stmt := topS 23
abbrev s_less_x : Stmt := topS 24
abbrev s_cannot_be_parted : Stmt := topS 25
abbrev s_check_prime : Stmt := topS 30
abbrev s_is_modulus : Stmt := topS 31
abbrev s_units_of : Stmt := topS 32
abbrev s_figures_in : Stmt := topS 33
abbrev s_told_by : Stmt := topS 34
abbrev s_powers_of : Stmt := topS 35
abbrev s_all_by_powers : Stmt := topS 36
abbrev s_Field_dot___init__ : Stmt := inClass (topS 37) 0
abbrev s_Field_dot_prime : Stmt := inClass (topS 37) 1
abbrev s_Field_dot_size : Stmt := inClass (topS 37) 3
abbrev s_Field_dot_figures_of : Stmt := inClass (topS 37) 7
abbrev s_Field_dot_with_figures : Stmt := inClass (topS 37) 8
abbrev s_Field_dot_added : Stmt := inClass (topS 37) 9
abbrev s_Field_dot_taken : Stmt := inClass (topS 37) 10
abbrev s_Field_dot_multiplied : Stmt := inClass (topS 37) 11
abbrev s_Field_dot_divided : Stmt := inClass (topS 37) 12
abbrev s_Field_dot_raised : Stmt := inClass (topS 37) 13
abbrev s_is_one_of : Stmt := topS 39
abbrev s_check_field : Stmt := topS 40
abbrev s_check_one : Stmt := topS 41
abbrev s_check_many : Stmt := topS 42
abbrev s_check_two : Stmt := topS 45
abbrev s_plus : Stmt := topS 46
abbrev s_minus : Stmt := topS 47
abbrev s_times : Stmt := topS 48
abbrev s_over : Stmt := topS 49
abbrev s_check_one_many : Stmt := topS 50
abbrev s_power : Stmt := topS 51
abbrev s_law_pot : Stmt := topS 53
abbrev s_law_draw : Stmt := topS 54
abbrev s_law_pick : Stmt := topS 55
abbrev s_law_field : Stmt := topS 56
abbrev s_law_three_right : Stmt := topS 57
abbrev s_law_all_right : Stmt := topS 58
abbrev s_law_is_refused : Stmt := topS 59
abbrev s_law_right : Stmt := topS 60
abbrev s_law : Stmt := topS 61
theorem sc_is_integer : FnScope ["value"] ["value"] (defScope s_is_integer) := ⟨rfl, rfl, rfl, by decide +kernel, rfl, by decide +kernel, by decide +kernel⟩
theorem sc_is_count : FnScope ["value"] ["value"] (defScope s_is_count) := ⟨rfl, rfl, rfl, by decide +kernel, rfl, by decide +kernel, by decide +kernel⟩
theorem sc_is_below : FnScope ["value", "bound"] ["value", "bound"] (defScope s_is_below) := ⟨rfl, rfl, rfl, by decide +kernel, rfl, by decide +kernel, by decide +kernel⟩
theorem sc_is_list : FnScope ["value"] ["value"] (defScope s_is_list) := ⟨rfl, rfl, rfl, by decide +kernel, rfl, by decide +kernel, by decide +kernel⟩
theorem sc_are_below : FnScope ["value", "bound", "one"] ["value", "bound"] (defScope s_are_below) := ⟨rfl, rfl, rfl, by decide +kernel, rfl, by decide +kernel, by decide +kernel⟩
theorem sc_without_noughts : FnScope ["row", "many"] ["row"] (defScope s_without_noughts) := ⟨rfl, rfl, rfl, by decide +kernel, rfl, by decide +kernel, by decide +kernel⟩
theorem sc_product_of : FnScope ["prime", "one", "other", "sums", "at", "figure", "beside", "factor"] ["prime", "one", "other"] (defScope s_product_of) := ⟨rfl, rfl, rfl, by decide +kernel, rfl, by decide +kernel, by decide +kernel⟩
theorem sc_inverse_of : FnScope ["prime", "figure", "other"] ["prime", "figure"] (defScope s_inverse_of) := ⟨rfl, rfl, rfl, by decide +kernel, rfl, by decide +kernel, by decide +kernel⟩
theorem sc_rest_of : FnScope ["prime", "one", "other", "inverse", "left", "factor", "start", "at", "figure"] ["prime", "one", "other"] (defScope s_rest_of) := ⟨rfl, rfl, rfl, by decide +kernel, rfl, by decide +kernel, by decide +kernel⟩
theorem sc_common_of : FnScope ["prime", "one", "other"] ["prime", "one", "other"] (defScope s_common_of) := ⟨rfl, rfl, rfl, by decide +kernel, rfl, by decide +kernel, by decide +kernel⟩
theorem sc_power_rest : FnScope ["prime", "one", "many", "modulus", "found", "_"] ["prime", "one", "many", "modulus"] (defScope s_power_rest) := ⟨rfl, rfl, rfl, by decide +kernel, rfl, by decide +kernel, by decide +kernel⟩
theorem sc_less_x : FnScope ["prime", "one", "row"] ["prime", "one"] (defScope s_less_x) := ⟨rfl, rfl, rfl, by decide +kernel, rfl, by decide +kernel, by decide +kernel⟩
theorem sc_cannot_be_parted : FnScope ["prime", "modulus", "turned", "_"] ["prime", "modulus"] (defScope s_cannot_be_parted) := ⟨rfl, rfl, rfl, by decide +kernel, rfl, by decide +kernel, by decide +kernel⟩
theorem sc_check_prime : FnScope ["value"] ["value"] (defScope s_check_prime) := ⟨rfl, rfl, rfl, by decide +kernel, rfl, by decide +kernel, by decide +kernel⟩
theorem sc_is_modulus : FnScope ["prime", "value"] ["prime", "value"] (defScope s_is_modulus) := ⟨rfl, rfl, rfl, by decide +kernel, rfl, by decide +kernel, by decide +kernel⟩
theorem sc_units_of : FnScope ["prime", "turns", "units", "_"] ["prime", "turns"] (defScope s_units_of) := ⟨rfl, rfl, rfl, by decide +kernel, rfl, by decide +kernel, by decide +kernel⟩
theorem sc_figures_in : FnScope ["prime", "turns", "one", "found", "_"] ["prime", "turns", "one"] (defScope s_figures_in) := ⟨rfl, rfl, rfl, by decide +kernel, rfl, by decide +kernel, by decide +kernel⟩
theorem sc_told_by : FnScope ["figures", "units", "figure", "unit"] ["figures", "units"] (defScope s_told_by) := ⟨rfl, rfl, rfl, by decide +kernel, rfl, by decide +kernel, by decide +kernel⟩
theorem sc_powers_of : FnScope ["prime", "modulus", "one", "units", "factor", "found", "power"] ["prime", "modulus", "one"] (defScope s_powers_of) := ⟨rfl, rfl, rfl, by decide +kernel, rfl, by decide +kernel, by decide +kernel⟩
theorem sc_all_by_powers : FnScope ["prime", "modulus", "size", "one", "found"] ["prime", "modulus", "size"] (defScope s_all_by_powers) := ⟨rfl, rfl, rfl, by decide +kernel, rfl, by decide +kernel, by decide +kernel⟩
theorem sc_Field_dot___init__ : FnScope ["self", "prime", "modulus", "units", "size", "at", "power"] ["self", "prime", "modulus"] (defScope s_Field_dot___init__) := ⟨rfl, rfl, rfl, by decide +kernel, rfl, by decide +kernel, by decide +kernel⟩
theorem sc_Field_dot_prime : FnScope ["self"] ["self"] (defScope s_Field_dot_prime) := ⟨rfl, rfl, rfl, by decide +kernel, rfl, by decide +kernel, by decide +kernel⟩
theorem sc_Field_dot_size : FnScope ["self"] ["self"] (defScope s_Field_dot_size) := ⟨rfl, rfl, rfl, by decide +kernel, rfl, by decide +kernel, by decide +kernel⟩
theorem sc_Field_dot_figures_of : FnScope ["self", "one"] ["self", "one"] (defScope s_Field_dot_figures_of) := ⟨rfl, rfl, rfl, by decide +kernel, rfl, by decide +kernel, by decide +kernel⟩
theorem sc_Field_dot_with_figures : FnScope ["self", "figures"] ["self", "figures"] (defScope s_Field_dot_with_figures) := ⟨rfl, rfl, rfl, by decide +kernel, rfl, by decide +kernel, by decide +kernel⟩
theorem sc_Field_dot_added : FnScope ["self", "one", "other", "pairs", "figure", "beside"] ["self", "one", "other"] (defScope s_Field_dot_added) := ⟨rfl, rfl, rfl, by decide +kernel, rfl, by decide +kernel, by decide +kernel⟩
theorem sc_Field_dot_taken : FnScope ["self", "one", "other", "pairs", "figure", "beside"] ["self", "one", "other"] (defScope s_Field_dot_taken) := ⟨rfl, rfl, rfl, by decide +kernel, rfl, by decide +kernel, by decide +kernel⟩
theorem sc_Field_dot_multiplied : FnScope ["self", "one", "other"] ["self", "one", "other"] (defScope s_Field_dot_multiplied) := ⟨rfl, rfl, rfl, by decide +kernel, rfl, by decide +kernel, by decide +kernel⟩
theorem sc_Field_dot_divided : FnScope ["self", "one", "other"] ["self", "one", "other"] (defScope s_Field_dot_divided) := ⟨rfl, rfl, rfl, by decide +kernel, rfl, by decide +kernel, by decide +kernel⟩
theorem sc_Field_dot_raised : FnScope ["self", "one", "many"] ["self", "one", "many"] (defScope s_Field_dot_raised) := ⟨rfl, rfl, rfl, by decide +kernel, rfl, by decide +kernel, by decide +kernel⟩
theorem sc_is_one_of : FnScope ["field", "value"] ["field", "value"] (defScope s_is_one_of) := ⟨rfl, rfl, rfl, by decide +kernel, rfl, by decide +kernel, by decide +kernel⟩
theorem sc_check_field : FnScope ["value"] ["value"] (defScope s_check_field) := ⟨rfl, rfl, rfl, by decide +kernel, rfl, by decide +kernel, by decide +kernel⟩
theorem sc_check_one : FnScope ["field", "value"] ["field", "value"] (defScope s_check_one) := ⟨rfl, rfl, rfl, by decide +kernel, rfl, by decide +kernel, by decide +kernel⟩
theorem sc_check_many : FnScope ["value", "most"] ["value", "most"] (defScope s_check_many) := ⟨rfl, rfl, rfl, by decide +kernel, rfl, by decide +kernel, by decide +kernel⟩
theorem sc_check_two : FnScope ["field", "one", "other"] ["field", "one", "other"] (defScope s_check_two) := ⟨rfl, rfl, rfl, by decide +kernel, rfl, by decide +kernel, by decide +kernel⟩
theorem sc_plus : FnScope ["field", "one", "other"] ["field", "one", "other"] (defScope s_plus) := ⟨rfl, rfl, rfl, by decide +kernel, rfl, by decide +kernel, by decide +kernel⟩
theorem sc_minus : FnScope ["field", "one", "other"] ["field", "one", "other"] (defScope s_minus) := ⟨rfl, rfl, rfl, by decide +kernel, rfl, by decide +kernel, by decide +kernel⟩
theorem sc_times : FnScope ["field", "one", "other"] ["field", "one", "other"] (defScope s_times) := ⟨rfl, rfl, rfl, by decide +kernel, rfl, by decide +kernel, by decide +kernel⟩
theorem sc_over : FnScope ["field", "one", "other"] ["field", "one", "other"] (defScope s_over) := ⟨rfl, rfl, rfl, by decide +kernel, rfl, by decide +kernel, by decide +kernel⟩
theorem sc_check_one_many : FnScope ["field", "one", "many", "most"] ["field", "one", "many", "most"] (defScope s_check_one_many) := ⟨rfl, rfl, rfl, by decide +kernel, rfl, by decide +kernel, by decide +kernel⟩
theorem sc_power : FnScope ["field", "one", "many"] ["field", "one", "many"] (defScope s_power) := ⟨rfl, rfl, rfl, by decide +kernel, rfl, by decide +kernel, by decide +kernel⟩
theorem sc_law_pot : FnScope ["_law_script", "_law_k", "_law_cell"] ["_law_script", "_law_k"] (defScope s_law_pot) := ⟨rfl, rfl, rfl, by decide +kernel, rfl, by decide +kernel, by decide +kernel⟩
theorem sc_law_draw : FnScope ["_law_pot_here", "_law_sides", "_law_digit"] ["_law_pot_here", "_law_sides"] (defScope s_law_draw) := ⟨rfl, rfl, rfl, by decide +kernel, rfl, by decide +kernel, by decide +kernel⟩
theorem sc_law_pick : FnScope ["_law_pot_here", "_law_some"] ["_law_pot_here", "_law_some"] (defScope s_law_pick) := ⟨rfl, rfl, rfl, by decide +kernel, rfl, by decide +kernel, by decide +kernel⟩
theorem sc_law_field : FnScope ["_law_pot_here", "_law_kept"] ["_law_pot_here"] (defScope s_law_field) := ⟨rfl, rfl, rfl, by decide +kernel, rfl, by decide +kernel, by decide +kernel⟩
theorem sc_law_three_right : FnScope ["_law_field_here", "_law_one", "_law_two", "_law_three", "_law_total", "_law_turn"] ["_law_field_here", "_law_one", "_law_two", "_law_three"] (defScope s_law_three_right) := ⟨rfl, rfl, rfl, by decide +kernel, rfl, by decide +kernel, by decide +kernel⟩
theorem sc_law_all_right : FnScope ["_law_field_here", "_law_one", "_law_some", "_law_total", "_law_product", "_law_other", "_law_here", "_law_many", "_law_turn"] ["_law_field_here", "_law_one"] (defScope s_law_all_right) := ⟨rfl, rfl, rfl, by decide +kernel, rfl, by decide +kernel, by decide +kernel⟩
theorem sc_law_is_refused : FnScope ["_law_field_here", "_law_one", "_law_refused"] ["_law_field_here", "_law_one"] (defScope s_law_is_refused) := ⟨rfl, rfl, rfl, by decide +kernel, rfl, by decide +kernel, by decide +kernel⟩
theorem sc_law_right : FnScope ["_law_pot_here", "_law_prime", "_law_modulus", "_law_field_here", "_law_turn", "_law_one", "_law_two", "_law_three"] ["_law_pot_here"] (defScope s_law_right) := ⟨rfl, rfl, rfl, by decide +kernel, rfl, by decide +kernel, by decide +kernel⟩
theorem sc_law : FnScope ["_law_script"] ["_law_script"] (defScope s_law) := ⟨rfl, rfl, rfl, by decide +kernel, rfl, by decide +kernel, by decide +kernel⟩
def d_is_integer : He5.DefA := ⟨fun K => He.ga K "is_integer", "is_integer", "is_integer", defArgs s_is_integer, defBody s_is_integer, defScope s_is_integer, [], []⟩
def d_is_count : He5.DefA := ⟨fun K => He.ga K "is_count", "is_count", "is_count", defArgs s_is_count, defBody s_is_count, defScope s_is_count, [], []⟩
def d_is_below : He5.DefA := ⟨fun K => He.ga K "is_below", "is_below", "is_below", defArgs s_is_below, defBody s_is_below, defScope s_is_below, [], []⟩
def d_is_list : He5.DefA := ⟨fun K => He.ga K "is_list", "is_list", "is_list", defArgs s_is_list, defBody s_is_list, defScope s_is_list, [], []⟩
def d_are_below : He5.DefA := ⟨fun K => He.ga K "are_below", "are_below", "are_below", defArgs s_are_below, defBody s_are_below, defScope s_are_below, [], []⟩
def d_without_noughts : He5.DefA := ⟨fun K => He.ga K "without_noughts", "without_noughts", "without_noughts", defArgs s_without_noughts, defBody s_without_noughts, defScope s_without_noughts, [], []⟩
def d_product_of : He5.DefA := ⟨fun K => He.ga K "product_of", "product_of", "product_of", defArgs s_product_of, defBody s_product_of, defScope s_product_of, [], []⟩
def d_inverse_of : He5.DefA := ⟨fun K => He.ga K "inverse_of", "inverse_of", "inverse_of", defArgs s_inverse_of, defBody s_inverse_of, defScope s_inverse_of, [], []⟩
def d_rest_of : He5.DefA := ⟨fun K => He.ga K "rest_of", "rest_of", "rest_of", defArgs s_rest_of, defBody s_rest_of, defScope s_rest_of, [], []⟩
def d_common_of : He5.DefA := ⟨fun K => He.ga K "common_of", "common_of", "common_of", defArgs s_common_of, defBody s_common_of, defScope s_common_of, [], []⟩
def d_power_rest : He5.DefA := ⟨fun K => He.ga K "power_rest", "power_rest", "power_rest", defArgs s_power_rest, defBody s_power_rest, defScope s_power_rest, [], []⟩
def d_less_x : He5.DefA := ⟨fun K => He.ga K "less_x", "less_x", "less_x", defArgs s_less_x, defBody s_less_x, defScope s_less_x, [], []⟩
def d_cannot_be_parted : He5.DefA := ⟨fun K => He.ga K "cannot_be_parted", "cannot_be_parted", "cannot_be_parted", defArgs s_cannot_be_parted, defBody s_cannot_be_parted, defScope s_cannot_be_parted, [], []⟩
def d_check_prime : He5.DefA := ⟨fun K => He.ga K "check_prime", "check_prime", "check_prime", defArgs s_check_prime, defBody s_check_prime, defScope s_check_prime, [], []⟩
def d_is_modulus : He5.DefA := ⟨fun K => He.ga K "is_modulus", "is_modulus", "is_modulus", defArgs s_is_modulus, defBody s_is_modulus, defScope s_is_modulus, [], []⟩
def d_units_of : He5.DefA := ⟨fun K => He.ga K "units_of", "units_of", "units_of", defArgs s_units_of, defBody s_units_of, defScope s_units_of, [], []⟩
def d_figures_in : He5.DefA := ⟨fun K => He.ga K "figures_in", "figures_in", "figures_in", defArgs s_figures_in, defBody s_figures_in, defScope s_figures_in, [], []⟩
def d_told_by : He5.DefA := ⟨fun K => He.ga K "told_by", "told_by", "told_by", defArgs s_told_by, defBody s_told_by, defScope s_told_by, [], []⟩
def d_powers_of : He5.DefA := ⟨fun K => He.ga K "powers_of", "powers_of", "powers_of", defArgs s_powers_of, defBody s_powers_of, defScope s_powers_of, [], []⟩
def d_all_by_powers : He5.DefA := ⟨fun K => He.ga K "all_by_powers", "all_by_powers", "all_by_powers", defArgs s_all_by_powers, defBody s_all_by_powers, defScope s_all_by_powers, [], []⟩
def d_Field_dot___init__ : He5.DefA := ⟨fun K => He.ma K (He.ga K "Field") "__init__", "__init__", "Field.__init__", defArgs s_Field_dot___init__, defBody s_Field_dot___init__, defScope s_Field_dot___init__, [], []⟩
def d_Field_dot_prime : He5.DefA := ⟨fun K => gtr K "Field" "prime", "prime", "Field.prime", defArgs s_Field_dot_prime, defBody s_Field_dot_prime, defScope s_Field_dot_prime, [], []⟩
def d_Field_dot_size : He5.DefA := ⟨fun K => gtr K "Field" "size", "size", "Field.size", defArgs s_Field_dot_size, defBody s_Field_dot_size, defScope s_Field_dot_size, [], []⟩
def d_Field_dot_figures_of : He5.DefA := ⟨fun K => He.ma K (He.ga K "Field") "figures_of", "figures_of", "Field.figures_of", defArgs s_Field_dot_figures_of, defBody s_Field_dot_figures_of, defScope s_Field_dot_figures_of, [], []⟩
def d_Field_dot_with_figures : He5.DefA := ⟨fun K => He.ma K (He.ga K "Field") "with_figures", "with_figures", "Field.with_figures", defArgs s_Field_dot_with_figures, defBody s_Field_dot_with_figures, defScope s_Field_dot_with_figures, [], []⟩
def d_Field_dot_added : He5.DefA := ⟨fun K => He.ma K (He.ga K "Field") "added", "added", "Field.added", defArgs s_Field_dot_added, defBody s_Field_dot_added, defScope s_Field_dot_added, [], []⟩
def d_Field_dot_taken : He5.DefA := ⟨fun K => He.ma K (He.ga K "Field") "taken", "taken", "Field.taken", defArgs s_Field_dot_taken, defBody s_Field_dot_taken, defScope s_Field_dot_taken, [], []⟩
def d_Field_dot_multiplied : He5.DefA := ⟨fun K => He.ma K (He.ga K "Field") "multiplied", "multiplied", "Field.multiplied", defArgs s_Field_dot_multiplied, defBody s_Field_dot_multiplied, defScope s_Field_dot_multiplied, [], []⟩
def d_Field_dot_divided : He5.DefA := ⟨fun K => He.ma K (He.ga K "Field") "divided", "divided", "Field.divided", defArgs s_Field_dot_divided, defBody s_Field_dot_divided, defScope s_Field_dot_divided, [], []⟩
def d_Field_dot_raised : He5.DefA := ⟨fun K => He.ma K (He.ga K "Field") "raised", "raised", "Field.raised", defArgs s_Field_dot_raised, defBody s_Field_dot_raised, defScope s_Field_dot_raised, [], []⟩
def d_is_one_of : He5.DefA := ⟨fun K => He.ga K "is_one_of", "is_one_of", "is_one_of", defArgs s_is_one_of, defBody s_is_one_of, defScope s_is_one_of, [], []⟩
def d_check_field : He5.DefA := ⟨fun K => He.ga K "check_field", "check_field", "check_field", defArgs s_check_field, defBody s_check_field, defScope s_check_field, [], []⟩
def d_check_one : He5.DefA := ⟨fun K => He.ga K "check_one", "check_one", "check_one", defArgs s_check_one, defBody s_check_one, defScope s_check_one, [], []⟩
def d_check_many : He5.DefA := ⟨fun K => He.ga K "check_many", "check_many", "check_many", defArgs s_check_many, defBody s_check_many, defScope s_check_many, [], []⟩
def d_check_two : He5.DefA := ⟨fun K => He.ga K "check_two", "check_two", "check_two", defArgs s_check_two, defBody s_check_two, defScope s_check_two, [], []⟩
def d_plus : He5.DefA := ⟨fun K => He.ga K "plus", "plus", "plus", defArgs s_plus, defBody s_plus, defScope s_plus, [], []⟩
def d_minus : He5.DefA := ⟨fun K => He.ga K "minus", "minus", "minus", defArgs s_minus, defBody s_minus, defScope s_minus, [], []⟩
def d_times : He5.DefA := ⟨fun K => He.ga K "times", "times", "times", defArgs s_times, defBody s_times, defScope s_times, [], []⟩
def d_over : He5.DefA := ⟨fun K => He.ga K "over", "over", "over", defArgs s_over, defBody s_over, defScope s_over, [], []⟩
def d_check_one_many : He5.DefA := ⟨fun K => He.ga K "check_one_many", "check_one_many", "check_one_many", defArgs s_check_one_many, defBody s_check_one_many, defScope s_check_one_many, [], []⟩
def d_power : He5.DefA := ⟨fun K => He.ga K "power", "power", "power", defArgs s_power, defBody s_power, defScope s_power, [], []⟩
def d_law_pot : He5.DefA := ⟨fun K => He.ga K "_law_pot", "_law_pot", "_law_pot", defArgs s_law_pot, defBody s_law_pot, defScope s_law_pot, [], []⟩
def d_law_draw : He5.DefA := ⟨fun K => He.ga K "_law_draw", "_law_draw", "_law_draw", defArgs s_law_draw, defBody s_law_draw, defScope s_law_draw, [], []⟩
def d_law_pick : He5.DefA := ⟨fun K => He.ga K "_law_pick", "_law_pick", "_law_pick", defArgs s_law_pick, defBody s_law_pick, defScope s_law_pick, [], []⟩
def d_law_field : He5.DefA := ⟨fun K => He.ga K "_law_field", "_law_field", "_law_field", defArgs s_law_field, defBody s_law_field, defScope s_law_field, [], []⟩
def d_law_three_right : He5.DefA := ⟨fun K => He.ga K "_law_three_right", "_law_three_right", "_law_three_right", defArgs s_law_three_right, defBody s_law_three_right, defScope s_law_three_right, [], []⟩
def d_law_all_right : He5.DefA := ⟨fun K => He.ga K "_law_all_right", "_law_all_right", "_law_all_right", defArgs s_law_all_right, defBody s_law_all_right, defScope s_law_all_right, [], []⟩
def d_law_is_refused : He5.DefA := ⟨fun K => He.ga K "_law_is_refused", "_law_is_refused", "_law_is_refused", defArgs s_law_is_refused, defBody s_law_is_refused, defScope s_law_is_refused, [], []⟩
def d_law_right : He5.DefA := ⟨fun K => He.ga K "_law_right", "_law_right", "_law_right", defArgs s_law_right, defBody s_law_right, defScope s_law_right, [], []⟩
def d_law : He5.DefA := ⟨fun K => He.ga K "law", "law", "law", defArgs s_law, defBody s_law, defScope s_law, [], []⟩
def fn : List He5.DefA := [d_is_integer, d_is_count, d_is_below, d_is_list, d_are_below, d_without_noughts, d_product_of, d_inverse_of, d_rest_of, d_common_of, d_power_rest, d_less_x, d_cannot_be_parted, d_check_prime, d_is_modulus, d_units_of, d_figures_in, d_told_by, d_powers_of, d_all_by_powers, d_Field_dot___init__, d_Field_dot_prime, d_Field_dot_size, d_Field_dot_figures_of, d_Field_dot_with_figures, d_Field_dot_added, d_Field_dot_taken, d_Field_dot_multiplied, d_Field_dot_divided, d_Field_dot_raised, d_is_one_of, d_check_field, d_check_one, d_check_many, d_check_two, d_plus, d_minus, d_times, d_over, d_check_one_many, d_power, d_law_pot, d_law_draw, d_law_pick, d_law_field, d_law_three_right, d_law_all_right, d_law_is_refused, d_law_right, d_law]
def fa : List He.Fa := [.glo "is_integer", .glo "is_count", .glo "is_below", .glo "is_list", .glo "are_below", .glo "without_noughts", .glo "product_of", .glo "inverse_of", .glo "rest_of", .glo "common_of", .glo "power_rest", .glo "less_x", .glo "cannot_be_parted", .glo "check_prime", .glo "is_modulus", .glo "units_of", .glo "figures_in", .glo "told_by", .glo "powers_of", .glo "all_by_powers", .glo "is_one_of", .glo "check_field", .glo "check_one", .glo "check_many", .glo "check_two", .glo "plus", .glo "minus", .glo "times", .glo "over", .glo "check_one_many", .glo "power", .glo "_law_pot", .glo "_law_draw", .glo "_law_pick", .glo "_law_field", .glo "_law_three_right", .glo "_law_all_right", .glo "_law_is_refused", .glo "_law_right", .glo "law", .glo "TurnError", .glo "InvalidElement", .glo "InvalidField", .glo "InvalidMany", .glo "InvalidModulus", .glo "InvalidPrime", .glo "StateError", .glo "DividedByNought", .glo "LimitError", .glo "TooMany", .glo "Field", .glo "PRIMES", .int "MOST_NUMBERS" 13, .int "MOST_ELEMENTS" 128, .int "MOST_POWER" 1000, .free "isinstance", .free "int", .free "bool", .free "list", .free "tuple", .free "len", .free "all", .free "range", .free "enumerate", .free "zip", .free "max", .free "abs", .free "sum", .free "divmod", .free "sorted", .free "ValueError", .free "property", .cls "Field", .mkr "Field", .meth "Field" "modulus", .meth "Field" "figures_of", .meth "Field" "with_figures", .meth "Field" "added", .meth "Field" "taken", .meth "Field" "multiplied", .meth "Field" "divided", .meth "Field" "raised", .meth "Field" "turned", .noat "Field" "_exponents", .noat "Field" "_modulus", .noat "Field" "_powers", .noat "Field" "_prime", .noat "Field" "_size", .noat "Field" "_units"]
def ex : Fr → Bool := fun K => (primesB K && (fieldB K && (excRB K "DividedByNought" && (decide (PySem.W.exmOne K (.ref (He.ga K "DividedByNought")) (.ref (He.ga K "DividedByNought")) = some true) && (propB K "Field" "prime" && propB K "Field" "size")))))
abbrev R : PySem.W.OpenRow := PySem.W.OpenLaw.row PySem.Challenge.rw_turnpowers_k18_whole_fields_as_fields
abbrev hk : PySem.W.Hook := hookM 6 fa fn ex
def ob (s : PySem.W.SharedT) : AlM := obsMG 6 fa fn ex (HandSHeadRun.getT s)
theorem ob_eq (s : PySem.W.SharedT) : ob s = hk.obs s.abs := obsMG_eq (HandSHeadRun.getT_eq s)
def nm0 : List Str := ["is_integer", "is_count", "is_below", "is_list", "are_below", "without_noughts", "TurnError", "InvalidElement", "InvalidField", "InvalidMany", "InvalidModulus", "InvalidPrime", "StateError", "DividedByNought", "LimitError", "TooMany", "product_of", "inverse_of", "rest_of", "common_of", "power_rest", "less_x", "cannot_be_parted", "PRIMES", "MOST_NUMBERS", "MOST_ELEMENTS", "check_prime", "is_modulus", "units_of", "figures_in"]
def nm1 : List Str := ["told_by", "powers_of", "all_by_powers", "Field", "is_one_of", "check_field", "check_one", "check_many", "MOST_POWER", "check_two", "plus", "minus", "times", "over", "check_one_many", "power", "_law_pot", "_law_draw", "_law_pick", "_law_field", "_law_three_right", "_law_all_right", "_law_is_refused", "_law_right"]
def nms : List Str := nm0 ++ nm1
theorem run (w : World) : HandSHeadRun.RunEq R (PySem.W.view R.prog [61]) hk ob 6000 nms w := by
  intro os
  kernel_rfl
end A18
/-! A18 -/
set_option maxHeartbeats 0
namespace A18
open PySem PySem.Spec PyProof.Rows L2 TP
section
variable {P : Program} {w : World} {K : Fr} {h : Heap} {mg : Str → Option Value} {base : Heap}
theorem hu_of {k : Nat} {A : Around} (hr : Room k A) : A.units + 1 < cLine := by have := hr.units; omega
theorem b_law_draw {f : Addr} {fd : FuncData} (F : FunD K "_law_draw" "_law_draw" (defArgs s_law_draw) (defBody s_law_draw) (defScope s_law_draw) [] [] f fd) : Binds K fd ["_law_pot_here", "_law_sides"] [] := F.bindsN fun _ _ _ _ _ _ us hl => match us, hl with | [_, _], _ => rfl
theorem b_law_pick {f : Addr} {fd : FuncData} (F : FunD K "_law_pick" "_law_pick" (defArgs s_law_pick) (defBody s_law_pick) (defScope s_law_pick) [] [] f fd) : Binds K fd ["_law_pot_here", "_law_some"] [] := F.bindsN fun _ _ _ _ _ _ us hl => match us, hl with | [_, _], _ => rfl
theorem b_law_field {f : Addr} {fd : FuncData} (F : FunD K "_law_field" "_law_field" (defArgs s_law_field) (defBody s_law_field) (defScope s_law_field) [] [] f fd) : Binds K fd ["_law_pot_here"] [] := F.bindsN fun _ _ _ _ _ _ us hl => match us, hl with | [_], _ => rfl
theorem b_is_integer {f : Addr} {fd : FuncData} (F : FunD K "is_integer" "is_integer" (defArgs s_is_integer) (defBody s_is_integer) (defScope s_is_integer) [] [] f fd) : Binds K fd ["value"] [] := F.bindsN fun _ _ _ _ _ _ us hl => match us, hl with | [_], _ => rfl
theorem b_check_prime {f : Addr} {fd : FuncData} (F : FunD K "check_prime" "check_prime" (defArgs s_check_prime) (defBody s_check_prime) (defScope s_check_prime) [] [] f fd) : Binds K fd ["value"] [] := F.bindsN fun _ _ _ _ _ _ us hl => match us, hl with | [_], _ => rfl
theorem b_is_list {f : Addr} {fd : FuncData} (F : FunD K "is_list" "is_list" (defArgs s_is_list) (defBody s_is_list) (defScope s_is_list) [] [] f fd) : Binds K fd ["value"] [] := F.bindsN fun _ _ _ _ _ _ us hl => match us, hl with | [_], _ => rfl
theorem b_is_count {f : Addr} {fd : FuncData} (F : FunD K "is_count" "is_count" (defArgs s_is_count) (defBody s_is_count) (defScope s_is_count) [] [] f fd) : Binds K fd ["value"] [] := F.bindsN fun _ _ _ _ _ _ us hl => match us, hl with | [_], _ => rfl
theorem b_is_below {f : Addr} {fd : FuncData} (F : FunD K "is_below" "is_below" (defArgs s_is_below) (defBody s_is_below) (defScope s_is_below) [] [] f fd) : Binds K fd ["value", "bound"] [] := F.bindsN fun _ _ _ _ _ _ us hl => match us, hl with | [_, _], _ => rfl
theorem b_are_below {f : Addr} {fd : FuncData} (F : FunD K "are_below" "are_below" (defArgs s_are_below) (defBody s_are_below) (defScope s_are_below) [] [] f fd) : Binds K fd ["value", "bound"] [] := F.bindsN fun _ _ _ _ _ _ us hl => match us, hl with | [_, _], _ => rfl
theorem b_inverse_of {f : Addr} {fd : FuncData} (F : FunD K "inverse_of" "inverse_of" (defArgs s_inverse_of) (defBody s_inverse_of) (defScope s_inverse_of) [] [] f fd) : Binds K fd ["prime", "figure"] [] := F.bindsN fun _ _ _ _ _ _ us hl => match us, hl with | [_, _], _ => rfl
theorem b_without_noughts {f : Addr} {fd : FuncData} (F : FunD K "without_noughts" "without_noughts" (defArgs s_without_noughts) (defBody s_without_noughts) (defScope s_without_noughts) [] [] f fd) : Binds K fd ["row"] [] := F.bindsN fun _ _ _ _ _ _ us hl => match us, hl with | [_], _ => rfl
theorem b_rest_of {f : Addr} {fd : FuncData} (F : FunD K "rest_of" "rest_of" (defArgs s_rest_of) (defBody s_rest_of) (defScope s_rest_of) [] [] f fd) : Binds K fd ["prime", "one", "other"] [] := F.bindsN fun _ _ _ _ _ _ us hl => match us, hl with | [_, _, _], _ => rfl
theorem b_product_of {f : Addr} {fd : FuncData} (F : FunD K "product_of" "product_of" (defArgs s_product_of) (defBody s_product_of) (defScope s_product_of) [] [] f fd) : Binds K fd ["prime", "one", "other"] [] := F.bindsN fun _ _ _ _ _ _ us hl => match us, hl with | [_, _, _], _ => rfl
theorem b_power_rest {f : Addr} {fd : FuncData} (F : FunD K "power_rest" "power_rest" (defArgs s_power_rest) (defBody s_power_rest) (defScope s_power_rest) [] [] f fd) : Binds K fd ["prime", "one", "many", "modulus"] [] := F.bindsN fun _ _ _ _ _ _ us hl => match us, hl with | [_, _, _, _], _ => rfl
theorem b_common_of {f : Addr} {fd : FuncData} (F : FunD K "common_of" "common_of" (defArgs s_common_of) (defBody s_common_of) (defScope s_common_of) [] [] f fd) : Binds K fd ["prime", "one", "other"] [] := F.bindsN fun _ _ _ _ _ _ us hl => match us, hl with | [_, _, _], _ => rfl
theorem b_less_x {f : Addr} {fd : FuncData} (F : FunD K "less_x" "less_x" (defArgs s_less_x) (defBody s_less_x) (defScope s_less_x) [] [] f fd) : Binds K fd ["prime", "one"] [] := F.bindsN fun _ _ _ _ _ _ us hl => match us, hl with | [_, _], _ => rfl
theorem b_cannot_be_parted {f : Addr} {fd : FuncData} (F : FunD K "cannot_be_parted" "cannot_be_parted" (defArgs s_cannot_be_parted) (defBody s_cannot_be_parted) (defScope s_cannot_be_parted) [] [] f fd) : Binds K fd ["prime", "modulus"] [] := F.bindsN fun _ _ _ _ _ _ us hl => match us, hl with | [_, _], _ => rfl
theorem b_is_modulus {f : Addr} {fd : FuncData} (F : FunD K "is_modulus" "is_modulus" (defArgs s_is_modulus) (defBody s_is_modulus) (defScope s_is_modulus) [] [] f fd) : Binds K fd ["prime", "value"] [] := F.bindsN fun _ _ _ _ _ _ us hl => match us, hl with | [_, _], _ => rfl
theorem b_units_of {f : Addr} {fd : FuncData} (F : FunD K "units_of" "units_of" (defArgs s_units_of) (defBody s_units_of) (defScope s_units_of) [] [] f fd) : Binds K fd ["prime", "turns"] [] := F.bindsN fun _ _ _ _ _ _ us hl => match us, hl with | [_, _], _ => rfl
theorem b_figures_in {f : Addr} {fd : FuncData} (F : FunD K "figures_in" "figures_in" (defArgs s_figures_in) (defBody s_figures_in) (defScope s_figures_in) [] [] f fd) : Binds K fd ["prime", "turns", "one"] [] := F.bindsN fun _ _ _ _ _ _ us hl => match us, hl with | [_, _, _], _ => rfl
theorem b_told_by {f : Addr} {fd : FuncData} (F : FunD K "told_by" "told_by" (defArgs s_told_by) (defBody s_told_by) (defScope s_told_by) [] [] f fd) : Binds K fd ["figures", "units"] [] := F.bindsN fun _ _ _ _ _ _ us hl => match us, hl with | [_, _], _ => rfl
theorem b_powers_of {f : Addr} {fd : FuncData} (F : FunD K "powers_of" "powers_of" (defArgs s_powers_of) (defBody s_powers_of) (defScope s_powers_of) [] [] f fd) : Binds K fd ["prime", "modulus", "one"] [] := F.bindsN fun _ _ _ _ _ _ us hl => match us, hl with | [_, _, _], _ => rfl
theorem b_all_by_powers {f : Addr} {fd : FuncData} (F : FunD K "all_by_powers" "all_by_powers" (defArgs s_all_by_powers) (defBody s_all_by_powers) (defScope s_all_by_powers) [] [] f fd) : Binds K fd ["prime", "modulus", "size"] [] := F.bindsN fun _ _ _ _ _ _ us hl => match us, hl with | [_, _, _], _ => rfl
theorem b_Field_dot___init__ {f : Addr} {fd : FuncData} (F : FunD K "__init__" "Field.__init__" (defArgs s_Field_dot___init__) (defBody s_Field_dot___init__) (defScope s_Field_dot___init__) [] [] f fd) : Binds K fd ["self", "prime", "modulus"] [] := F.bindsN fun _ _ _ _ _ _ us hl => match us, hl with | [_, _, _], _ => rfl
theorem b_Field_dot_size {f : Addr} {fd : FuncData} (F : FunD K "size" "Field.size" (defArgs s_Field_dot_size) (defBody s_Field_dot_size) (defScope s_Field_dot_size) [] [] f fd) : Binds K fd ["self"] [] := F.bindsN fun _ _ _ _ _ _ us hl => match us, hl with | [_], _ => rfl
theorem b_check_field {f : Addr} {fd : FuncData} (F : FunD K "check_field" "check_field" (defArgs s_check_field) (defBody s_check_field) (defScope s_check_field) [] [] f fd) : Binds K fd ["value"] [] := F.bindsN fun _ _ _ _ _ _ us hl => match us, hl with | [_], _ => rfl
theorem b_is_one_of {f : Addr} {fd : FuncData} (F : FunD K "is_one_of" "is_one_of" (defArgs s_is_one_of) (defBody s_is_one_of) (defScope s_is_one_of) [] [] f fd) : Binds K fd ["field", "value"] [] := F.bindsN fun _ _ _ _ _ _ us hl => match us, hl with | [_, _], _ => rfl
theorem b_check_one {f : Addr} {fd : FuncData} (F : FunD K "check_one" "check_one" (defArgs s_check_one) (defBody s_check_one) (defScope s_check_one) [] [] f fd) : Binds K fd ["field", "value"] [] := F.bindsN fun _ _ _ _ _ _ us hl => match us, hl with | [_, _], _ => rfl
theorem b_check_two {f : Addr} {fd : FuncData} (F : FunD K "check_two" "check_two" (defArgs s_check_two) (defBody s_check_two) (defScope s_check_two) [] [] f fd) : Binds K fd ["field", "one", "other"] [] := F.bindsN fun _ _ _ _ _ _ us hl => match us, hl with | [_, _, _], _ => rfl
theorem b_Field_dot_figures_of {f : Addr} {fd : FuncData} (F : FunD K "figures_of" "Field.figures_of" (defArgs s_Field_dot_figures_of) (defBody s_Field_dot_figures_of) (defScope s_Field_dot_figures_of) [] [] f fd) : Binds K fd ["self", "one"] [] := F.bindsN fun _ _ _ _ _ _ us hl => match us, hl with | [_, _], _ => rfl
theorem b_Field_dot_with_figures {f : Addr} {fd : FuncData} (F : FunD K "with_figures" "Field.with_figures" (defArgs s_Field_dot_with_figures) (defBody s_Field_dot_with_figures) (defScope s_Field_dot_with_figures) [] [] f fd) : Binds K fd ["self", "figures"] [] := F.bindsN fun _ _ _ _ _ _ us hl => match us, hl with | [_, _], _ => rfl
theorem b_Field_dot_added {f : Addr} {fd : FuncData} (F : FunD K "added" "Field.added" (defArgs s_Field_dot_added) (defBody s_Field_dot_added) (defScope s_Field_dot_added) [] [] f fd) : Binds K fd ["self", "one", "other"] [] := F.bindsN fun _ _ _ _ _ _ us hl => match us, hl with | [_, _, _], _ => rfl
theorem b_plus {f : Addr} {fd : FuncData} (F : FunD K "plus" "plus" (defArgs s_plus) (defBody s_plus) (defScope s_plus) [] [] f fd) : Binds K fd ["field", "one", "other"] [] := F.bindsN fun _ _ _ _ _ _ us hl => match us, hl with | [_, _, _], _ => rfl
theorem b_Field_dot_multiplied {f : Addr} {fd : FuncData} (F : FunD K "multiplied" "Field.multiplied" (defArgs s_Field_dot_multiplied) (defBody s_Field_dot_multiplied) (defScope s_Field_dot_multiplied) [] [] f fd) : Binds K fd ["self", "one", "other"] [] := F.bindsN fun _ _ _ _ _ _ us hl => match us, hl with | [_, _, _], _ => rfl
theorem b_times {f : Addr} {fd : FuncData} (F : FunD K "times" "times" (defArgs s_times) (defBody s_times) (defScope s_times) [] [] f fd) : Binds K fd ["field", "one", "other"] [] := F.bindsN fun _ _ _ _ _ _ us hl => match us, hl with | [_, _, _], _ => rfl
theorem b_Field_dot_taken {f : Addr} {fd : FuncData} (F : FunD K "taken" "Field.taken" (defArgs s_Field_dot_taken) (defBody s_Field_dot_taken) (defScope s_Field_dot_taken) [] [] f fd) : Binds K fd ["self", "one", "other"] [] := F.bindsN fun _ _ _ _ _ _ us hl => match us, hl with | [_, _, _], _ => rfl
theorem b_minus {f : Addr} {fd : FuncData} (F : FunD K "minus" "minus" (defArgs s_minus) (defBody s_minus) (defScope s_minus) [] [] f fd) : Binds K fd ["field", "one", "other"] [] := F.bindsN fun _ _ _ _ _ _ us hl => match us, hl with | [_, _, _], _ => rfl
theorem b_Field_dot_prime {f : Addr} {fd : FuncData} (F : FunD K "prime" "Field.prime" (defArgs s_Field_dot_prime) (defBody s_Field_dot_prime) (defScope s_Field_dot_prime) [] [] f fd) : Binds K fd ["self"] [] := F.bindsN fun _ _ _ _ _ _ us hl => match us, hl with | [_], _ => rfl
theorem b_Field_dot_divided {f : Addr} {fd : FuncData} (F : FunD K "divided" "Field.divided" (defArgs s_Field_dot_divided) (defBody s_Field_dot_divided) (defScope s_Field_dot_divided) [] [] f fd) : Binds K fd ["self", "one", "other"] [] := F.bindsN fun _ _ _ _ _ _ us hl => match us, hl with | [_, _, _], _ => rfl
theorem b_over {f : Addr} {fd : FuncData} (F : FunD K "over" "over" (defArgs s_over) (defBody s_over) (defScope s_over) [] [] f fd) : Binds K fd ["field", "one", "other"] [] := F.bindsN fun _ _ _ _ _ _ us hl => match us, hl with | [_, _, _], _ => rfl
theorem b_law_three_right {f : Addr} {fd : FuncData} (F : FunD K "_law_three_right" "_law_three_right" (defArgs s_law_three_right) (defBody s_law_three_right) (defScope s_law_three_right) [] [] f fd) : Binds K fd ["_law_field_here", "_law_one", "_law_two", "_law_three"] [] := F.bindsN fun _ _ _ _ _ _ us hl => match us, hl with | [_, _, _, _], _ => rfl
theorem b_law_is_refused {f : Addr} {fd : FuncData} (F : FunD K "_law_is_refused" "_law_is_refused" (defArgs s_law_is_refused) (defBody s_law_is_refused) (defScope s_law_is_refused) [] [] f fd) : Binds K fd ["_law_field_here", "_law_one"] [] := F.bindsN fun _ _ _ _ _ _ us hl => match us, hl with | [_, _], _ => rfl
theorem b_check_many {f : Addr} {fd : FuncData} (F : FunD K "check_many" "check_many" (defArgs s_check_many) (defBody s_check_many) (defScope s_check_many) [] [] f fd) : Binds K fd ["value", "most"] [] := F.bindsN fun _ _ _ _ _ _ us hl => match us, hl with | [_, _], _ => rfl
theorem b_check_one_many {f : Addr} {fd : FuncData} (F : FunD K "check_one_many" "check_one_many" (defArgs s_check_one_many) (defBody s_check_one_many) (defScope s_check_one_many) [] [] f fd) : Binds K fd ["field", "one", "many", "most"] [] := F.bindsN fun _ _ _ _ _ _ us hl => match us, hl with | [_, _, _, _], _ => rfl
theorem b_Field_dot_raised {f : Addr} {fd : FuncData} (F : FunD K "raised" "Field.raised" (defArgs s_Field_dot_raised) (defBody s_Field_dot_raised) (defScope s_Field_dot_raised) [] [] f fd) : Binds K fd ["self", "one", "many"] [] := F.bindsN fun _ _ _ _ _ _ us hl => match us, hl with | [_, _, _], _ => rfl
theorem b_power {f : Addr} {fd : FuncData} (F : FunD K "power" "power" (defArgs s_power) (defBody s_power) (defScope s_power) [] [] f fd) : Binds K fd ["field", "one", "many"] [] := F.bindsN fun _ _ _ _ _ _ us hl => match us, hl with | [_, _, _], _ => rfl
theorem b_law_all_right {f : Addr} {fd : FuncData} (F : FunD K "_law_all_right" "_law_all_right" (defArgs s_law_all_right) (defBody s_law_all_right) (defScope s_law_all_right) [] [] f fd) : Binds K fd ["_law_field_here", "_law_one"] [] := F.bindsN fun _ _ _ _ _ _ us hl => match us, hl with | [_, _], _ => rfl
theorem b_law_right {f : Addr} {fd : FuncData} (F : FunD K "_law_right" "_law_right" (defArgs s_law_right) (defBody s_law_right) (defScope s_law_right) [] [] f fd) : Binds K fd ["_law_pot_here"] [] := F.bindsN fun _ _ _ _ _ _ us hl => match us, hl with | [_], _ => rfl
theorem b_law_pot {f : Addr} {fd : FuncData} (F : FunD K "_law_pot" "_law_pot" (defArgs s_law_pot) (defBody s_law_pot) (defScope s_law_pot) [] [] f fd) : Binds K fd ["_law_script", "_law_k"] [] := F.bindsN fun _ _ _ _ _ _ us hl => match us, hl with | [_, _], _ => rfl
theorem b_law {f : Addr} {fd : FuncData} (F : FunD K "law" "law" (defArgs s_law) (defBody s_law) (defScope s_law) [] [] f fd) : Binds K fd ["_law_script"] [] := F.bindsN fun _ _ _ _ _ _ us hl => match us, hl with | [_], _ => rfl
theorem primes_ok (c : SaysM fa fn ex K) : PrimesOk K := fun H => He.tupB_ok (He.ba c.2).1 H
theorem field_ok (c : SaysM fa fn ex K) : FieldCls K := fieldB_ok (He.ba (He.ba c.2).2).1
theorem prop_prime (c : SaysM fa fn ex K) : ∃ p, PropOf K (He.ga K "Field") "prime" p (gtr K "Field" "prime") := propB_ok (He.ba (He.ba (He.ba (He.ba (He.ba c.2).2).2).2).2).1
theorem prop_size (c : SaysM fa fn ex K) : ∃ p, PropOf K (He.ga K "Field") "size" p (gtr K "Field" "size") := propB_ok (He.ba (He.ba (He.ba (He.ba (He.ba c.2).2).2).2).2).2
theorem exc_DividedByNought (c : SaysM fa fn ex K) : PySem.W.excIn K (He.ga K "DividedByNought") rtBase "RuntimeError.__new__" = true ∧ PySem.W.keepIn K (.ref (He.ga K "DividedByNought")) = true ∧ PySem.W.subIn K (.ref (He.ga K "DividedByNought")) (.type "BaseException") = some true ∧ PySem.W.typeIn K (.ref (He.ga K "DividedByNought")) = some (.type "type") := excRB_ok (He.ba (He.ba (He.ba c.2).2).2).1
theorem exm_ok (c : SaysM fa fn ex K) : PySem.W.exmOne K (.ref (He.ga K "DividedByNought")) (.ref (He.ga K "DividedByNought")) = some true := of_decide_eq_true (He.ba (He.ba (He.ba (He.ba c.2).2).2).2).1
theorem ok_law_draw (KX : K.In h) (G : h.Ns mainGlobals mg) (c : SaysM fa fn ex K) : ∃ fd, FunD K "_law_draw" "_law_draw" (defArgs s_law_draw) (defBody s_law_draw) (defScope s_law_draw) [] [] (d_law_draw.at_ K) fd ∧ FnOk P w K mg base CX0 1 (d_law_draw.at_ K) fd ["_law_pot_here", "_law_sides"] (sp_law_draw K) := by
  obtain ⟨fd, F⟩ := c.1.def_ 42 (d := d_law_draw) rfl
  refine ⟨fd, F, F.ok sc_law_draw len_law_draw (fun cdv A outer s H vs Q E hr h => ⟨t_law_draw K, PSs.nox ?_, pure_law_draw vs H Q E h⟩)⟩
  exact (pss_cons (ps_if (pt_cmpR op_gt (pe_ix ix_list (pv 0) pe_int (fun _ _ => rfl)) pe_int (nomark _)) (pss_cons (ps_asg (pe_callB call_divmod (by rfl) (He.free_ok KX G (c.1.fact 68)) (by decide +kernel) (pa_cons (pe_ix ix_list (pv 0) pe_int (fun _ _ => rfl)) (pa_cons (pv 1) pa_nil))) (pg_tup rfl (pgs_cons (pg_sub (pv 0) pe_int set_list) (pgs_cons (pg_name (i := 2) sc_law_draw.nd rfl (by first | exact Or.inl rfl | exact Or.inr rfl)) pgs_nil)))) (pss_one (ps_ret (pv 2)))) pss_nil) (pss_cons (ps_asg (pe_op op_mod (pe_callTy call_int1 (by rfl) (He.free_ok KX G (c.1.fact 56)) (by decide +kernel) (pa_cons (pe_op op_add (pe_op op_mul (pe_ix ix_list (pv 0) pe_int (fun _ _ => rfl)) pe_int) pe_int) pa_nil)) pe_int) (pg_sub (pv 0) pe_int set_list)) (pss_one (ps_ret (pe_op op_mod (pe_callTy call_int1 (by rfl) (He.free_ok KX G (c.1.fact 56)) (by decide +kernel) (pa_cons (pe_op op_fdiv (pe_op op_mod (pe_callTy call_int1 (by rfl) (He.free_ok KX G (c.1.fact 56)) (by decide +kernel) (pa_cons (pe_op op_mul (pe_ix ix_list (pv 0) pe_int (fun _ _ => rfl)) (pe_ix ix_list (pv 0) pe_int (fun _ _ => rfl))) pa_nil)) pe_int) pe_int) pa_nil)) (pv 1))))))
theorem ok_law_pick (KX : K.In h) (G : h.Ns mainGlobals mg) (c : SaysM fa fn ex K) : ∃ fd, FunD K "_law_pick" "_law_pick" (defArgs s_law_pick) (defBody s_law_pick) (defScope s_law_pick) [] [] (d_law_pick.at_ K) fd ∧ FnOk P w K mg base CX0 2 (d_law_pick.at_ K) fd ["_law_pot_here", "_law_some"] (sp_law_pick K) := by
  obtain ⟨fd_law_draw, F_law_draw, g_law_draw⟩ := ok_law_draw (P := P) (w := w) (base := base) KX G c
  obtain ⟨fd, F⟩ := c.1.def_ 43 (d := d_law_pick) rfl
  refine ⟨fd, F, F.ok sc_law_pick len_law_pick (fun cdv A outer s H vs Q E hr h => ⟨t_law_pick K, PSs.nox ?_, pure_law_pick vs H Q E h⟩)⟩
  exact (pss_one (ps_ret (pe_ix ix_list (pv 1) (pe_call g_law_draw (hr.mono (by decide)) rfl (He.glo_ok KX G (c.1.fact 32)) F_law_draw.kp (b_law_draw F_law_draw) .nil pass0 (pa_cons (pv 0) (pa_cons (pe_callB call_len_seq (by rfl) (He.free_ok KX G (c.1.fact 60)) (by decide +kernel) (pa_cons (pv 1) pa_nil)) pa_nil))) (fun _ _ => rfl))))
theorem ok_law_field (KX : K.In h) (G : h.Ns mainGlobals mg) (c : SaysM fa fn ex K) : ∃ fd, FunD K "_law_field" "_law_field" (defArgs s_law_field) (defBody s_law_field) (defScope s_law_field) [] [] (d_law_field.at_ K) fd ∧ FnOk P w K mg base CX0 3 (d_law_field.at_ K) fd ["_law_pot_here"] (sp_law_field K) := by
  obtain ⟨fd_law_draw, F_law_draw, g_law_draw⟩ := ok_law_draw (P := P) (w := w) (base := base) KX G c
  obtain ⟨fd_law_pick, F_law_pick, g_law_pick⟩ := ok_law_pick (P := P) (w := w) (base := base) KX G c
  obtain ⟨fd, F⟩ := c.1.def_ 44 (d := d_law_field) rfl
  refine ⟨fd, F, F.ok sc_law_field len_law_field (fun cdv A outer s H vs Q E hr h => ⟨t_law_field K, PSs.nox ?_, pure_law_field vs H Q E h⟩)⟩
  exact (pss_cons (ps_set (i := 1) sc_law_field.nd rfl (by first | exact Or.inl rfl | exact Or.inr rfl) (pe_lst (pa_cons (pe_tup (pa_cons pe_int (pa_cons (pe_lst (pa_cons pe_int (pa_cons pe_int (pa_cons pe_int pa_nil)))) pa_nil))) (pa_cons (pe_tup (pa_cons pe_int (pa_cons (pe_lst (pa_cons pe_int (pa_cons pe_int (pa_cons pe_int (pa_cons pe_int pa_nil))))) pa_nil))) (pa_cons (pe_tup (pa_cons pe_int (pa_cons (pe_lst (pa_cons pe_int (pa_cons pe_int (pa_cons pe_int (pa_cons pe_int pa_nil))))) pa_nil))) (pa_cons (pe_tup (pa_cons pe_int (pa_cons (pe_lst (pa_cons pe_int (pa_cons pe_int (pa_cons pe_int (pa_cons pe_int (pa_cons pe_int pa_nil)))))) pa_nil))) pa_nil)))))) (pss_cons (ps_set (i := 1) sc_law_field.nd rfl (by first | exact Or.inl rfl | exact Or.inr rfl) (pe_op op_cat (pv 1) (pe_lst (pa_cons (pe_tup (pa_cons pe_int (pa_cons (pe_lst (pa_cons pe_int (pa_cons pe_int (pa_cons pe_int pa_nil)))) pa_nil))) (pa_cons (pe_tup (pa_cons pe_int (pa_cons (pe_lst (pa_cons pe_int (pa_cons pe_int (pa_cons pe_int pa_nil)))) pa_nil))) (pa_cons (pe_tup (pa_cons pe_int (pa_cons (pe_lst (pa_cons pe_int (pa_cons pe_int (pa_cons pe_int pa_nil)))) pa_nil))) pa_nil)))))) (pss_cons (ps_if (pt_cmpR op_eq (pe_call g_law_draw (hr.mono (by decide)) rfl (He.glo_ok KX G (c.1.fact 32)) F_law_draw.kp (b_law_draw F_law_draw) .nil pass0 (pa_cons (pv 0) (pa_cons pe_int pa_nil))) pe_int (nomark _)) (pss_cons (ps_set (i := 1) sc_law_field.nd rfl (by first | exact Or.inl rfl | exact Or.inr rfl) (pe_lst (pa_cons (pe_tup (pa_cons pe_int (pa_cons (pe_lst (pa_cons pe_int (pa_cons pe_int (pa_cons pe_int (pa_cons pe_int (pa_cons pe_int (pa_cons pe_int pa_nil))))))) pa_nil))) (pa_cons (pe_tup (pa_cons pe_int (pa_cons (pe_lst (pa_cons pe_int (pa_cons pe_int (pa_cons pe_int (pa_cons pe_int (pa_cons pe_int (pa_cons pe_int (pa_cons pe_int pa_nil)))))))) pa_nil))) (pa_cons (pe_tup (pa_cons pe_int (pa_cons (pe_lst (pa_cons pe_int (pa_cons pe_int (pa_cons pe_int (pa_cons pe_int pa_nil))))) pa_nil))) (pa_cons (pe_tup (pa_cons pe_int (pa_cons (pe_lst (pa_cons pe_int (pa_cons pe_int (pa_cons pe_int pa_nil)))) pa_nil))) pa_nil)))))) (pss_one (ps_set (i := 1) sc_law_field.nd rfl (by first | exact Or.inl rfl | exact Or.inr rfl) (pe_op op_cat (pv 1) (pe_lst (pa_cons (pe_tup (pa_cons pe_int (pa_cons (pe_lst (pa_cons pe_int (pa_cons pe_int (pa_cons pe_int (pa_cons pe_int pa_nil))))) pa_nil))) (pa_cons (pe_tup (pa_cons pe_int (pa_cons (pe_lst (pa_cons pe_int (pa_cons pe_int (pa_cons pe_int (pa_cons pe_int (pa_cons pe_int (pa_cons pe_int (pa_cons pe_int (pa_cons pe_int pa_nil))))))))) pa_nil))) (pa_cons (pe_tup (pa_cons pe_int (pa_cons (pe_lst (pa_cons pe_int (pa_cons pe_int (pa_cons pe_int (pa_cons pe_int (pa_cons pe_int pa_nil)))))) pa_nil))) pa_nil)))))))) pss_nil) (pss_one (ps_ret (pe_call g_law_pick (hr.mono (by decide)) rfl (He.glo_ok KX G (c.1.fact 33)) F_law_pick.kp (b_law_pick F_law_pick) .nil pass0 (pa_cons (pv 0) (pa_cons (pv 1) pa_nil))))))))
theorem ok_is_integer (KX : K.In h) (G : h.Ns mainGlobals mg) (c : SaysM fa fn ex K) : ∃ fd, FunD K "is_integer" "is_integer" (defArgs s_is_integer) (defBody s_is_integer) (defScope s_is_integer) [] [] (d_is_integer.at_ K) fd ∧ FnOk P w K mg base CX0 1 (d_is_integer.at_ K) fd ["value"] (sp_is_integer K) := by
  obtain ⟨fd, F⟩ := c.1.def_ 0 (d := d_is_integer) rfl
  refine ⟨fd, F, F.ok sc_is_integer len_is_integer (fun cdv A outer s H vs Q E hr h => ⟨t_is_integer K, PSs.nox ?_, pure_is_integer vs H Q E h⟩)⟩
  exact (pss_one (ps_ret (pe_and (pe_callB call_isi (by rfl) (He.free_ok KX G (c.1.fact 55)) (by decide +kernel) (pa_cons (pv 0) (pa_cons (pe_bltn rfl (He.free_ok KX G (c.1.fact 56)) (by decide +kernel) rfl) pa_nil))) (pe_one (pe_not (pe_callB call_isi (by rfl) (He.free_ok KX G (c.1.fact 55)) (by decide +kernel) (pa_cons (pv 0) (pa_cons (pe_bltn rfl (He.free_ok KX G (c.1.fact 57)) (by decide +kernel) rfl) pa_nil))))))))
theorem ok_check_prime (KX : K.In h) (G : h.Ns mainGlobals mg) (c : SaysM fa fn ex K) : ∃ fd, FunD K "check_prime" "check_prime" (defArgs s_check_prime) (defBody s_check_prime) (defScope s_check_prime) [] [] (d_check_prime.at_ K) fd ∧ FnOk P w K mg base CX0 2 (d_check_prime.at_ K) fd ["value"] (sp_check_prime K) := by
  obtain ⟨fd_is_integer, F_is_integer, g_is_integer⟩ := ok_is_integer (P := P) (w := w) (base := base) KX G c
  obtain ⟨fd, F⟩ := c.1.def_ 13 (d := d_check_prime) rfl
  refine ⟨fd, F, F.ok sc_check_prime len_check_prime (fun cdv A outer s H vs Q E hr h => ⟨t_check_prime K, PSs.nox ?_, pure_check_prime (primes_ok c) vs H Q E h⟩)⟩
  exact (pss_one (ps_if (PW.pt (pw_or (pt_not (pt_val (pe_call g_is_integer (hr.mono (by decide)) rfl (He.glo_ok KX G (c.1.fact 0)) F_is_integer.kp (b_is_integer F_is_integer) .nil pass0 (pa_cons (pv 0) pa_nil)))) (pw_or1 (pt_cmpR op_notIn_seq (pv 0) (pe_glob rfl (He.glo_ok KX G (c.1.fact 51)) rfl) rfl)))) (pss_one ps_never) pss_nil))
theorem ok_is_list (KX : K.In h) (G : h.Ns mainGlobals mg) (c : SaysM fa fn ex K) : ∃ fd, FunD K "is_list" "is_list" (defArgs s_is_list) (defBody s_is_list) (defScope s_is_list) [] [] (d_is_list.at_ K) fd ∧ FnOk P w K mg base CX0 1 (d_is_list.at_ K) fd ["value"] (sp_is_list K) := by
  obtain ⟨fd, F⟩ := c.1.def_ 3 (d := d_is_list) rfl
  refine ⟨fd, F, F.ok sc_is_list len_is_list (fun cdv A outer s H vs Q E hr h => ⟨t_is_list K, PSs.nox ?_, pure_is_list vs H Q E h⟩)⟩
  exact (pss_one (ps_ret (pe_callB call_isiT (by rfl) (He.free_ok KX G (c.1.fact 55)) (by decide +kernel) (pa_cons (pv 0) (pa_cons (pe_tup (pa_cons (pe_bltn rfl (He.free_ok KX G (c.1.fact 58)) (by decide +kernel) rfl) (pa_cons (pe_bltn rfl (He.free_ok KX G (c.1.fact 59)) (by decide +kernel) rfl) pa_nil))) pa_nil)))))
theorem ok_is_count (KX : K.In h) (G : h.Ns mainGlobals mg) (c : SaysM fa fn ex K) : ∃ fd, FunD K "is_count" "is_count" (defArgs s_is_count) (defBody s_is_count) (defScope s_is_count) [] [] (d_is_count.at_ K) fd ∧ FnOk P w K mg base CX0 2 (d_is_count.at_ K) fd ["value"] (sp_is_count K) := by
  obtain ⟨fd_is_integer, F_is_integer, g_is_integer⟩ := ok_is_integer (P := P) (w := w) (base := base) KX G c
  obtain ⟨fd, F⟩ := c.1.def_ 1 (d := d_is_count) rfl
  refine ⟨fd, F, F.ok sc_is_count len_is_count (fun cdv A outer s H vs Q E hr h => ⟨t_is_count K, PSs.nox ?_, pure_is_count vs H Q E h⟩)⟩
  exact (pss_one (ps_ret (pe_and (pe_call g_is_integer (hr.mono (by decide)) rfl (He.glo_ok KX G (c.1.fact 0)) F_is_integer.kp (b_is_integer F_is_integer) .nil pass0 (pa_cons (pv 0) pa_nil)) (pe_one (pe_cmpR op_ge (pv 0) pe_int (nomark _))))))
theorem ok_is_below (KX : K.In h) (G : h.Ns mainGlobals mg) (c : SaysM fa fn ex K) : ∃ fd, FunD K "is_below" "is_below" (defArgs s_is_below) (defBody s_is_below) (defScope s_is_below) [] [] (d_is_below.at_ K) fd ∧ FnOk P w K mg base CX0 3 (d_is_below.at_ K) fd ["value", "bound"] (sp_is_below K) := by
  obtain ⟨fd_is_count, F_is_count, g_is_count⟩ := ok_is_count (P := P) (w := w) (base := base) KX G c
  obtain ⟨fd, F⟩ := c.1.def_ 2 (d := d_is_below) rfl
  refine ⟨fd, F, F.ok sc_is_below len_is_below (fun cdv A outer s H vs Q E hr h => ⟨t_is_below K, PSs.nox ?_, pure_is_below vs H Q E h⟩)⟩
  exact (pss_one (ps_ret (pe_and (pe_call g_is_count (hr.mono (by decide)) rfl (He.glo_ok KX G (c.1.fact 1)) F_is_count.kp (b_is_count F_is_count) .nil pass0 (pa_cons (pv 0) pa_nil)) (pe_one (pe_cmpR op_lt (pv 0) (pv 1) (nomark _))))))
theorem ok_are_below (KX : K.In h) (G : h.Ns mainGlobals mg) (c : SaysM fa fn ex K) : ∃ fd, FunD K "are_below" "are_below" (defArgs s_are_below) (defBody s_are_below) (defScope s_are_below) [] [] (d_are_below.at_ K) fd ∧ FnOk P w K mg base CX0 4 (d_are_below.at_ K) fd ["value", "bound"] (sp_are_below K) := by
  obtain ⟨fd_is_list, F_is_list, g_is_list⟩ := ok_is_list (P := P) (w := w) (base := base) KX G c
  obtain ⟨fd_is_below, F_is_below, g_is_below⟩ := ok_is_below (P := P) (w := w) (base := base) KX G c
  obtain ⟨fd, F⟩ := c.1.def_ 4 (d := d_are_below) rfl
  refine ⟨fd, F, F.ok sc_are_below len_are_below (fun cdv A outer s H vs Q E hr h => ⟨t_are_below K, PSs.nox ?_, pure_are_below vs H Q E h⟩)⟩
  exact (pss_one (ps_ret (pe_and (pe_call g_is_list (hr.mono (by decide)) rfl (He.glo_ok KX G (c.1.fact 3)) F_is_list.kp (b_is_list F_is_list) .nil pass0 (pa_cons (pv 0) pa_nil)) (pe_one (pe_callB (cr_all rfl) (by rfl) (He.free_ok KX G (c.1.fact 61)) (by decide +kernel) (pa_cons (pe_lc (own := [("one", 2)]) (g := (gName 2)) (tt := tYes) (by rfl) sc_are_below.nd (pi_any (pi_list (pv 0)) (pi_tup (pv 0))) (blkOk_by (own := [("one", 2)]) (N := ["value", "bound", "one"]) (sc := defScope s_are_below) (by decide +kernel)) (fun _ _ _ _ _ => (pg_name (i := 2) sc_are_below.nd rfl (by first | exact Or.inl rfl | exact Or.inr rfl))) (fun _ _ _ _ _ => pts_nil) (fun _ _ _ _ _ => (pe_call g_is_below (hr.mono (by decide)) rfl (He.glo_ok KX G (c.1.fact 2)) F_is_below.kp (b_is_below F_is_below) .nil pass0 (pa_cons (pv 2) (pa_cons (pv 1) pa_nil))))) pa_nil))))))
theorem ok_inverse_of (KX : K.In h) (G : h.Ns mainGlobals mg) (c : SaysM fa fn ex K) : ∃ fd, FunD K "inverse_of" "inverse_of" (defArgs s_inverse_of) (defBody s_inverse_of) (defScope s_inverse_of) [] [] (d_inverse_of.at_ K) fd ∧ FnOk P w K mg base CX0 1 (d_inverse_of.at_ K) fd ["prime", "figure"] (sp_inverse_of K) := by
  obtain ⟨fd, F⟩ := c.1.def_ 7 (d := d_inverse_of) rfl
  refine ⟨fd, F, F.ok sc_inverse_of len_inverse_of (fun cdv A outer s H vs Q E hr h => ⟨t_inverse_of K, PSs.nox ?_, pure_inverse_of vs H Q E h⟩)⟩
  exact (pss_one (ps_ret (pe_ix ix_list (pe_lc (own := [("other", 2)]) (g := (gName 2)) (tt := (tTest (tOp rEq (tOp rModI (tOp rMulI (tVar 1) (tVar 2)) (tVar 0)) (tC (.int 1))))) (by rfl) sc_inverse_of.nd (pi_range2 (by rfl) (He.free_ok KX G (c.1.fact 62)) (pa_cons pe_int (pa_cons (pv 0) pa_nil))) (blkOk_by (own := [("other", 2)]) (N := ["prime", "figure", "other"]) (sc := defScope s_inverse_of) (by decide +kernel)) (fun _ _ _ _ _ => (pg_name (i := 2) sc_inverse_of.nd rfl (by first | exact Or.inl rfl | exact Or.inr rfl))) (fun _ _ _ _ _ => (pts_one (pt_cmpR op_eq (pe_op op_mod (pe_op op_mul (pv 1) (pv 2)) (pv 0)) pe_int (nomark _)))) (fun _ _ _ _ _ => (pv 2))) pe_int (fun _ _ => rfl))))
theorem ok_without_noughts (KX : K.In h) (G : h.Ns mainGlobals mg) (c : SaysM fa fn ex K) : ∃ fd, FunD K "without_noughts" "without_noughts" (defArgs s_without_noughts) (defBody s_without_noughts) (defScope s_without_noughts) [] [] (d_without_noughts.at_ K) fd ∧ FnOk P w K mg base CX0 1 (d_without_noughts.at_ K) fd ["row"] (sp_without_noughts K) := by
  obtain ⟨fd, F⟩ := c.1.def_ 5 (d := d_without_noughts) rfl
  refine ⟨fd, F, F.ok sc_without_noughts len_without_noughts (fun cdv A outer s H vs Q E hr h => ⟨t_without_noughts K, PSs.nox ?_, pure_without_noughts vs H Q E h⟩)⟩
  exact (pss_cons (ps_set (i := 1) sc_without_noughts.nd rfl (by first | exact Or.inl rfl | exact Or.inr rfl) (pe_callB call_len_seq (by rfl) (He.free_ok KX G (c.1.fact 60)) (by decide +kernel) (pa_cons (pv 0) pa_nil))) (pss_cons (ps_while PassesOwn.never (PW.pt (pw_and (pt_cmpR op_gt (pv 1) pe_int (nomark _)) (pw_and1 (pt_cmpR op_eq (pe_ix ix_any (pv 0) (pe_op op_sub (pv 1) pe_int) (fun _ _ => rfl)) pe_int (nomark _))))) (pss_one (ps_aug (i := 1) sc_without_noughts.nd rfl (by first | exact Or.inl rfl | exact Or.inr rfl) pe_int ip_sub))) (pss_one (ps_ret (pe_callTy call_list_of (by rfl) (He.free_ok KX G (c.1.fact 58)) (by decide +kernel) (pa_cons (pe_slice sl_any (pv 0) po_none (po_some (pv 1))) pa_nil))))))
theorem ok_rest_of (KX : K.In h) (G : h.Ns mainGlobals mg) (c : SaysM fa fn ex K) : ∃ fd, FunD K "rest_of" "rest_of" (defArgs s_rest_of) (defBody s_rest_of) (defScope s_rest_of) [] [] (d_rest_of.at_ K) fd ∧ FnOk P w K mg base CX0 2 (d_rest_of.at_ K) fd ["prime", "one", "other"] (sp_rest_of K) := by
  obtain ⟨fd_inverse_of, F_inverse_of, g_inverse_of⟩ := ok_inverse_of (P := P) (w := w) (base := base) KX G c
  obtain ⟨fd_without_noughts, F_without_noughts, g_without_noughts⟩ := ok_without_noughts (P := P) (w := w) (base := base) KX G c
  obtain ⟨fd, F⟩ := c.1.def_ 8 (d := d_rest_of) rfl
  refine ⟨fd, F, F.ok sc_rest_of len_rest_of (fun cdv A outer s H vs Q E hr h => ⟨t_rest_of K, PSs.nox ?_, pure_rest_of vs H Q E h⟩)⟩
  exact (pss_cons (ps_set (i := 3) sc_rest_of.nd rfl (by first | exact Or.inl rfl | exact Or.inr rfl) (pe_call g_inverse_of (hr.mono (by decide)) rfl (He.glo_ok KX G (c.1.fact 7)) F_inverse_of.kp (b_inverse_of F_inverse_of) .nil pass0 (pa_cons (pv 0) (pa_cons (pe_ix ix_list (pv 2) (pe_un un_neg pe_int) (fun _ _ => rfl)) pa_nil)))) (pss_cons (ps_set (i := 4) sc_rest_of.nd rfl (by first | exact Or.inl rfl | exact Or.inr rfl) (pe_callTy call_list_of (by rfl) (He.free_ok KX G (c.1.fact 58)) (by decide +kernel) (pa_cons (pv 1) pa_nil))) (pss_cons (ps_while PassesOwn.never (pt_cmpR op_ge (pe_callB call_len_seq (by rfl) (He.free_ok KX G (c.1.fact 60)) (by decide +kernel) (pa_cons (pv 4) pa_nil)) (pe_callB call_len_seq (by rfl) (He.free_ok KX G (c.1.fact 60)) (by decide +kernel) (pa_cons (pv 2) pa_nil)) (nomark _)) (pss_cons (ps_set (i := 5) sc_rest_of.nd rfl (by first | exact Or.inl rfl | exact Or.inr rfl) (pe_op op_mod (pe_op op_mul (pe_ix ix_list (pv 4) (pe_un un_neg pe_int) (fun _ _ => rfl)) (pv 3)) (pv 0))) (pss_cons (ps_set (i := 6) sc_rest_of.nd rfl (by first | exact Or.inl rfl | exact Or.inr rfl) (pe_op op_sub (pe_callB call_len_seq (by rfl) (He.free_ok KX G (c.1.fact 60)) (by decide +kernel) (pa_cons (pv 4) pa_nil)) (pe_callB call_len_seq (by rfl) (He.free_ok KX G (c.1.fact 60)) (by decide +kernel) (pa_cons (pv 2) pa_nil)))) (pss_cons (ps_for PassesOwn.never rfl (pi_enum (by rfl) (He.free_ok KX G (c.1.fact 63)) (pa_cons (pv 2) pa_nil)) (pg_tup rfl (pgs_cons (pg_name (i := 7) sc_rest_of.nd rfl (by first | exact Or.inl rfl | exact Or.inr rfl)) (pgs_cons (pg_name (i := 8) sc_rest_of.nd rfl (by first | exact Or.inl rfl | exact Or.inr rfl)) pgs_nil))) (pss_one (ps_asg (pe_op op_mod (pe_op op_sub (pe_ix ix_list (pv 4) (pe_op op_add (pv 6) (pv 7)) (fun _ _ => rfl)) (pe_op op_mul (pv 5) (pv 8))) (pv 0)) (pg_sub (pv 4) (pe_op op_add (pv 6) (pv 7)) set_list)))) (pss_one (ps_set (i := 4) sc_rest_of.nd rfl (by first | exact Or.inl rfl | exact Or.inr rfl) (pe_call g_without_noughts (hr.mono (by decide)) rfl (He.glo_ok KX G (c.1.fact 5)) F_without_noughts.kp (b_without_noughts F_without_noughts) .nil pass0 (pa_cons (pv 4) pa_nil)))))))) (pss_one (ps_ret (pv 4))))))
theorem ok_product_of (KX : K.In h) (G : h.Ns mainGlobals mg) (c : SaysM fa fn ex K) : ∃ fd, FunD K "product_of" "product_of" (defArgs s_product_of) (defBody s_product_of) (defScope s_product_of) [] [] (d_product_of.at_ K) fd ∧ FnOk P w K mg base CX0 2 (d_product_of.at_ K) fd ["prime", "one", "other"] (sp_product_of K) := by
  obtain ⟨fd_without_noughts, F_without_noughts, g_without_noughts⟩ := ok_without_noughts (P := P) (w := w) (base := base) KX G c
  obtain ⟨fd, F⟩ := c.1.def_ 6 (d := d_product_of) rfl
  refine ⟨fd, F, F.ok sc_product_of len_product_of (fun cdv A outer s H vs Q E hr h => ⟨t_product_of K, PSs.nox ?_, pure_product_of vs H Q E h⟩)⟩
  exact (pss_cons (ps_set (i := 3) sc_product_of.nd rfl (by first | exact Or.inl rfl | exact Or.inr rfl) (pe_op op_rep (pe_lst (pa_cons pe_int pa_nil)) (pe_op op_sub (pe_op op_add (pe_callB call_len_seq (by rfl) (He.free_ok KX G (c.1.fact 60)) (by decide +kernel) (pa_cons (pv 1) pa_nil)) (pe_callB call_len_seq (by rfl) (He.free_ok KX G (c.1.fact 60)) (by decide +kernel) (pa_cons (pv 2) pa_nil))) pe_int))) (pss_cons (ps_for PassesOwn.never rfl (pi_enum (by rfl) (He.free_ok KX G (c.1.fact 63)) (pa_cons (pv 1) pa_nil)) (pg_tup rfl (pgs_cons (pg_name (i := 4) sc_product_of.nd rfl (by first | exact Or.inl rfl | exact Or.inr rfl)) (pgs_cons (pg_name (i := 5) sc_product_of.nd rfl (by first | exact Or.inl rfl | exact Or.inr rfl)) pgs_nil))) (pss_one (ps_for PassesOwn.never rfl (pi_enum (by rfl) (He.free_ok KX G (c.1.fact 63)) (pa_cons (pv 2) pa_nil)) (pg_tup rfl (pgs_cons (pg_name (i := 6) sc_product_of.nd rfl (by first | exact Or.inl rfl | exact Or.inr rfl)) (pgs_cons (pg_name (i := 7) sc_product_of.nd rfl (by first | exact Or.inl rfl | exact Or.inr rfl)) pgs_nil))) (pss_one (ps_asg (pe_op op_mod (pe_op op_add (pe_ix ix_list (pv 3) (pe_op op_add (pv 4) (pv 6)) (fun _ _ => rfl)) (pe_op op_mul (pv 5) (pv 7))) (pv 0)) (pg_sub (pv 3) (pe_op op_add (pv 4) (pv 6)) set_list)))))) (pss_one (ps_ret (pe_call g_without_noughts (hr.mono (by decide)) rfl (He.glo_ok KX G (c.1.fact 5)) F_without_noughts.kp (b_without_noughts F_without_noughts) .nil pass0 (pa_cons (pv 3) pa_nil))))))
theorem ok_power_rest (KX : K.In h) (G : h.Ns mainGlobals mg) (c : SaysM fa fn ex K) : ∃ fd, FunD K "power_rest" "power_rest" (defArgs s_power_rest) (defBody s_power_rest) (defScope s_power_rest) [] [] (d_power_rest.at_ K) fd ∧ FnOk P w K mg base CX0 3 (d_power_rest.at_ K) fd ["prime", "one", "many", "modulus"] (sp_power_rest K) := by
  obtain ⟨fd_rest_of, F_rest_of, g_rest_of⟩ := ok_rest_of (P := P) (w := w) (base := base) KX G c
  obtain ⟨fd_product_of, F_product_of, g_product_of⟩ := ok_product_of (P := P) (w := w) (base := base) KX G c
  obtain ⟨fd, F⟩ := c.1.def_ 10 (d := d_power_rest) rfl
  refine ⟨fd, F, F.ok sc_power_rest len_power_rest (fun cdv A outer s H vs Q E hr h => ⟨t_power_rest K, PSs.nox ?_, pure_power_rest vs H Q E h⟩)⟩
  exact (pss_cons (ps_set (i := 4) sc_power_rest.nd rfl (by first | exact Or.inl rfl | exact Or.inr rfl) (pe_call g_rest_of (hr.mono (by decide)) rfl (He.glo_ok KX G (c.1.fact 8)) F_rest_of.kp (b_rest_of F_rest_of) .nil pass0 (pa_cons (pv 0) (pa_cons (pe_lst (pa_cons pe_int pa_nil)) (pa_cons (pv 3) pa_nil))))) (pss_cons (ps_for PassesOwn.never rfl (pi_range1 (by rfl) (He.free_ok KX G (c.1.fact 62)) (pa_cons (pv 2) pa_nil)) (pg_name (i := 5) sc_power_rest.nd rfl (by first | exact Or.inl rfl | exact Or.inr rfl)) (pss_one (ps_set (i := 4) sc_power_rest.nd rfl (by first | exact Or.inl rfl | exact Or.inr rfl) (pe_call g_rest_of (hr.mono (by decide)) rfl (He.glo_ok KX G (c.1.fact 8)) F_rest_of.kp (b_rest_of F_rest_of) .nil pass0 (pa_cons (pv 0) (pa_cons (pe_call g_product_of (hr.mono (by decide)) rfl (He.glo_ok KX G (c.1.fact 6)) F_product_of.kp (b_product_of F_product_of) .nil pass0 (pa_cons (pv 0) (pa_cons (pv 4) (pa_cons (pv 1) pa_nil)))) (pa_cons (pv 3) pa_nil))))))) (pss_one (ps_ret (pv 4)))))
theorem ok_common_of (KX : K.In h) (G : h.Ns mainGlobals mg) (c : SaysM fa fn ex K) : ∃ fd, FunD K "common_of" "common_of" (defArgs s_common_of) (defBody s_common_of) (defScope s_common_of) [] [] (d_common_of.at_ K) fd ∧ FnOk P w K mg base CX0 3 (d_common_of.at_ K) fd ["prime", "one", "other"] (sp_common_of K) := by
  obtain ⟨fd_rest_of, F_rest_of, g_rest_of⟩ := ok_rest_of (P := P) (w := w) (base := base) KX G c
  obtain ⟨fd, F⟩ := c.1.def_ 9 (d := d_common_of) rfl
  refine ⟨fd, F, F.ok sc_common_of len_common_of (fun cdv A outer s H vs Q E hr h => ⟨t_common_of K, PSs.nox ?_, pure_common_of vs H Q E h⟩)⟩
  exact (pss_cons (ps_while PassesOwn.never (pt_cmpR (op_neD hr.units) (pv 2) (pe_lst pa_nil) (nomark _)) (pss_one (ps_par (i := 1) (j := 2) (by rfl) sc_common_of.nd rfl rfl (by decide) rfl rfl (pa_cons (pv 2) (pa_cons (pe_call g_rest_of (hr.mono (by decide)) rfl (He.glo_ok KX G (c.1.fact 8)) F_rest_of.kp (b_rest_of F_rest_of) .nil pass0 (pa_cons (pv 0) (pa_cons (pv 1) (pa_cons (pv 2) pa_nil)))) pa_nil)) (by rfl)))) (pss_one (ps_ret (pv 1))))
theorem ok_less_x (KX : K.In h) (G : h.Ns mainGlobals mg) (c : SaysM fa fn ex K) : ∃ fd, FunD K "less_x" "less_x" (defArgs s_less_x) (defBody s_less_x) (defScope s_less_x) [] [] (d_less_x.at_ K) fd ∧ FnOk P w K mg base CX0 2 (d_less_x.at_ K) fd ["prime", "one"] (sp_less_x K) := by
  obtain ⟨fd_without_noughts, F_without_noughts, g_without_noughts⟩ := ok_without_noughts (P := P) (w := w) (base := base) KX G c
  obtain ⟨fd, F⟩ := c.1.def_ 11 (d := d_less_x) rfl
  refine ⟨fd, F, F.ok sc_less_x len_less_x (fun cdv A outer s H vs Q E hr h => ⟨t_less_x K, PSs.nox ?_, pure_less_x vs H Q E h⟩)⟩
  exact (pss_cons (ps_set (i := 2) sc_less_x.nd rfl (by first | exact Or.inl rfl | exact Or.inr rfl) (pe_op op_cat (pv 1) (pe_op op_rep (pe_lst (pa_cons pe_int pa_nil)) (pe_op op_sub pe_int (pe_callB call_len_seq (by rfl) (He.free_ok KX G (c.1.fact 60)) (by decide +kernel) (pa_cons (pv 1) pa_nil)))))) (pss_cons (ps_asg (pe_op op_mod (pe_op op_sub (pe_ix ix_list (pv 2) pe_int (fun _ _ => rfl)) pe_int) (pv 0)) (pg_sub (pv 2) pe_int set_list)) (pss_one (ps_ret (pe_call g_without_noughts (hr.mono (by decide)) rfl (He.glo_ok KX G (c.1.fact 5)) F_without_noughts.kp (b_without_noughts F_without_noughts) .nil pass0 (pa_cons (pv 2) pa_nil))))))
theorem ok_cannot_be_parted (KX : K.In h) (G : h.Ns mainGlobals mg) (c : SaysM fa fn ex K) : ∃ fd, FunD K "cannot_be_parted" "cannot_be_parted" (defArgs s_cannot_be_parted) (defBody s_cannot_be_parted) (defScope s_cannot_be_parted) [] [] (d_cannot_be_parted.at_ K) fd ∧ FnOk P w K mg base CX0 4 (d_cannot_be_parted.at_ K) fd ["prime", "modulus"] (sp_cannot_be_parted K) := by
  obtain ⟨fd_power_rest, F_power_rest, g_power_rest⟩ := ok_power_rest (P := P) (w := w) (base := base) KX G c
  obtain ⟨fd_common_of, F_common_of, g_common_of⟩ := ok_common_of (P := P) (w := w) (base := base) KX G c
  obtain ⟨fd_less_x, F_less_x, g_less_x⟩ := ok_less_x (P := P) (w := w) (base := base) KX G c
  obtain ⟨fd, F⟩ := c.1.def_ 12 (d := d_cannot_be_parted) rfl
  refine ⟨fd, F, F.ok sc_cannot_be_parted len_cannot_be_parted (fun cdv A outer s H vs Q E hr h => ⟨t_cannot_be_parted K, PSs.nox ?_, pure_cannot_be_parted vs H Q E h⟩)⟩
  exact (pss_cons (ps_set (i := 2) sc_cannot_be_parted.nd rfl (by first | exact Or.inl rfl | exact Or.inr rfl) (pe_lst (pa_cons pe_int (pa_cons pe_int pa_nil)))) (pss_cons (ps_for PassesOwn.never rfl (pi_range1 (by rfl) (He.free_ok KX G (c.1.fact 62)) (pa_cons (pe_op op_fdiv (pe_op op_sub (pe_callB call_len_seq (by rfl) (He.free_ok KX G (c.1.fact 60)) (by decide +kernel) (pa_cons (pv 1) pa_nil)) pe_int) pe_int) pa_nil)) (pg_name (i := 3) sc_cannot_be_parted.nd rfl (by first | exact Or.inl rfl | exact Or.inr rfl)) (pss_cons (ps_set (i := 2) sc_cannot_be_parted.nd rfl (by first | exact Or.inl rfl | exact Or.inr rfl) (pe_call g_power_rest (hr.mono (by decide)) rfl (He.glo_ok KX G (c.1.fact 10)) F_power_rest.kp (b_power_rest F_power_rest) .nil pass0 (pa_cons (pv 0) (pa_cons (pv 2) (pa_cons (pv 0) (pa_cons (pv 1) pa_nil)))))) (pss_one (ps_if (pt_cmpR op_gt (pe_callB call_len_seq (by rfl) (He.free_ok KX G (c.1.fact 60)) (by decide +kernel) (pa_cons (pe_call g_common_of (hr.mono (by decide)) rfl (He.glo_ok KX G (c.1.fact 9)) F_common_of.kp (b_common_of F_common_of) .nil pass0 (pa_cons (pv 0) (pa_cons (pv 1) (pa_cons (pe_call g_less_x (hr.mono (by decide)) rfl (He.glo_ok KX G (c.1.fact 11)) F_less_x.kp (b_less_x F_less_x) .nil pass0 (pa_cons (pv 0) (pa_cons (pv 2) pa_nil))) pa_nil)))) pa_nil)) pe_int (nomark _)) (pss_one (ps_ret pe_bl)) pss_nil)))) (pss_one (ps_ret pe_bl))))
theorem ok_is_modulus (KX : K.In h) (G : h.Ns mainGlobals mg) (c : SaysM fa fn ex K) : ∃ fd, FunD K "is_modulus" "is_modulus" (defArgs s_is_modulus) (defBody s_is_modulus) (defScope s_is_modulus) [] [] (d_is_modulus.at_ K) fd ∧ FnOk P w K mg base CX0 5 (d_is_modulus.at_ K) fd ["prime", "value"] (sp_is_modulus K) := by
  obtain ⟨fd_check_prime, F_check_prime, g_check_prime⟩ := ok_check_prime (P := P) (w := w) (base := base) KX G c
  obtain ⟨fd_is_list, F_is_list, g_is_list⟩ := ok_is_list (P := P) (w := w) (base := base) KX G c
  obtain ⟨fd_are_below, F_are_below, g_are_below⟩ := ok_are_below (P := P) (w := w) (base := base) KX G c
  obtain ⟨fd_cannot_be_parted, F_cannot_be_parted, g_cannot_be_parted⟩ := ok_cannot_be_parted (P := P) (w := w) (base := base) KX G c
  obtain ⟨fd, F⟩ := c.1.def_ 14 (d := d_is_modulus) rfl
  refine ⟨fd, F, F.ok sc_is_modulus len_is_modulus (fun cdv A outer s H vs Q E hr h => ⟨t_is_modulus K, PSs.nox ?_, pure_is_modulus vs H Q E h⟩)⟩
  exact (pss_cons (ps_expr (pe_call g_check_prime (hr.mono (by decide)) rfl (He.glo_ok KX G (c.1.fact 13)) F_check_prime.kp (b_check_prime F_check_prime) .nil pass0 (pa_cons (pv 0) pa_nil))) (pss_cons (ps_if (PW.pt (pw_or (pt_not (pt_val (pe_call g_is_list (hr.mono (by decide)) rfl (He.glo_ok KX G (c.1.fact 3)) F_is_list.kp (b_is_list F_is_list) .nil pass0 (pa_cons (pv 1) pa_nil)))) (pw_or1 (pt_not (pt_chain op_le op_le pe_int (pe_callB call_len_seq (by rfl) (He.free_ok KX G (c.1.fact 60)) (by decide +kernel) (pa_cons (pv 1) pa_nil)) (pe_gint (He.int_ok KX G (c.1.fact 52)))))))) (pss_one (ps_ret pe_bl)) pss_nil) (pss_one (ps_ret (pe_and (pe_call g_are_below (hr.mono (by decide)) rfl (He.glo_ok KX G (c.1.fact 4)) F_are_below.kp (b_are_below F_are_below) .nil pass0 (pa_cons (pv 1) (pa_cons (pv 0) pa_nil))) (pe_and (pe_cmpR op_eq (pe_ix ix_any (pv 1) (pe_un un_neg pe_int) (fun _ _ => rfl)) pe_int (nomark _)) (pe_one (pe_call g_cannot_be_parted (hr.mono (by decide)) rfl (He.glo_ok KX G (c.1.fact 12)) F_cannot_be_parted.kp (b_cannot_be_parted F_cannot_be_parted) .nil pass0 (pa_cons (pv 0) (pa_cons (pe_callTy call_list_of (by rfl) (He.free_ok KX G (c.1.fact 58)) (by decide +kernel) (pa_cons (pv 1) pa_nil)) pa_nil))))))))))
theorem ok_units_of (KX : K.In h) (G : h.Ns mainGlobals mg) (c : SaysM fa fn ex K) : ∃ fd, FunD K "units_of" "units_of" (defArgs s_units_of) (defBody s_units_of) (defScope s_units_of) [] [] (d_units_of.at_ K) fd ∧ FnOk P w K mg base CX0 1 (d_units_of.at_ K) fd ["prime", "turns"] (sp_units_of K) := by
  obtain ⟨fd, F⟩ := c.1.def_ 15 (d := d_units_of) rfl
  refine ⟨fd, F, F.ok sc_units_of len_units_of (fun cdv A outer s H vs Q E hr h => ⟨t_units_of K, PSs.nox ?_, pure_units_of vs H Q E h⟩)⟩
  exact (pss_cons (ps_set (i := 2) sc_units_of.nd rfl (by first | exact Or.inl rfl | exact Or.inr rfl) (pe_lst (pa_cons pe_int pa_nil))) (pss_cons (ps_for PassesOwn.never rfl (pi_range1 (by rfl) (He.free_ok KX G (c.1.fact 62)) (pa_cons (pv 1) pa_nil)) (pg_name (i := 3) sc_units_of.nd rfl (by first | exact Or.inl rfl | exact Or.inr rfl)) (pss_one (ps_expr (pe_bm PySem.F.plainAttrs_list PySem.F.slot_list_append PySem.F.type_list_append mt_append (pv 2) (pa_cons (pe_op op_mul (pe_ix ix_list (pv 2) (pe_un un_neg pe_int) (fun _ _ => rfl)) (pv 0)) pa_nil))))) (pss_one (ps_ret (pv 2)))))
theorem ok_figures_in (KX : K.In h) (G : h.Ns mainGlobals mg) (c : SaysM fa fn ex K) : ∃ fd, FunD K "figures_in" "figures_in" (defArgs s_figures_in) (defBody s_figures_in) (defScope s_figures_in) [] [] (d_figures_in.at_ K) fd ∧ FnOk P w K mg base CX0 1 (d_figures_in.at_ K) fd ["prime", "turns", "one"] (sp_figures_in K) := by
  obtain ⟨fd, F⟩ := c.1.def_ 16 (d := d_figures_in) rfl
  refine ⟨fd, F, F.ok sc_figures_in len_figures_in (fun cdv A outer s H vs Q E hr h => ⟨t_figures_in K, PSs.nox ?_, pure_figures_in vs H Q E h⟩)⟩
  exact (pss_cons (ps_set (i := 3) sc_figures_in.nd rfl (by first | exact Or.inl rfl | exact Or.inr rfl) (pe_lst pa_nil)) (pss_cons (ps_for PassesOwn.never rfl (pi_range1 (by rfl) (He.free_ok KX G (c.1.fact 62)) (pa_cons (pv 1) pa_nil)) (pg_name (i := 4) sc_figures_in.nd rfl (by first | exact Or.inl rfl | exact Or.inr rfl)) (pss_cons (ps_expr (pe_bm PySem.F.plainAttrs_list PySem.F.slot_list_append PySem.F.type_list_append mt_append (pv 3) (pa_cons (pe_op op_mod (pv 2) (pv 0)) pa_nil))) (pss_one (ps_aug (i := 2) sc_figures_in.nd rfl (by first | exact Or.inl rfl | exact Or.inr rfl) (pv 0) ip_fdiv)))) (pss_one (ps_ret (pv 3)))))
theorem ok_told_by (KX : K.In h) (G : h.Ns mainGlobals mg) (c : SaysM fa fn ex K) : ∃ fd, FunD K "told_by" "told_by" (defArgs s_told_by) (defBody s_told_by) (defScope s_told_by) [] [] (d_told_by.at_ K) fd ∧ FnOk P w K mg base CX0 1 (d_told_by.at_ K) fd ["figures", "units"] (sp_told_by K) := by
  obtain ⟨fd, F⟩ := c.1.def_ 17 (d := d_told_by) rfl
  refine ⟨fd, F, F.ok sc_told_by len_told_by (fun cdv A outer s H vs Q E hr h => ⟨t_told_by K, PSs.nox ?_, pure_told_by vs H Q E h⟩)⟩
  exact (pss_one (ps_ret (pe_callB (cr_sum rfl) (by rfl) (He.free_ok KX G (c.1.fact 67)) (by decide +kernel) (pa_cons (pe_lc (own := [("figure", 2), ("unit", 3)]) (g := (gTup K 2 (gCons (gName 2) (gCons (gName 3) gNil)))) (tt := tYes) (by rfl) sc_told_by.nd (pi_zip (by rfl) (He.free_ok KX G (c.1.fact 64)) (pa_cons (pv 0) (pa_cons (pv 1) pa_nil))) (blkOk_by (own := [("figure", 2), ("unit", 3)]) (N := ["figures", "units", "figure", "unit"]) (sc := defScope s_told_by) (by decide +kernel)) (fun _ _ _ _ _ => (pg_tup rfl (pgs_cons (pg_name (i := 2) sc_told_by.nd rfl (by first | exact Or.inl rfl | exact Or.inr rfl)) (pgs_cons (pg_name (i := 3) sc_told_by.nd rfl (by first | exact Or.inl rfl | exact Or.inr rfl)) pgs_nil)))) (fun _ _ _ _ _ => pts_nil) (fun _ _ _ _ _ => (pe_op op_mul (pv 2) (pv 3)))) pa_nil))))
theorem ok_powers_of (KX : K.In h) (G : h.Ns mainGlobals mg) (c : SaysM fa fn ex K) : ∃ fd, FunD K "powers_of" "powers_of" (defArgs s_powers_of) (defBody s_powers_of) (defScope s_powers_of) [] [] (d_powers_of.at_ K) fd ∧ FnOk P w K mg base CX0 3 (d_powers_of.at_ K) fd ["prime", "modulus", "one"] (sp_powers_of K) := by
  obtain ⟨fd_units_of, F_units_of, g_units_of⟩ := ok_units_of (P := P) (w := w) (base := base) KX G c
  obtain ⟨fd_without_noughts, F_without_noughts, g_without_noughts⟩ := ok_without_noughts (P := P) (w := w) (base := base) KX G c
  obtain ⟨fd_figures_in, F_figures_in, g_figures_in⟩ := ok_figures_in (P := P) (w := w) (base := base) KX G c
  obtain ⟨fd_told_by, F_told_by, g_told_by⟩ := ok_told_by (P := P) (w := w) (base := base) KX G c
  obtain ⟨fd_rest_of, F_rest_of, g_rest_of⟩ := ok_rest_of (P := P) (w := w) (base := base) KX G c
  obtain ⟨fd_product_of, F_product_of, g_product_of⟩ := ok_product_of (P := P) (w := w) (base := base) KX G c
  obtain ⟨fd, F⟩ := c.1.def_ 18 (d := d_powers_of) rfl
  refine ⟨fd, F, F.ok sc_powers_of len_powers_of (fun cdv A outer s H vs Q E hr h => ⟨t_powers_of K, PSs.nox ?_, pure_powers_of vs H Q E h⟩)⟩
  exact (pss_cons (ps_set (i := 3) sc_powers_of.nd rfl (by first | exact Or.inl rfl | exact Or.inr rfl) (pe_call g_units_of (hr.mono (by decide)) rfl (He.glo_ok KX G (c.1.fact 15)) F_units_of.kp (b_units_of F_units_of) .nil pass0 (pa_cons (pv 0) (pa_cons (pe_op op_sub (pe_callB call_len_seq (by rfl) (He.free_ok KX G (c.1.fact 60)) (by decide +kernel) (pa_cons (pv 1) pa_nil)) pe_int) pa_nil)))) (pss_cons (ps_set (i := 4) sc_powers_of.nd rfl (by first | exact Or.inl rfl | exact Or.inr rfl) (pe_call g_without_noughts (hr.mono (by decide)) rfl (He.glo_ok KX G (c.1.fact 5)) F_without_noughts.kp (b_without_noughts F_without_noughts) .nil pass0 (pa_cons (pe_call g_figures_in (hr.mono (by decide)) rfl (He.glo_ok KX G (c.1.fact 16)) F_figures_in.kp (b_figures_in F_figures_in) .nil pass0 (pa_cons (pv 0) (pa_cons (pe_op op_sub (pe_callB call_len_seq (by rfl) (He.free_ok KX G (c.1.fact 60)) (by decide +kernel) (pa_cons (pv 1) pa_nil)) pe_int) (pa_cons (pv 2) pa_nil)))) pa_nil))) (pss_cons (ps_par (i := 5) (j := 6) (by rfl) sc_powers_of.nd rfl rfl (by decide) rfl rfl (pa_cons (pe_lst (pa_cons pe_int pa_nil)) (pa_cons (pv 4) pa_nil)) (by rfl)) (pss_cons (ps_while PassesOwn.never (pt_cmpR (op_neD hr.units) (pv 6) (pe_lst (pa_cons pe_int pa_nil)) (nomark _)) (pss_cons (ps_expr (pe_bm PySem.F.plainAttrs_list PySem.F.slot_list_append PySem.F.type_list_append mt_append (pv 5) (pa_cons (pe_call g_told_by (hr.mono (by decide)) rfl (He.glo_ok KX G (c.1.fact 17)) F_told_by.kp (b_told_by F_told_by) .nil pass0 (pa_cons (pv 6) (pa_cons (pv 3) pa_nil))) pa_nil))) (pss_one (ps_set (i := 6) sc_powers_of.nd rfl (by first | exact Or.inl rfl | exact Or.inr rfl) (pe_call g_rest_of (hr.mono (by decide)) rfl (He.glo_ok KX G (c.1.fact 8)) F_rest_of.kp (b_rest_of F_rest_of) .nil pass0 (pa_cons (pv 0) (pa_cons (pe_call g_product_of (hr.mono (by decide)) rfl (He.glo_ok KX G (c.1.fact 6)) F_product_of.kp (b_product_of F_product_of) .nil pass0 (pa_cons (pv 0) (pa_cons (pv 6) (pa_cons (pv 4) pa_nil)))) (pa_cons (pv 1) pa_nil)))))))) (pss_one (ps_ret (pv 5)))))))
theorem ok_all_by_powers (KX : K.In h) (G : h.Ns mainGlobals mg) (c : SaysM fa fn ex K) : ∃ fd, FunD K "all_by_powers" "all_by_powers" (defArgs s_all_by_powers) (defBody s_all_by_powers) (defScope s_all_by_powers) [] [] (d_all_by_powers.at_ K) fd ∧ FnOk P w K mg base CX0 4 (d_all_by_powers.at_ K) fd ["prime", "modulus", "size"] (sp_all_by_powers K) := by
  obtain ⟨fd_powers_of, F_powers_of, g_powers_of⟩ := ok_powers_of (P := P) (w := w) (base := base) KX G c
  obtain ⟨fd, F⟩ := c.1.def_ 19 (d := d_all_by_powers) rfl
  refine ⟨fd, F, F.ok sc_all_by_powers len_all_by_powers (fun cdv A outer s H vs Q E hr h => ⟨t_all_by_powers K, PSs.nox ?_, pure_all_by_powers vs H Q E h⟩)⟩
  exact (pss_cons (ps_par (i := 3) (j := 4) (by rfl) sc_all_by_powers.nd rfl rfl (by decide) rfl rfl (pa_cons pe_int (pa_cons (pe_lst (pa_cons pe_int pa_nil)) pa_nil)) (by rfl)) (pss_cons (ps_while PassesOwn.never (pt_cmpR op_lt (pe_callB call_len_seq (by rfl) (He.free_ok KX G (c.1.fact 60)) (by decide +kernel) (pa_cons (pv 4) pa_nil)) (pe_op op_sub (pv 2) pe_int) (nomark _)) (pss_cons (ps_aug (i := 3) sc_all_by_powers.nd rfl (by first | exact Or.inl rfl | exact Or.inr rfl) pe_int ip_add) (pss_one (ps_set (i := 4) sc_all_by_powers.nd rfl (by first | exact Or.inl rfl | exact Or.inr rfl) (pe_call g_powers_of (hr.mono (by decide)) rfl (He.glo_ok KX G (c.1.fact 18)) F_powers_of.kp (b_powers_of F_powers_of) .nil pass0 (pa_cons (pv 0) (pa_cons (pv 1) (pa_cons (pv 3) pa_nil)))))))) (pss_one (ps_ret (pv 4)))))
theorem ok_Field_dot___init__ (KX : K.In h) (G : h.Ns mainGlobals mg) (c : SaysM fa fn ex K) : ∃ fd, FunD K "__init__" "Field.__init__" (defArgs s_Field_dot___init__) (defBody s_Field_dot___init__) (defScope s_Field_dot___init__) [] [] (d_Field_dot___init__.at_ K) fd ∧ FnOk P w K mg base CX0 6 (d_Field_dot___init__.at_ K) fd ["self", "prime", "modulus"] (sp_Field_dot___init__ K) := by
  obtain ⟨fd_is_modulus, F_is_modulus, g_is_modulus⟩ := ok_is_modulus (P := P) (w := w) (base := base) KX G c
  obtain ⟨fd_units_of, F_units_of, g_units_of⟩ := ok_units_of (P := P) (w := w) (base := base) KX G c
  obtain ⟨fd_all_by_powers, F_all_by_powers, g_all_by_powers⟩ := ok_all_by_powers (P := P) (w := w) (base := base) KX G c
  obtain ⟨fd, F⟩ := c.1.def_ 20 (d := d_Field_dot___init__) rfl
  refine ⟨fd, F, F.ok sc_Field_dot___init__ len_Field_dot___init__ (fun cdv A outer s H vs Q E hr h => ⟨t_Field_dot___init__ K, PSs.nox ?_, pure_Field_dot___init__ vs H Q E h⟩)⟩
  exact (pss_cons (ps_if (pt_not (pt_val (pe_call g_is_modulus (hr.mono (by decide)) rfl (He.glo_ok KX G (c.1.fact 14)) F_is_modulus.kp (b_is_modulus F_is_modulus) .nil pass0 (pa_cons (pv 1) (pa_cons (pv 2) pa_nil))))) (pss_one ps_never) pss_nil) (pss_cons (ps_set (i := 3) sc_Field_dot___init__.nd rfl (by first | exact Or.inl rfl | exact Or.inr rfl) (pe_call g_units_of (hr.mono (by decide)) rfl (He.glo_ok KX G (c.1.fact 15)) F_units_of.kp (b_units_of F_units_of) .nil pass0 (pa_cons (pv 1) (pa_cons (pe_op op_sub (pe_callB call_len_seq (by rfl) (He.free_ok KX G (c.1.fact 60)) (by decide +kernel) (pa_cons (pv 2) pa_nil)) pe_int) pa_nil)))) (pss_cons (ps_set (i := 4) sc_Field_dot___init__.nd rfl (by first | exact Or.inl rfl | exact Or.inr rfl) (pe_bm0 PySem.F.plainAttrs_list PySem.F.slot_list_pop PySem.F.type_list_pop mt_pop (pv 3))) (pss_cons (ps_if (pt_cmpR op_gt (pv 4) (pe_gint (He.int_ok KX G (c.1.fact 53))) (nomark _)) (pss_one ps_never) pss_nil) (pss_cons (ps_fld (pv 0) (pv 1) rfl) (pss_cons (ps_fld (pv 0) (pe_callTy call_list_of (by rfl) (He.free_ok KX G (c.1.fact 58)) (by decide +kernel) (pa_cons (pv 2) pa_nil)) rfl) (pss_cons (ps_fld (pv 0) (pv 4) rfl) (pss_cons (ps_fld (pv 0) (pv 3) rfl) (pss_cons (ps_fld (pv 0) (pe_call g_all_by_powers (hr.mono (by decide)) rfl (He.glo_ok KX G (c.1.fact 19)) F_all_by_powers.kp (b_all_by_powers F_all_by_powers) .nil pass0 (pa_cons (pv 1) (pa_cons (pe_fld (pv 0) rfl) (pa_cons (pv 4) pa_nil)))) rfl) (pss_one (ps_fld (pv 0) (pe_dc (own := [("at", 5), ("power", 6)]) (g := (gTup K 2 (gCons (gName 5) (gCons (gName 6) gNil)))) (tt := tYes) (by rfl) sc_Field_dot___init__.nd (pi_enum (by rfl) (He.free_ok KX G (c.1.fact 63)) (pa_cons (pe_fld (pv 0) rfl) pa_nil)) (blkOk_by (own := [("at", 5), ("power", 6)]) (N := ["self", "prime", "modulus", "units", "size", "at", "power"]) (sc := defScope s_Field_dot___init__) (by decide +kernel)) (fun _ _ _ _ _ => (pg_tup rfl (pgs_cons (pg_name (i := 5) sc_Field_dot___init__.nd rfl (by first | exact Or.inl rfl | exact Or.inr rfl)) (pgs_cons (pg_name (i := 6) sc_Field_dot___init__.nd rfl (by first | exact Or.inl rfl | exact Or.inr rfl)) pgs_nil)))) (fun _ _ _ _ _ => pts_nil) (fun _ _ _ _ _ => (pv 6)) (fun _ _ _ _ _ => (pv 5))) rfl)))))))))))
theorem ok_Field_dot_size (KX : K.In h) (G : h.Ns mainGlobals mg) (c : SaysM fa fn ex K) : ∃ fd, FunD K "size" "Field.size" (defArgs s_Field_dot_size) (defBody s_Field_dot_size) (defScope s_Field_dot_size) [] [] (d_Field_dot_size.at_ K) fd ∧ FnOk P w K mg base CX0 1 (d_Field_dot_size.at_ K) fd ["self"] (sp_Field_dot_size K) := by
  obtain ⟨fd, F⟩ := c.1.def_ 22 (d := d_Field_dot_size) rfl
  refine ⟨fd, F, F.ok sc_Field_dot_size len_Field_dot_size (fun cdv A outer s H vs Q E hr h => ⟨t_Field_dot_size K, PSs.nox ?_, pure_Field_dot_size vs H Q E h⟩)⟩
  exact (pss_one (ps_ret (pe_fld (pv 0) rfl)))
theorem ok_check_field (KX : K.In h) (G : h.Ns mainGlobals mg) (c : SaysM fa fn ex K) : ∃ fd, FunD K "check_field" "check_field" (defArgs s_check_field) (defBody s_check_field) (defScope s_check_field) [] [] (d_check_field.at_ K) fd ∧ FnOk P w K mg base CX0 1 (d_check_field.at_ K) fd ["value"] (sp_check_field K) := by
  obtain ⟨fd, F⟩ := c.1.def_ 31 (d := d_check_field) rfl
  refine ⟨fd, F, F.ok sc_check_field len_check_field (fun cdv A outer s H vs Q E hr h => ⟨t_check_field K, PSs.nox ?_, pure_check_field vs H Q E h⟩)⟩
  exact (pss_one (ps_if (pt_not (pt_val (pe_callB call_isi (by rfl) (He.free_ok KX G (c.1.fact 55)) (by decide +kernel) (pa_cons (pv 0) (pa_cons (pe_glob rfl (He.glo_ok KX G (c.1.fact 50)) rfl) pa_nil))))) (pss_one ps_never) pss_nil))
theorem ok_is_one_of (KX : K.In h) (G : h.Ns mainGlobals mg) (c : SaysM fa fn ex K) : ∃ fd, FunD K "is_one_of" "is_one_of" (defArgs s_is_one_of) (defBody s_is_one_of) (defScope s_is_one_of) [] [] (d_is_one_of.at_ K) fd ∧ FnOk P w K mg base CX0 4 (d_is_one_of.at_ K) fd ["field", "value"] (sp_is_one_of K) := by
  obtain ⟨fd_is_below, F_is_below, g_is_below⟩ := ok_is_below (P := P) (w := w) (base := base) KX G c
  obtain ⟨fd_Field_dot_size, F_Field_dot_size, g_Field_dot_size⟩ := ok_Field_dot_size (P := P) (w := w) (base := base) KX G c
  obtain ⟨pp_Field_dot_size, hp_Field_dot_size⟩ := prop_size c
  obtain ⟨fd, F⟩ := c.1.def_ 30 (d := d_is_one_of) rfl
  refine ⟨fd, F, F.ok sc_is_one_of len_is_one_of (fun cdv A outer s H vs Q E hr h => ⟨t_is_one_of K, PSs.nox ?_, pure_is_one_of vs H Q E h⟩)⟩
  exact (pss_one (ps_ret (pe_call g_is_below (hr.mono (by decide)) rfl (He.glo_ok KX G (c.1.fact 2)) F_is_below.kp (b_is_below F_is_below) .nil pass0 (pa_cons (pv 1) (pa_cons (pe_prop (pv 0) (He.cls_ok (c.1.fact 72)) hp_Field_dot_size g_Field_dot_size (hr.mono (by decide)) (b_Field_dot_size F_Field_dot_size) .nil pass0 rfl) pa_nil)))))
theorem ok_check_one (KX : K.In h) (G : h.Ns mainGlobals mg) (c : SaysM fa fn ex K) : ∃ fd, FunD K "check_one" "check_one" (defArgs s_check_one) (defBody s_check_one) (defScope s_check_one) [] [] (d_check_one.at_ K) fd ∧ FnOk P w K mg base CX0 5 (d_check_one.at_ K) fd ["field", "value"] (sp_check_one K) := by
  obtain ⟨fd_is_one_of, F_is_one_of, g_is_one_of⟩ := ok_is_one_of (P := P) (w := w) (base := base) KX G c
  obtain ⟨fd, F⟩ := c.1.def_ 32 (d := d_check_one) rfl
  refine ⟨fd, F, F.ok sc_check_one len_check_one (fun cdv A outer s H vs Q E hr h => ⟨t_check_one K, PSs.nox ?_, pure_check_one vs H Q E h⟩)⟩
  exact (pss_one (ps_if (pt_not (pt_val (pe_call g_is_one_of (hr.mono (by decide)) rfl (He.glo_ok KX G (c.1.fact 20)) F_is_one_of.kp (b_is_one_of F_is_one_of) .nil pass0 (pa_cons (pv 0) (pa_cons (pv 1) pa_nil))))) (pss_one ps_never) pss_nil))
theorem ok_check_two (KX : K.In h) (G : h.Ns mainGlobals mg) (c : SaysM fa fn ex K) : ∃ fd, FunD K "check_two" "check_two" (defArgs s_check_two) (defBody s_check_two) (defScope s_check_two) [] [] (d_check_two.at_ K) fd ∧ FnOk P w K mg base CX0 6 (d_check_two.at_ K) fd ["field", "one", "other"] (sp_check_two K) := by
  obtain ⟨fd_check_field, F_check_field, g_check_field⟩ := ok_check_field (P := P) (w := w) (base := base) KX G c
  obtain ⟨fd_check_one, F_check_one, g_check_one⟩ := ok_check_one (P := P) (w := w) (base := base) KX G c
  obtain ⟨fd, F⟩ := c.1.def_ 34 (d := d_check_two) rfl
  refine ⟨fd, F, F.ok sc_check_two len_check_two (fun cdv A outer s H vs Q E hr h => ⟨t_check_two K, PSs.nox ?_, pure_check_two vs H Q E h⟩)⟩
  exact (pss_cons (ps_expr (pe_call g_check_field (hr.mono (by decide)) rfl (He.glo_ok KX G (c.1.fact 21)) F_check_field.kp (b_check_field F_check_field) .nil pass0 (pa_cons (pv 0) pa_nil))) (pss_cons (ps_expr (pe_call g_check_one (hr.mono (by decide)) rfl (He.glo_ok KX G (c.1.fact 22)) F_check_one.kp (b_check_one F_check_one) .nil pass0 (pa_cons (pv 0) (pa_cons (pv 1) pa_nil)))) (pss_one (ps_expr (pe_call g_check_one (hr.mono (by decide)) rfl (He.glo_ok KX G (c.1.fact 22)) F_check_one.kp (b_check_one F_check_one) .nil pass0 (pa_cons (pv 0) (pa_cons (pv 2) pa_nil)))))))
theorem ok_Field_dot_figures_of (KX : K.In h) (G : h.Ns mainGlobals mg) (c : SaysM fa fn ex K) : ∃ fd, FunD K "figures_of" "Field.figures_of" (defArgs s_Field_dot_figures_of) (defBody s_Field_dot_figures_of) (defScope s_Field_dot_figures_of) [] [] (d_Field_dot_figures_of.at_ K) fd ∧ FnOk P w K mg base CX0 2 (d_Field_dot_figures_of.at_ K) fd ["self", "one"] (sp_Field_dot_figures_of K) := by
  obtain ⟨fd_figures_in, F_figures_in, g_figures_in⟩ := ok_figures_in (P := P) (w := w) (base := base) KX G c
  obtain ⟨fd, F⟩ := c.1.def_ 23 (d := d_Field_dot_figures_of) rfl
  refine ⟨fd, F, F.ok sc_Field_dot_figures_of len_Field_dot_figures_of (fun cdv A outer s H vs Q E hr h => ⟨t_Field_dot_figures_of K, PSs.nox ?_, pure_Field_dot_figures_of vs H Q E h⟩)⟩
  exact (pss_one (ps_ret (pe_call g_figures_in (hr.mono (by decide)) rfl (He.glo_ok KX G (c.1.fact 16)) F_figures_in.kp (b_figures_in F_figures_in) .nil pass0 (pa_cons (pe_fld (pv 0) rfl) (pa_cons (pe_callB call_len_seq (by rfl) (He.free_ok KX G (c.1.fact 60)) (by decide +kernel) (pa_cons (pe_fld (pv 0) rfl) pa_nil)) (pa_cons (pv 1) pa_nil))))))
theorem ok_Field_dot_with_figures (KX : K.In h) (G : h.Ns mainGlobals mg) (c : SaysM fa fn ex K) : ∃ fd, FunD K "with_figures" "Field.with_figures" (defArgs s_Field_dot_with_figures) (defBody s_Field_dot_with_figures) (defScope s_Field_dot_with_figures) [] [] (d_Field_dot_with_figures.at_ K) fd ∧ FnOk P w K mg base CX0 2 (d_Field_dot_with_figures.at_ K) fd ["self", "figures"] (sp_Field_dot_with_figures K) := by
  obtain ⟨fd_told_by, F_told_by, g_told_by⟩ := ok_told_by (P := P) (w := w) (base := base) KX G c
  obtain ⟨fd, F⟩ := c.1.def_ 24 (d := d_Field_dot_with_figures) rfl
  refine ⟨fd, F, F.ok sc_Field_dot_with_figures len_Field_dot_with_figures (fun cdv A outer s H vs Q E hr h => ⟨t_Field_dot_with_figures K, PSs.nox ?_, pure_Field_dot_with_figures vs H Q E h⟩)⟩
  exact (pss_one (ps_ret (pe_call g_told_by (hr.mono (by decide)) rfl (He.glo_ok KX G (c.1.fact 17)) F_told_by.kp (b_told_by F_told_by) .nil pass0 (pa_cons (pv 1) (pa_cons (pe_fld (pv 0) rfl) pa_nil)))))
theorem ok_Field_dot_added (KX : K.In h) (G : h.Ns mainGlobals mg) (c : SaysM fa fn ex K) : ∃ fd, FunD K "added" "Field.added" (defArgs s_Field_dot_added) (defBody s_Field_dot_added) (defScope s_Field_dot_added) [] [] (d_Field_dot_added.at_ K) fd ∧ FnOk P w K mg base CX0 3 (d_Field_dot_added.at_ K) fd ["self", "one", "other"] (sp_Field_dot_added K) := by
  obtain ⟨fd_Field_dot_figures_of, F_Field_dot_figures_of, g_Field_dot_figures_of⟩ := ok_Field_dot_figures_of (P := P) (w := w) (base := base) KX G c
  obtain ⟨fd_Field_dot_with_figures, F_Field_dot_with_figures, g_Field_dot_with_figures⟩ := ok_Field_dot_with_figures (P := P) (w := w) (base := base) KX G c
  obtain ⟨fd, F⟩ := c.1.def_ 25 (d := d_Field_dot_added) rfl
  refine ⟨fd, F, F.ok sc_Field_dot_added len_Field_dot_added (fun cdv A outer s H vs Q E hr h => ⟨t_Field_dot_added K, PSs.nox ?_, pure_Field_dot_added vs H Q E h⟩)⟩
  exact (pss_cons (ps_set (i := 3) sc_Field_dot_added.nd rfl (by first | exact Or.inl rfl | exact Or.inr rfl) (pe_listZip rfl (He.free_ok KX G (c.1.fact 58)) (He.free_ok KX G (c.1.fact 64)) (pa_cons (pe_meth (pv 0) (He.cls_ok (c.1.fact 72)) (He.meth_ok (c.1.fact 75)) g_Field_dot_figures_of (hr.mono (by decide)) (b_Field_dot_figures_of F_Field_dot_figures_of) .nil pass0 (pa_cons (pv 1) pa_nil)) (pa_cons (pe_meth (pv 0) (He.cls_ok (c.1.fact 72)) (He.meth_ok (c.1.fact 75)) g_Field_dot_figures_of (hr.mono (by decide)) (b_Field_dot_figures_of F_Field_dot_figures_of) .nil pass0 (pa_cons (pv 2) pa_nil)) pa_nil)))) (pss_one (ps_ret (pe_meth (pv 0) (He.cls_ok (c.1.fact 72)) (He.meth_ok (c.1.fact 76)) g_Field_dot_with_figures (hr.mono (by decide)) (b_Field_dot_with_figures F_Field_dot_with_figures) .nil pass0 (pa_cons (pe_lc (own := [("figure", 4), ("beside", 5)]) (g := (gTup K 2 (gCons (gName 4) (gCons (gName 5) gNil)))) (tt := tYes) (by rfl) sc_Field_dot_added.nd (pi_list (pv 3)) (blkOk_by (own := [("figure", 4), ("beside", 5)]) (N := ["self", "one", "other", "pairs", "figure", "beside"]) (sc := defScope s_Field_dot_added) (by decide +kernel)) (fun _ _ _ _ _ => (pg_tup rfl (pgs_cons (pg_name (i := 4) sc_Field_dot_added.nd rfl (by first | exact Or.inl rfl | exact Or.inr rfl)) (pgs_cons (pg_name (i := 5) sc_Field_dot_added.nd rfl (by first | exact Or.inl rfl | exact Or.inr rfl)) pgs_nil)))) (fun _ _ _ _ _ => pts_nil) (fun _ _ _ _ _ => (pe_op op_mod (pe_op op_add (pv 4) (pv 5)) (pe_fld (pv 0) rfl)))) pa_nil)))))
theorem ok_plus (KX : K.In h) (G : h.Ns mainGlobals mg) (c : SaysM fa fn ex K) : ∃ fd, FunD K "plus" "plus" (defArgs s_plus) (defBody s_plus) (defScope s_plus) [] [] (d_plus.at_ K) fd ∧ FnOk P w K mg base CX0 7 (d_plus.at_ K) fd ["field", "one", "other"] (sp_plus K) := by
  obtain ⟨fd_check_two, F_check_two, g_check_two⟩ := ok_check_two (P := P) (w := w) (base := base) KX G c
  obtain ⟨fd_Field_dot_added, F_Field_dot_added, g_Field_dot_added⟩ := ok_Field_dot_added (P := P) (w := w) (base := base) KX G c
  obtain ⟨fd, F⟩ := c.1.def_ 35 (d := d_plus) rfl
  refine ⟨fd, F, F.ok sc_plus len_plus (fun cdv A outer s H vs Q E hr h => ⟨t_plus K, PSs.nox ?_, pure_plus vs H Q E h⟩)⟩
  exact (pss_cons (ps_expr (pe_call g_check_two (hr.mono (by decide)) rfl (He.glo_ok KX G (c.1.fact 24)) F_check_two.kp (b_check_two F_check_two) .nil pass0 (pa_cons (pv 0) (pa_cons (pv 1) (pa_cons (pv 2) pa_nil))))) (pss_one (ps_ret (pe_meth (pv 0) (He.cls_ok (c.1.fact 72)) (He.meth_ok (c.1.fact 77)) g_Field_dot_added (hr.mono (by decide)) (b_Field_dot_added F_Field_dot_added) .nil pass0 (pa_cons (pv 1) (pa_cons (pv 2) pa_nil))))))
theorem ok_Field_dot_multiplied (KX : K.In h) (G : h.Ns mainGlobals mg) (c : SaysM fa fn ex K) : ∃ fd, FunD K "multiplied" "Field.multiplied" (defArgs s_Field_dot_multiplied) (defBody s_Field_dot_multiplied) (defScope s_Field_dot_multiplied) [] [] (d_Field_dot_multiplied.at_ K) fd ∧ FnOk P w K mg base CX0 1 (d_Field_dot_multiplied.at_ K) fd ["self", "one", "other"] (sp_Field_dot_multiplied K) := by
  obtain ⟨fd, F⟩ := c.1.def_ 27 (d := d_Field_dot_multiplied) rfl
  refine ⟨fd, F, F.ok sc_Field_dot_multiplied len_Field_dot_multiplied (fun cdv A outer s H vs Q E hr h => ⟨t_Field_dot_multiplied K, PSs.nox ?_, pure_Field_dot_multiplied vs H Q E h⟩)⟩
  exact (pss_cons (ps_if (PW.pt (pw_or (pt_cmpR op_eq (pv 1) pe_int (nomark _)) (pw_or1 (pt_cmpR op_eq (pv 2) pe_int (nomark _))))) (pss_one (ps_ret pe_int)) pss_nil) (pss_one (ps_ret (pe_ix ix_list (pe_fld (pv 0) rfl) (pe_op op_mod (pe_op op_add (pe_dget (hu_of hr) (pe_fld (pv 0) rfl) (pv 1) (fun _ _ => rfl)) (pe_dget (hu_of hr) (pe_fld (pv 0) rfl) (pv 2) (fun _ _ => rfl))) (pe_callB call_len_seq (by rfl) (He.free_ok KX G (c.1.fact 60)) (by decide +kernel) (pa_cons (pe_fld (pv 0) rfl) pa_nil))) (fun _ _ => rfl)))))
theorem ok_times (KX : K.In h) (G : h.Ns mainGlobals mg) (c : SaysM fa fn ex K) : ∃ fd, FunD K "times" "times" (defArgs s_times) (defBody s_times) (defScope s_times) [] [] (d_times.at_ K) fd ∧ FnOk P w K mg base CX0 7 (d_times.at_ K) fd ["field", "one", "other"] (sp_times K) := by
  obtain ⟨fd_check_two, F_check_two, g_check_two⟩ := ok_check_two (P := P) (w := w) (base := base) KX G c
  obtain ⟨fd_Field_dot_multiplied, F_Field_dot_multiplied, g_Field_dot_multiplied⟩ := ok_Field_dot_multiplied (P := P) (w := w) (base := base) KX G c
  obtain ⟨fd, F⟩ := c.1.def_ 37 (d := d_times) rfl
  refine ⟨fd, F, F.ok sc_times len_times (fun cdv A outer s H vs Q E hr h => ⟨t_times K, PSs.nox ?_, pure_times vs H Q E h⟩)⟩
  exact (pss_cons (ps_expr (pe_call g_check_two (hr.mono (by decide)) rfl (He.glo_ok KX G (c.1.fact 24)) F_check_two.kp (b_check_two F_check_two) .nil pass0 (pa_cons (pv 0) (pa_cons (pv 1) (pa_cons (pv 2) pa_nil))))) (pss_one (ps_ret (pe_meth (pv 0) (He.cls_ok (c.1.fact 72)) (He.meth_ok (c.1.fact 79)) g_Field_dot_multiplied (hr.mono (by decide)) (b_Field_dot_multiplied F_Field_dot_multiplied) .nil pass0 (pa_cons (pv 1) (pa_cons (pv 2) pa_nil))))))
theorem ok_Field_dot_taken (KX : K.In h) (G : h.Ns mainGlobals mg) (c : SaysM fa fn ex K) : ∃ fd, FunD K "taken" "Field.taken" (defArgs s_Field_dot_taken) (defBody s_Field_dot_taken) (defScope s_Field_dot_taken) [] [] (d_Field_dot_taken.at_ K) fd ∧ FnOk P w K mg base CX0 3 (d_Field_dot_taken.at_ K) fd ["self", "one", "other"] (sp_Field_dot_taken K) := by
  obtain ⟨fd_Field_dot_figures_of, F_Field_dot_figures_of, g_Field_dot_figures_of⟩ := ok_Field_dot_figures_of (P := P) (w := w) (base := base) KX G c
  obtain ⟨fd_Field_dot_with_figures, F_Field_dot_with_figures, g_Field_dot_with_figures⟩ := ok_Field_dot_with_figures (P := P) (w := w) (base := base) KX G c
  obtain ⟨fd, F⟩ := c.1.def_ 26 (d := d_Field_dot_taken) rfl
  refine ⟨fd, F, F.ok sc_Field_dot_taken len_Field_dot_taken (fun cdv A outer s H vs Q E hr h => ⟨t_Field_dot_taken K, PSs.nox ?_, pure_Field_dot_taken vs H Q E h⟩)⟩
  exact (pss_cons (ps_set (i := 3) sc_Field_dot_taken.nd rfl (by first | exact Or.inl rfl | exact Or.inr rfl) (pe_listZip rfl (He.free_ok KX G (c.1.fact 58)) (He.free_ok KX G (c.1.fact 64)) (pa_cons (pe_meth (pv 0) (He.cls_ok (c.1.fact 72)) (He.meth_ok (c.1.fact 75)) g_Field_dot_figures_of (hr.mono (by decide)) (b_Field_dot_figures_of F_Field_dot_figures_of) .nil pass0 (pa_cons (pv 1) pa_nil)) (pa_cons (pe_meth (pv 0) (He.cls_ok (c.1.fact 72)) (He.meth_ok (c.1.fact 75)) g_Field_dot_figures_of (hr.mono (by decide)) (b_Field_dot_figures_of F_Field_dot_figures_of) .nil pass0 (pa_cons (pv 2) pa_nil)) pa_nil)))) (pss_one (ps_ret (pe_meth (pv 0) (He.cls_ok (c.1.fact 72)) (He.meth_ok (c.1.fact 76)) g_Field_dot_with_figures (hr.mono (by decide)) (b_Field_dot_with_figures F_Field_dot_with_figures) .nil pass0 (pa_cons (pe_lc (own := [("figure", 4), ("beside", 5)]) (g := (gTup K 2 (gCons (gName 4) (gCons (gName 5) gNil)))) (tt := tYes) (by rfl) sc_Field_dot_taken.nd (pi_list (pv 3)) (blkOk_by (own := [("figure", 4), ("beside", 5)]) (N := ["self", "one", "other", "pairs", "figure", "beside"]) (sc := defScope s_Field_dot_taken) (by decide +kernel)) (fun _ _ _ _ _ => (pg_tup rfl (pgs_cons (pg_name (i := 4) sc_Field_dot_taken.nd rfl (by first | exact Or.inl rfl | exact Or.inr rfl)) (pgs_cons (pg_name (i := 5) sc_Field_dot_taken.nd rfl (by first | exact Or.inl rfl | exact Or.inr rfl)) pgs_nil)))) (fun _ _ _ _ _ => pts_nil) (fun _ _ _ _ _ => (pe_op op_mod (pe_op op_sub (pv 4) (pv 5)) (pe_fld (pv 0) rfl)))) pa_nil)))))
theorem ok_minus (KX : K.In h) (G : h.Ns mainGlobals mg) (c : SaysM fa fn ex K) : ∃ fd, FunD K "minus" "minus" (defArgs s_minus) (defBody s_minus) (defScope s_minus) [] [] (d_minus.at_ K) fd ∧ FnOk P w K mg base CX0 7 (d_minus.at_ K) fd ["field", "one", "other"] (sp_minus K) := by
  obtain ⟨fd_check_two, F_check_two, g_check_two⟩ := ok_check_two (P := P) (w := w) (base := base) KX G c
  obtain ⟨fd_Field_dot_taken, F_Field_dot_taken, g_Field_dot_taken⟩ := ok_Field_dot_taken (P := P) (w := w) (base := base) KX G c
  obtain ⟨fd, F⟩ := c.1.def_ 36 (d := d_minus) rfl
  refine ⟨fd, F, F.ok sc_minus len_minus (fun cdv A outer s H vs Q E hr h => ⟨t_minus K, PSs.nox ?_, pure_minus vs H Q E h⟩)⟩
  exact (pss_cons (ps_expr (pe_call g_check_two (hr.mono (by decide)) rfl (He.glo_ok KX G (c.1.fact 24)) F_check_two.kp (b_check_two F_check_two) .nil pass0 (pa_cons (pv 0) (pa_cons (pv 1) (pa_cons (pv 2) pa_nil))))) (pss_one (ps_ret (pe_meth (pv 0) (He.cls_ok (c.1.fact 72)) (He.meth_ok (c.1.fact 78)) g_Field_dot_taken (hr.mono (by decide)) (b_Field_dot_taken F_Field_dot_taken) .nil pass0 (pa_cons (pv 1) (pa_cons (pv 2) pa_nil))))))
theorem ok_Field_dot_prime (KX : K.In h) (G : h.Ns mainGlobals mg) (c : SaysM fa fn ex K) : ∃ fd, FunD K "prime" "Field.prime" (defArgs s_Field_dot_prime) (defBody s_Field_dot_prime) (defScope s_Field_dot_prime) [] [] (d_Field_dot_prime.at_ K) fd ∧ FnOk P w K mg base CX0 1 (d_Field_dot_prime.at_ K) fd ["self"] (sp_Field_dot_prime K) := by
  obtain ⟨fd, F⟩ := c.1.def_ 21 (d := d_Field_dot_prime) rfl
  refine ⟨fd, F, F.ok sc_Field_dot_prime len_Field_dot_prime (fun cdv A outer s H vs Q E hr h => ⟨t_Field_dot_prime K, PSs.nox ?_, pure_Field_dot_prime vs H Q E h⟩)⟩
  exact (pss_one (ps_ret (pe_fld (pv 0) rfl)))
theorem ok_Field_dot_divided (KX : K.In h) (G : h.Ns mainGlobals mg) (c : SaysM fa fn ex K) : ∃ fd, FunD K "divided" "Field.divided" (defArgs s_Field_dot_divided) (defBody s_Field_dot_divided) (defScope s_Field_dot_divided) [] [] (d_Field_dot_divided.at_ K) fd ∧ FnOk P w K mg base CX0 1 (d_Field_dot_divided.at_ K) fd ["self", "one", "other"] (sp_Field_dot_divided K) := by
  obtain ⟨fd, F⟩ := c.1.def_ 28 (d := d_Field_dot_divided) rfl
  refine ⟨fd, F, F.ok sc_Field_dot_divided len_Field_dot_divided (fun cdv A outer s H vs Q E hr h => ⟨t_Field_dot_divided K, PSs.nox ?_, pure_Field_dot_divided vs H Q E h⟩)⟩
  exact (pss_cons (ps_if (pt_cmpR op_eq (pv 1) pe_int (nomark _)) (pss_one (ps_ret pe_int)) pss_nil) (pss_one (ps_ret (pe_ix ix_list (pe_fld (pv 0) rfl) (pe_op op_mod (pe_op op_sub (pe_dget (hu_of hr) (pe_fld (pv 0) rfl) (pv 1) (fun _ _ => rfl)) (pe_dget (hu_of hr) (pe_fld (pv 0) rfl) (pv 2) (fun _ _ => rfl))) (pe_callB call_len_seq (by rfl) (He.free_ok KX G (c.1.fact 60)) (by decide +kernel) (pa_cons (pe_fld (pv 0) rfl) pa_nil))) (fun _ _ => rfl)))))
theorem ok_over (KX : K.In h) (G : h.Ns mainGlobals mg) (c : SaysM fa fn ex K) : ∃ fd, FunD K "over" "over" (defArgs s_over) (defBody s_over) (defScope s_over) [] [] (d_over.at_ K) fd ∧ FnOk P w K mg base (L2.CX P w) 7 (d_over.at_ K) fd ["field", "one", "other"] (sp_over K) := by
  obtain ⟨fd_check_two, F_check_two, g_check_two⟩ := ok_check_two (P := P) (w := w) (base := base) KX G c
  obtain ⟨fd_Field_dot_divided, F_Field_dot_divided, g_Field_dot_divided⟩ := ok_Field_dot_divided (P := P) (w := w) (base := base) KX G c
  obtain ⟨fd, F⟩ := c.1.def_ 38 (d := d_over) rfl
  refine ⟨fd, F, F.ok (CX := L2.CX P w) sc_over len_over (fun cdv A outer s H vs Q E hr h => ⟨t_over K E, ?_, pure_over vs H Q E h⟩)⟩
  exact (pss_cons (ps_expr (pe_call g_check_two (hr.mono (by decide)) rfl (He.glo_ok KX G (c.1.fact 24)) F_check_two.kp (b_check_two F_check_two) .nil pass0 (pa_cons (pv 0) (pa_cons (pv 1) (pa_cons (pv 2) pa_nil))))) (pss_cons (ps_if (pt_cmpR op_eq (pv 2) pe_int (nomark _)) (pss_one (ps_raise rfl (takes_of rfl rfl rfl rfl) (pmk_own0 PySem.F.excBase_RuntimeError (exc_DividedByNought c).1 (He.glo_ok KX G (c.1.fact 47)) (exc_DividedByNought c).2.1 (raises_own (exc_DividedByNought c).2.2.1 (exc_DividedByNought c).2.2.2) (by rfl)))) pss_nil) (pss_one (ps_ret (pe_meth (pv 0) (He.cls_ok (c.1.fact 72)) (He.meth_ok (c.1.fact 80)) g_Field_dot_divided (hr.mono (by decide)) (b_Field_dot_divided F_Field_dot_divided) .nil pass0 (pa_cons (pv 1) (pa_cons (pv 2) pa_nil)))))))
theorem ok_law_three_right (KX : K.In h) (G : h.Ns mainGlobals mg) (c : SaysM fa fn ex K) : ∃ fd, FunD K "_law_three_right" "_law_three_right" (defArgs s_law_three_right) (defBody s_law_three_right) (defScope s_law_three_right) [] [] (d_law_three_right.at_ K) fd ∧ FnOk P w K mg base CX0 8 (d_law_three_right.at_ K) fd ["_law_field_here", "_law_one", "_law_two", "_law_three"] (sp_law_three_right K) := by
  obtain ⟨fd_plus, F_plus, g_plus⟩ := ok_plus (P := P) (w := w) (base := base) KX G c
  obtain ⟨fd_times, F_times, g_times⟩ := ok_times (P := P) (w := w) (base := base) KX G c
  obtain ⟨fd_minus, F_minus, g_minus⟩ := ok_minus (P := P) (w := w) (base := base) KX G c
  obtain ⟨fd_Field_dot_prime, F_Field_dot_prime, g_Field_dot_prime⟩ := ok_Field_dot_prime (P := P) (w := w) (base := base) KX G c
  obtain ⟨pp_Field_dot_prime, hp_Field_dot_prime⟩ := prop_prime c
  obtain ⟨fd_over, F_over, g_over⟩ := ok_over (P := P) (w := w) (base := base) KX G c
  obtain ⟨fd, F⟩ := c.1.def_ 45 (d := d_law_three_right) rfl
  refine ⟨fd, F, F.ok sc_law_three_right len_law_three_right (fun cdv A outer s H vs Q E hr h => ⟨t_law_three_right K, PSs.nox ?_, pure_law_three_right vs H Q E h⟩)⟩
  exact (pss_cons (ps_if (pt_cmpR op_ne (pe_call g_plus (hr.mono (by decide)) rfl (He.glo_ok KX G (c.1.fact 25)) F_plus.kp (b_plus F_plus) .nil pass0 (pa_cons (pv 0) (pa_cons (pe_call g_plus (hr.mono (by decide)) rfl (He.glo_ok KX G (c.1.fact 25)) F_plus.kp (b_plus F_plus) .nil pass0 (pa_cons (pv 0) (pa_cons (pv 1) (pa_cons (pv 2) pa_nil)))) (pa_cons (pv 3) pa_nil)))) (pe_call g_plus (hr.mono (by decide)) rfl (He.glo_ok KX G (c.1.fact 25)) F_plus.kp (b_plus F_plus) .nil pass0 (pa_cons (pv 0) (pa_cons (pv 1) (pa_cons (pe_call g_plus (hr.mono (by decide)) rfl (He.glo_ok KX G (c.1.fact 25)) F_plus.kp (b_plus F_plus) .nil pass0 (pa_cons (pv 0) (pa_cons (pv 2) (pa_cons (pv 3) pa_nil)))) pa_nil)))) (nomark _)) (pss_one (ps_ret pe_bl)) pss_nil) (pss_cons (ps_if (pt_cmpR op_ne (pe_call g_times (hr.mono (by decide)) rfl (He.glo_ok KX G (c.1.fact 27)) F_times.kp (b_times F_times) .nil pass0 (pa_cons (pv 0) (pa_cons (pe_call g_times (hr.mono (by decide)) rfl (He.glo_ok KX G (c.1.fact 27)) F_times.kp (b_times F_times) .nil pass0 (pa_cons (pv 0) (pa_cons (pv 1) (pa_cons (pv 2) pa_nil)))) (pa_cons (pv 3) pa_nil)))) (pe_call g_times (hr.mono (by decide)) rfl (He.glo_ok KX G (c.1.fact 27)) F_times.kp (b_times F_times) .nil pass0 (pa_cons (pv 0) (pa_cons (pv 1) (pa_cons (pe_call g_times (hr.mono (by decide)) rfl (He.glo_ok KX G (c.1.fact 27)) F_times.kp (b_times F_times) .nil pass0 (pa_cons (pv 0) (pa_cons (pv 2) (pa_cons (pv 3) pa_nil)))) pa_nil)))) (nomark _)) (pss_one (ps_ret pe_bl)) pss_nil) (pss_cons (ps_if (pt_cmpR op_ne (pe_call g_times (hr.mono (by decide)) rfl (He.glo_ok KX G (c.1.fact 27)) F_times.kp (b_times F_times) .nil pass0 (pa_cons (pv 0) (pa_cons (pv 1) (pa_cons (pe_call g_plus (hr.mono (by decide)) rfl (He.glo_ok KX G (c.1.fact 25)) F_plus.kp (b_plus F_plus) .nil pass0 (pa_cons (pv 0) (pa_cons (pv 2) (pa_cons (pv 3) pa_nil)))) pa_nil)))) (pe_call g_plus (hr.mono (by decide)) rfl (He.glo_ok KX G (c.1.fact 25)) F_plus.kp (b_plus F_plus) .nil pass0 (pa_cons (pv 0) (pa_cons (pe_call g_times (hr.mono (by decide)) rfl (He.glo_ok KX G (c.1.fact 27)) F_times.kp (b_times F_times) .nil pass0 (pa_cons (pv 0) (pa_cons (pv 1) (pa_cons (pv 2) pa_nil)))) (pa_cons (pe_call g_times (hr.mono (by decide)) rfl (He.glo_ok KX G (c.1.fact 27)) F_times.kp (b_times F_times) .nil pass0 (pa_cons (pv 0) (pa_cons (pv 1) (pa_cons (pv 3) pa_nil)))) pa_nil)))) (nomark _)) (pss_one (ps_ret pe_bl)) pss_nil) (pss_cons (ps_if (PW.pt (pw_or (pt_cmpR op_ne (pe_call g_plus (hr.mono (by decide)) rfl (He.glo_ok KX G (c.1.fact 25)) F_plus.kp (b_plus F_plus) .nil pass0 (pa_cons (pv 0) (pa_cons (pe_call g_minus (hr.mono (by decide)) rfl (He.glo_ok KX G (c.1.fact 26)) F_minus.kp (b_minus F_minus) .nil pass0 (pa_cons (pv 0) (pa_cons (pv 1) (pa_cons (pv 2) pa_nil)))) (pa_cons (pv 2) pa_nil)))) (pv 1) (nomark _)) (pw_or1 (pt_cmpR op_ne (pe_call g_times (hr.mono (by decide)) rfl (He.glo_ok KX G (c.1.fact 27)) F_times.kp (b_times F_times) .nil pass0 (pa_cons (pv 0) (pa_cons (pv 1) (pa_cons (pv 2) pa_nil)))) (pe_call g_times (hr.mono (by decide)) rfl (He.glo_ok KX G (c.1.fact 27)) F_times.kp (b_times F_times) .nil pass0 (pa_cons (pv 0) (pa_cons (pv 2) (pa_cons (pv 1) pa_nil)))) (nomark _))))) (pss_one (ps_ret pe_bl)) pss_nil) (pss_cons (ps_set (i := 4) sc_law_three_right.nd rfl (by first | exact Or.inl rfl | exact Or.inr rfl) pe_int) (pss_cons (ps_for PassesOwn.never rfl (pi_range1 (by rfl) (He.free_ok KX G (c.1.fact 62)) (pa_cons (pe_prop (pv 0) (He.cls_ok (c.1.fact 72)) hp_Field_dot_prime g_Field_dot_prime (hr.mono (by decide)) (b_Field_dot_prime F_Field_dot_prime) .nil pass0 rfl) pa_nil)) (pg_name (i := 5) sc_law_three_right.nd rfl (by first | exact Or.inl rfl | exact Or.inr rfl)) (pss_one (ps_set (i := 4) sc_law_three_right.nd rfl (by first | exact Or.inl rfl | exact Or.inr rfl) (pe_call g_plus (hr.mono (by decide)) rfl (He.glo_ok KX G (c.1.fact 25)) F_plus.kp (b_plus F_plus) .nil pass0 (pa_cons (pv 0) (pa_cons (pv 4) (pa_cons (pv 1) pa_nil))))))) (pss_cons (ps_if (PW.pt (pw_or (pt_cmpR op_ne (pv 4) pe_int (nomark _)) (pw_or1 (pt_cmpR op_ne (pe_call g_minus (hr.mono (by decide)) rfl (He.glo_ok KX G (c.1.fact 26)) F_minus.kp (b_minus F_minus) .nil pass0 (pa_cons (pv 0) (pa_cons (pv 1) (pa_cons (pv 2) pa_nil)))) (pe_call g_minus (hr.mono (by decide)) rfl (He.glo_ok KX G (c.1.fact 26)) F_minus.kp (b_minus F_minus) .nil pass0 (pa_cons (pv 0) (pa_cons pe_int (pa_cons (pe_call g_minus (hr.mono (by decide)) rfl (He.glo_ok KX G (c.1.fact 26)) F_minus.kp (b_minus F_minus) .nil pass0 (pa_cons (pv 0) (pa_cons (pv 2) (pa_cons (pv 1) pa_nil)))) pa_nil)))) (nomark _))))) (pss_one (ps_ret pe_bl)) pss_nil) (pss_one (ps_ret (pe_or (pe_cmpR op_eq (pv 2) pe_int (nomark _)) (pe_one (pe_cmpR op_eq (pe_call g_over (hr.mono (by decide)) rfl (He.glo_ok KX G (c.1.fact 28)) F_over.kp (b_over F_over) .nil passL (pa_cons (pv 0) (pa_cons (pe_call g_times (hr.mono (by decide)) rfl (He.glo_ok KX G (c.1.fact 27)) F_times.kp (b_times F_times) .nil pass0 (pa_cons (pv 0) (pa_cons (pv 1) (pa_cons (pv 2) pa_nil)))) (pa_cons (pv 2) pa_nil)))) (pv 1) (nomark _)))))))))))))
theorem kb_over_0_other_one_field {f : Addr} {fd : FuncData} (F : FunD K "over" "over" (defArgs s_over) (defBody s_over) (defScope s_over) [] [] f fd) : KBn K fd ["field", "one", "other"] 0 ["other", "one", "field"] (permV [2, 1, 0]) (permV [2, 1, 0]) := kbN F 0 ["other", "one", "field"] [2, 1, 0] fun _ _ _ _ _ _ us ws h1 h2 => match us, ws, h1, h2 with | [], [_, _, _], _, _ => rfl
theorem ok_law_is_refused (KX : K.In h) (G : h.Ns mainGlobals mg) (c : SaysM fa fn ex K) : ∃ fd, FunD K "_law_is_refused" "_law_is_refused" (defArgs s_law_is_refused) (defBody s_law_is_refused) (defScope s_law_is_refused) [] [] (d_law_is_refused.at_ K) fd ∧ FnOk P w K mg base CX0 8 (d_law_is_refused.at_ K) fd ["_law_field_here", "_law_one"] (sp_law_is_refused K) := by
  obtain ⟨fd_over, F_over, g_over⟩ := ok_over (P := P) (w := w) (base := base) KX G c
  obtain ⟨fd, F⟩ := c.1.def_ 47 (d := d_law_is_refused) rfl
  refine ⟨fd, F, F.ok sc_law_is_refused len_law_is_refused (fun cdv A outer s H vs Q E hr h => ⟨t_law_is_refused K, PSs.nox ?_, pure_law_is_refused vs H Q E h⟩)⟩
  exact (pss_cons (ps_set (i := 2) sc_law_is_refused.nd rfl (by first | exact Or.inl rfl | exact Or.inr rfl) pe_int) (pss_cons (ps_try_only (x := "DividedByNought") (c := .ref (He.ga K "DividedByNought")) (tb := (fun W => tDrop (tCallNS 3 (sp_over K) (permV [2, 1, 0]) (WE W) (tCons (tC (.int 0)) (tCons (tVar 1) (tCons (tVar 0) tNil)))))) (ts := (fun _ _ _ => (tAsg (tC (.int 1)) (gName 2)))) rfl rfl ⟨rfl, by decide, .inl (He.glo_ok KX G (c.1.fact 47))⟩ takes0 (fun W pn xe tk _ => pss_one (ps_expr (pe_callNS (ks := ["other", "one", "field"]) g_over (hr.mono (by decide)) rfl (He.glo_ok KX G (c.1.fact 28)) F_over.kp (kb_over_0_other_one_field F_over) (passAt tk) (pk_cons pe_int (pk_cons (pv 1) (pk_cons (pv 0) pk_nil)))))) (fun a oe cls d pn _ _ => pss_one (ps_set (i := 2) sc_law_is_refused.nd rfl (by first | exact Or.inl rfl | exact Or.inr rfl) pe_int))) (pss_one (ps_ret (pe_cmpR op_eq (pv 2) pe_int (nomark _))))))
theorem ok_check_many (KX : K.In h) (G : h.Ns mainGlobals mg) (c : SaysM fa fn ex K) : ∃ fd, FunD K "check_many" "check_many" (defArgs s_check_many) (defBody s_check_many) (defScope s_check_many) [] [] (d_check_many.at_ K) fd ∧ FnOk P w K mg base CX0 4 (d_check_many.at_ K) fd ["value", "most"] (sp_check_many K) := by
  obtain ⟨fd_is_below, F_is_below, g_is_below⟩ := ok_is_below (P := P) (w := w) (base := base) KX G c
  obtain ⟨fd, F⟩ := c.1.def_ 33 (d := d_check_many) rfl
  refine ⟨fd, F, F.ok sc_check_many len_check_many (fun cdv A outer s H vs Q E hr h => ⟨t_check_many K, PSs.nox ?_, pure_check_many vs H Q E h⟩)⟩
  exact (pss_one (ps_if (pt_not (pt_val (pe_call g_is_below (hr.mono (by decide)) rfl (He.glo_ok KX G (c.1.fact 2)) F_is_below.kp (b_is_below F_is_below) .nil pass0 (pa_cons (pv 0) (pa_cons (pe_op op_add (pv 1) pe_int) pa_nil))))) (pss_one ps_never) pss_nil))
theorem ok_check_one_many (KX : K.In h) (G : h.Ns mainGlobals mg) (c : SaysM fa fn ex K) : ∃ fd, FunD K "check_one_many" "check_one_many" (defArgs s_check_one_many) (defBody s_check_one_many) (defScope s_check_one_many) [] [] (d_check_one_many.at_ K) fd ∧ FnOk P w K mg base CX0 6 (d_check_one_many.at_ K) fd ["field", "one", "many", "most"] (sp_check_one_many K) := by
  obtain ⟨fd_check_field, F_check_field, g_check_field⟩ := ok_check_field (P := P) (w := w) (base := base) KX G c
  obtain ⟨fd_check_one, F_check_one, g_check_one⟩ := ok_check_one (P := P) (w := w) (base := base) KX G c
  obtain ⟨fd_check_many, F_check_many, g_check_many⟩ := ok_check_many (P := P) (w := w) (base := base) KX G c
  obtain ⟨fd, F⟩ := c.1.def_ 39 (d := d_check_one_many) rfl
  refine ⟨fd, F, F.ok sc_check_one_many len_check_one_many (fun cdv A outer s H vs Q E hr h => ⟨t_check_one_many K, PSs.nox ?_, pure_check_one_many vs H Q E h⟩)⟩
  exact (pss_cons (ps_expr (pe_call g_check_field (hr.mono (by decide)) rfl (He.glo_ok KX G (c.1.fact 21)) F_check_field.kp (b_check_field F_check_field) .nil pass0 (pa_cons (pv 0) pa_nil))) (pss_cons (ps_expr (pe_call g_check_one (hr.mono (by decide)) rfl (He.glo_ok KX G (c.1.fact 22)) F_check_one.kp (b_check_one F_check_one) .nil pass0 (pa_cons (pv 0) (pa_cons (pv 1) pa_nil)))) (pss_one (ps_expr (pe_call g_check_many (hr.mono (by decide)) rfl (He.glo_ok KX G (c.1.fact 23)) F_check_many.kp (b_check_many F_check_many) .nil pass0 (pa_cons (pv 2) (pa_cons (pv 3) pa_nil)))))))
theorem ok_Field_dot_raised (KX : K.In h) (G : h.Ns mainGlobals mg) (c : SaysM fa fn ex K) : ∃ fd, FunD K "raised" "Field.raised" (defArgs s_Field_dot_raised) (defBody s_Field_dot_raised) (defScope s_Field_dot_raised) [] [] (d_Field_dot_raised.at_ K) fd ∧ FnOk P w K mg base CX0 1 (d_Field_dot_raised.at_ K) fd ["self", "one", "many"] (sp_Field_dot_raised K) := by
  obtain ⟨fd, F⟩ := c.1.def_ 29 (d := d_Field_dot_raised) rfl
  refine ⟨fd, F, F.ok sc_Field_dot_raised len_Field_dot_raised (fun cdv A outer s H vs Q E hr h => ⟨t_Field_dot_raised K, PSs.nox ?_, pure_Field_dot_raised vs H Q E h⟩)⟩
  exact (pss_cons (ps_if (pt_cmpR op_eq (pv 2) pe_int (nomark _)) (pss_one (ps_ret pe_int)) pss_nil) (pss_cons (ps_if (pt_cmpR op_eq (pv 1) pe_int (nomark _)) (pss_one (ps_ret pe_int)) pss_nil) (pss_one (ps_ret (pe_ix ix_list (pe_fld (pv 0) rfl) (pe_op op_mod (pe_op op_mul (pe_dget (hu_of hr) (pe_fld (pv 0) rfl) (pv 1) (fun _ _ => rfl)) (pv 2)) (pe_callB call_len_seq (by rfl) (He.free_ok KX G (c.1.fact 60)) (by decide +kernel) (pa_cons (pe_fld (pv 0) rfl) pa_nil))) (fun _ _ => rfl))))))
theorem ok_power (KX : K.In h) (G : h.Ns mainGlobals mg) (c : SaysM fa fn ex K) : ∃ fd, FunD K "power" "power" (defArgs s_power) (defBody s_power) (defScope s_power) [] [] (d_power.at_ K) fd ∧ FnOk P w K mg base CX0 7 (d_power.at_ K) fd ["field", "one", "many"] (sp_power K) := by
  obtain ⟨fd_check_one_many, F_check_one_many, g_check_one_many⟩ := ok_check_one_many (P := P) (w := w) (base := base) KX G c
  obtain ⟨fd_Field_dot_raised, F_Field_dot_raised, g_Field_dot_raised⟩ := ok_Field_dot_raised (P := P) (w := w) (base := base) KX G c
  obtain ⟨fd, F⟩ := c.1.def_ 40 (d := d_power) rfl
  refine ⟨fd, F, F.ok sc_power len_power (fun cdv A outer s H vs Q E hr h => ⟨t_power K, PSs.nox ?_, pure_power vs H Q E h⟩)⟩
  exact (pss_cons (ps_expr (pe_call g_check_one_many (hr.mono (by decide)) rfl (He.glo_ok KX G (c.1.fact 29)) F_check_one_many.kp (b_check_one_many F_check_one_many) .nil pass0 (pa_cons (pv 0) (pa_cons (pv 1) (pa_cons (pv 2) (pa_cons (pe_gint (He.int_ok KX G (c.1.fact 54))) pa_nil)))))) (pss_one (ps_ret (pe_meth (pv 0) (He.cls_ok (c.1.fact 72)) (He.meth_ok (c.1.fact 81)) g_Field_dot_raised (hr.mono (by decide)) (b_Field_dot_raised F_Field_dot_raised) .nil pass0 (pa_cons (pv 1) (pa_cons (pv 2) pa_nil))))))
theorem ok_law_all_right (KX : K.In h) (G : h.Ns mainGlobals mg) (c : SaysM fa fn ex K) : ∃ fd, FunD K "_law_all_right" "_law_all_right" (defArgs s_law_all_right) (defBody s_law_all_right) (defScope s_law_all_right) [] [] (d_law_all_right.at_ K) fd ∧ FnOk P w K mg base CX0 8 (d_law_all_right.at_ K) fd ["_law_field_here", "_law_one"] (sp_law_all_right K) := by
  obtain ⟨fd_Field_dot_size, F_Field_dot_size, g_Field_dot_size⟩ := ok_Field_dot_size (P := P) (w := w) (base := base) KX G c
  obtain ⟨pp_Field_dot_size, hp_Field_dot_size⟩ := prop_size c
  obtain ⟨fd_times, F_times, g_times⟩ := ok_times (P := P) (w := w) (base := base) KX G c
  obtain ⟨fd_plus, F_plus, g_plus⟩ := ok_plus (P := P) (w := w) (base := base) KX G c
  obtain ⟨fd_minus, F_minus, g_minus⟩ := ok_minus (P := P) (w := w) (base := base) KX G c
  obtain ⟨fd_power, F_power, g_power⟩ := ok_power (P := P) (w := w) (base := base) KX G c
  obtain ⟨fd, F⟩ := c.1.def_ 46 (d := d_law_all_right) rfl
  refine ⟨fd, F, F.ok sc_law_all_right len_law_all_right (fun cdv A outer s H vs Q E hr h => ⟨t_law_all_right K, PSs.nox ?_, pure_law_all_right vs H Q E h⟩)⟩
  exact (pss_cons (ps_set (i := 2) sc_law_all_right.nd rfl (by first | exact Or.inl rfl | exact Or.inr rfl) (pe_listRg rfl (by rfl) (He.free_ok KX G (c.1.fact 58)) (prg_1 (by rfl) (He.free_ok KX G (c.1.fact 62)) (pe_prop (pv 0) (He.cls_ok (c.1.fact 72)) hp_Field_dot_size g_Field_dot_size (hr.mono (by decide)) (b_Field_dot_size F_Field_dot_size) .nil pass0 rfl)))) (pss_cons (ps_if (PW.pt (pw_and (pt_cmpR op_ne (pv 1) pe_int (nomark _)) (pw_and1 (pt_cmpR (op_neD hr.units) (pe_callB cr_sortedI (by rfl) (He.free_ok KX G (c.1.fact 69)) (by decide +kernel) (pa_cons (pe_lc (own := [("_law_other", 5)]) (g := (gName 5)) (tt := tYes) (by rfl) sc_law_all_right.nd (pi_list (pv 2)) (blkOk_by (own := [("_law_other", 5)]) (N := ["_law_field_here", "_law_one", "_law_some", "_law_total", "_law_product", "_law_other", "_law_here", "_law_many", "_law_turn"]) (sc := defScope s_law_all_right) (by decide +kernel)) (fun _ _ _ _ _ => (pg_name (i := 5) sc_law_all_right.nd rfl (by first | exact Or.inl rfl | exact Or.inr rfl))) (fun _ _ _ _ _ => pts_nil) (fun _ _ _ _ _ => (pe_call g_times (hr.mono (by decide)) rfl (He.glo_ok KX G (c.1.fact 27)) F_times.kp (b_times F_times) .nil pass0 (pa_cons (pv 0) (pa_cons (pv 1) (pa_cons (pv 5) pa_nil)))))) pa_nil)) (pv 2) (nomark _))))) (pss_one (ps_ret pe_bl)) pss_nil) (pss_cons (ps_parC (i := 3) (j := 4) (by rfl) sc_law_all_right.nd rfl rfl (by decide) rfl rfl (pa_cons pe_int (pa_cons pe_int pa_nil)) (by rfl)) (pss_cons (ps_for PassesOwn.never rfl (pi_list (pv 2)) (pg_name (i := 5) sc_law_all_right.nd rfl (by first | exact Or.inl rfl | exact Or.inr rfl)) (pss_cons (ps_set (i := 3) sc_law_all_right.nd rfl (by first | exact Or.inl rfl | exact Or.inr rfl) (pe_call g_plus (hr.mono (by decide)) rfl (He.glo_ok KX G (c.1.fact 25)) F_plus.kp (b_plus F_plus) .nil pass0 (pa_cons (pv 0) (pa_cons (pv 3) (pa_cons (pv 5) pa_nil))))) (pss_one (ps_set (i := 4) sc_law_all_right.nd rfl (by first | exact Or.inl rfl | exact Or.inr rfl) (pe_ifExp (pt_cmpR op_gt (pv 5) pe_int (nomark _)) (pe_call g_times (hr.mono (by decide)) rfl (He.glo_ok KX G (c.1.fact 27)) F_times.kp (b_times F_times) .nil pass0 (pa_cons (pv 0) (pa_cons (pv 4) (pa_cons (pv 5) pa_nil)))) (pv 4)))))) (pss_cons (ps_if (PW.pt (pw_or (pt_cmpR op_ne (pv 3) pe_int (nomark _)) (pw_or (pt_cmpR op_ne (pv 4) (pe_call g_minus (hr.mono (by decide)) rfl (He.glo_ok KX G (c.1.fact 26)) F_minus.kp (b_minus F_minus) .nil pass0 (pa_cons (pv 0) (pa_cons pe_int (pa_cons pe_int pa_nil)))) (nomark _)) (pw_or1 (pt_cmpR (op_neD hr.units) (pe_callB cr_sortedI (by rfl) (He.free_ok KX G (c.1.fact 69)) (by decide +kernel) (pa_cons (pe_lc (own := [("_law_other", 5)]) (g := (gName 5)) (tt := tYes) (by rfl) sc_law_all_right.nd (pi_list (pv 2)) (blkOk_by (own := [("_law_other", 5)]) (N := ["_law_field_here", "_law_one", "_law_some", "_law_total", "_law_product", "_law_other", "_law_here", "_law_many", "_law_turn"]) (sc := defScope s_law_all_right) (by decide +kernel)) (fun _ _ _ _ _ => (pg_name (i := 5) sc_law_all_right.nd rfl (by first | exact Or.inl rfl | exact Or.inr rfl))) (fun _ _ _ _ _ => pts_nil) (fun _ _ _ _ _ => (pe_call g_plus (hr.mono (by decide)) rfl (He.glo_ok KX G (c.1.fact 25)) F_plus.kp (b_plus F_plus) .nil pass0 (pa_cons (pv 0) (pa_cons (pv 1) (pa_cons (pv 5) pa_nil)))))) pa_nil)) (pv 2) (nomark _)))))) (pss_one (ps_ret pe_bl)) pss_nil) (pss_cons (ps_for PassesOwn.never rfl (pi_list (pe_slice sl_list (pv 2) (po_some pe_int) po_none)) (pg_name (i := 5) sc_law_all_right.nd rfl (by first | exact Or.inl rfl | exact Or.inr rfl)) (pss_cons (ps_par (i := 6) (j := 7) (by rfl) sc_law_all_right.nd rfl rfl (by decide) rfl rfl (pa_cons (pv 5) (pa_cons pe_int pa_nil)) (by rfl)) (pss_cons (ps_for PassesOwn.never rfl (pi_range1 (by rfl) (He.free_ok KX G (c.1.fact 62)) (pa_cons (pe_prop (pv 0) (He.cls_ok (c.1.fact 72)) hp_Field_dot_size g_Field_dot_size (hr.mono (by decide)) (b_Field_dot_size F_Field_dot_size) .nil pass0 rfl) pa_nil)) (pg_name (i := 8) sc_law_all_right.nd rfl (by first | exact Or.inl rfl | exact Or.inr rfl)) (pss_one (ps_if (pt_cmpR op_ne (pv 6) pe_int (nomark _)) (pss_one (ps_par (i := 6) (j := 7) (by rfl) sc_law_all_right.nd rfl rfl (by decide) rfl rfl (pa_cons (pe_call g_times (hr.mono (by decide)) rfl (He.glo_ok KX G (c.1.fact 27)) F_times.kp (b_times F_times) .nil pass0 (pa_cons (pv 0) (pa_cons (pv 6) (pa_cons (pv 5) pa_nil)))) (pa_cons (pe_op op_add (pv 7) pe_int) pa_nil)) (by rfl))) pss_nil))) (pss_cons (ps_if (PW.pt (pw_or (pt_cmpR op_ne (pe_op op_mul (pe_op op_fdiv (pe_op op_sub (pe_prop (pv 0) (He.cls_ok (c.1.fact 72)) hp_Field_dot_size g_Field_dot_size (hr.mono (by decide)) (b_Field_dot_size F_Field_dot_size) .nil pass0 rfl) pe_int) (pv 7)) (pv 7)) (pe_op op_sub (pe_prop (pv 0) (He.cls_ok (c.1.fact 72)) hp_Field_dot_size g_Field_dot_size (hr.mono (by decide)) (b_Field_dot_size F_Field_dot_size) .nil pass0 rfl) pe_int) (nomark _)) (pw_or1 (pt_cmpR op_ne (pe_call g_power (hr.mono (by decide)) rfl (He.glo_ok KX G (c.1.fact 30)) F_power.kp (b_power F_power) .nil pass0 (pa_cons (pv 0) (pa_cons (pv 5) (pa_cons (pv 7) pa_nil)))) pe_int (nomark _))))) (pss_one (ps_ret pe_bl)) pss_nil) (pss_one (ps_if (pt_cmpR op_eq (pv 7) (pe_op op_sub (pe_prop (pv 0) (He.cls_ok (c.1.fact 72)) hp_Field_dot_size g_Field_dot_size (hr.mono (by decide)) (b_Field_dot_size F_Field_dot_size) .nil pass0 rfl) pe_int) (nomark _)) (pss_one (ps_ret pe_bl)) pss_nil)))))) (pss_one (ps_ret pe_bl))))))))
theorem ok_law_right (KX : K.In h) (G : h.Ns mainGlobals mg) (c : SaysM fa fn ex K) : ∃ fd, FunD K "_law_right" "_law_right" (defArgs s_law_right) (defBody s_law_right) (defScope s_law_right) [] [] (d_law_right.at_ K) fd ∧ FnOk P w K mg base CX0 9 (d_law_right.at_ K) fd ["_law_pot_here"] (sp_law_right K) := by
  obtain ⟨fd_law_field, F_law_field, g_law_field⟩ := ok_law_field (P := P) (w := w) (base := base) KX G c
  obtain ⟨fd_Field_dot___init__, F_Field_dot___init__, g_Field_dot___init__⟩ := ok_Field_dot___init__ (P := P) (w := w) (base := base) KX G c
  obtain ⟨fd_law_draw, F_law_draw, g_law_draw⟩ := ok_law_draw (P := P) (w := w) (base := base) KX G c
  obtain ⟨fd_Field_dot_size, F_Field_dot_size, g_Field_dot_size⟩ := ok_Field_dot_size (P := P) (w := w) (base := base) KX G c
  obtain ⟨pp_Field_dot_size, hp_Field_dot_size⟩ := prop_size c
  obtain ⟨fd_law_three_right, F_law_three_right, g_law_three_right⟩ := ok_law_three_right (P := P) (w := w) (base := base) KX G c
  obtain ⟨fd_law_is_refused, F_law_is_refused, g_law_is_refused⟩ := ok_law_is_refused (P := P) (w := w) (base := base) KX G c
  obtain ⟨fd_law_all_right, F_law_all_right, g_law_all_right⟩ := ok_law_all_right (P := P) (w := w) (base := base) KX G c
  obtain ⟨fd, F⟩ := c.1.def_ 48 (d := d_law_right) rfl
  refine ⟨fd, F, F.ok sc_law_right len_law_right (fun cdv A outer s H vs Q E hr h => ⟨t_law_right K, PSs.nox ?_, pure_law_right vs H Q E h⟩)⟩
  exact (pss_cons (ps_asg (pe_call g_law_field (hr.mono (by decide)) rfl (He.glo_ok KX G (c.1.fact 34)) F_law_field.kp (b_law_field F_law_field) .nil pass0 (pa_cons (pv 0) pa_nil)) (pg_tup rfl (pgs_cons (pg_name (i := 1) sc_law_right.nd rfl (by first | exact Or.inl rfl | exact Or.inr rfl)) (pgs_cons (pg_name (i := 2) sc_law_right.nd rfl (by first | exact Or.inl rfl | exact Or.inr rfl)) pgs_nil)))) (pss_cons (ps_set (i := 3) sc_law_right.nd rfl (by first | exact Or.inl rfl | exact Or.inr rfl) (pe_make (He.mkr_ok (c.1.fact 73)) g_Field_dot___init__ (hr.mono (by decide)) rfl (He.glo_ok KX G (c.1.fact 50)) (b_Field_dot___init__ F_Field_dot___init__) .nil pass0 (pa_cons (pv 1) (pa_cons (pv 2) pa_nil)))) (pss_cons (ps_for PassesOwn.never rfl (pi_range1 (by rfl) (He.free_ok KX G (c.1.fact 62)) (pa_cons pe_int pa_nil)) (pg_name (i := 4) sc_law_right.nd rfl (by first | exact Or.inl rfl | exact Or.inr rfl)) (pss_cons (ps_par3 (i := 5) (j := 6) (l := 7) (by rfl) sc_law_right.nd rfl rfl rfl (by decide) (by decide) (by decide) rfl rfl rfl (pa_cons (pe_call g_law_draw (hr.mono (by decide)) rfl (He.glo_ok KX G (c.1.fact 32)) F_law_draw.kp (b_law_draw F_law_draw) .nil pass0 (pa_cons (pv 0) (pa_cons (pe_prop (pv 3) (He.cls_ok (c.1.fact 72)) hp_Field_dot_size g_Field_dot_size (hr.mono (by decide)) (b_Field_dot_size F_Field_dot_size) .nil pass0 rfl) pa_nil))) (pa_cons (pe_call g_law_draw (hr.mono (by decide)) rfl (He.glo_ok KX G (c.1.fact 32)) F_law_draw.kp (b_law_draw F_law_draw) .nil pass0 (pa_cons (pv 0) (pa_cons (pe_prop (pv 3) (He.cls_ok (c.1.fact 72)) hp_Field_dot_size g_Field_dot_size (hr.mono (by decide)) (b_Field_dot_size F_Field_dot_size) .nil pass0 rfl) pa_nil))) (pa_cons (pe_call g_law_draw (hr.mono (by decide)) rfl (He.glo_ok KX G (c.1.fact 32)) F_law_draw.kp (b_law_draw F_law_draw) .nil pass0 (pa_cons (pv 0) (pa_cons (pe_prop (pv 3) (He.cls_ok (c.1.fact 72)) hp_Field_dot_size g_Field_dot_size (hr.mono (by decide)) (b_Field_dot_size F_Field_dot_size) .nil pass0 rfl) pa_nil))) pa_nil))) (by rfl)) (pss_one (ps_if (PW.pt (pw_or (pt_not (pt_val (pe_call g_law_three_right (hr.mono (by decide)) rfl (He.glo_ok KX G (c.1.fact 35)) F_law_three_right.kp (b_law_three_right F_law_three_right) .nil pass0 (pa_cons (pv 3) (pa_cons (pv 5) (pa_cons (pv 6) (pa_cons (pv 7) pa_nil))))))) (pw_or1 (pt_not (pt_val (pe_call g_law_is_refused (hr.mono (by decide)) rfl (He.glo_ok KX G (c.1.fact 37)) F_law_is_refused.kp (b_law_is_refused F_law_is_refused) .nil pass0 (pa_cons (pv 3) (pa_cons (pv 5) pa_nil)))))))) (pss_one (ps_ret pe_bl)) pss_nil)))) (pss_one (ps_ret (pe_or (pe_cmpR op_gt (pe_prop (pv 3) (He.cls_ok (c.1.fact 72)) hp_Field_dot_size g_Field_dot_size (hr.mono (by decide)) (b_Field_dot_size F_Field_dot_size) .nil pass0 rfl) pe_int (nomark _)) (pe_one (pe_call g_law_all_right (hr.mono (by decide)) rfl (He.glo_ok KX G (c.1.fact 36)) F_law_all_right.kp (b_law_all_right F_law_all_right) .nil pass0 (pa_cons (pv 3) (pa_cons (pe_call g_law_draw (hr.mono (by decide)) rfl (He.glo_ok KX G (c.1.fact 32)) F_law_draw.kp (b_law_draw F_law_draw) .nil pass0 (pa_cons (pv 0) (pa_cons (pe_prop (pv 3) (He.cls_ok (c.1.fact 72)) hp_Field_dot_size g_Field_dot_size (hr.mono (by decide)) (b_Field_dot_size F_Field_dot_size) .nil pass0 rfl) pa_nil))) pa_nil))))))))))
theorem ok_law_pot (KX : K.In h) (G : h.Ns mainGlobals mg) (c : SaysM fa fn ex K) : ∃ fd, FunD K "_law_pot" "_law_pot" (defArgs s_law_pot) (defBody s_law_pot) (defScope s_law_pot) [] [] (d_law_pot.at_ K) fd ∧ FnOk P w K mg base CX0 1 (d_law_pot.at_ K) fd ["_law_script", "_law_k"] (sp_law_pot K) := by
  obtain ⟨fd, F⟩ := c.1.def_ 41 (d := d_law_pot) rfl
  refine ⟨fd, F, F.ok sc_law_pot len_law_pot (fun cdv A outer s H vs Q E hr h => ⟨t_law_pot K, PSs.nox ?_, pure_law_pot vs H Q E h⟩)⟩
  exact (pss_cons (ps_set (i := 2) sc_law_pot.nd rfl (by first | exact Or.inl rfl | exact Or.inr rfl) (pe_ifExp (pt_cmpR op_lt (pv 1) (pe_callB call_len_seq (by rfl) (He.free_ok KX G (c.1.fact 60)) (by decide +kernel) (pa_cons (pv 0) pa_nil)) (nomark _)) (pe_callB call_abs (by rfl) (He.free_ok KX G (c.1.fact 66)) (by decide +kernel) (pa_cons (pe_ix ix_list (pv 0) (pv 1) (fun _ _ => rfl)) pa_nil)) (pe_op op_add (pe_op op_add (pe_op op_mul pe_int (pv 1)) pe_int) (pe_op op_mod (pe_callB call_abs (by rfl) (He.free_ok KX G (c.1.fact 66)) (by decide +kernel) (pa_cons (pe_callB (cr_sum rfl) (by rfl) (He.free_ok KX G (c.1.fact 67)) (by decide +kernel) (pa_cons (pe_slice sl_list (pv 0) po_none (po_some pe_int)) pa_nil)) pa_nil)) pe_int)))) (pss_one (ps_ret (pe_lst (pa_cons (pe_callB (call_max2 rfl) (by rfl) (He.free_ok KX G (c.1.fact 65)) (by decide +kernel) (pa_cons pe_int (pa_cons (pe_op op_sub (pv 2) (pe_op op_pow pe_int pe_int)) pa_nil))) (pa_cons (pe_op op_add (pe_op op_mod (pe_callTy call_int1 (by rfl) (He.free_ok KX G (c.1.fact 56)) (by decide +kernel) (pa_cons (pe_op op_add (pe_op op_add (pe_op op_mul (pe_op op_mod (pe_callTy call_int1 (by rfl) (He.free_ok KX G (c.1.fact 56)) (by decide +kernel) (pa_cons (pv 2) pa_nil)) pe_int) pe_int) (pe_op op_mul pe_int (pv 1))) pe_int) pa_nil)) pe_int) pe_int) pa_nil))))))
theorem ok_law (KX : K.In h) (G : h.Ns mainGlobals mg) (c : SaysM fa fn ex K) {fd : FuncData} (F : FunD K "law" "law" (defArgs s_law) (defBody s_law) (defScope s_law) [] [] (d_law.at_ K) fd) : FnOk P w K mg base CX0 10 (d_law.at_ K) fd ["_law_script"] (sp_law K) := by
  obtain ⟨fd_law_right, F_law_right, g_law_right⟩ := ok_law_right (P := P) (w := w) (base := base) KX G c
  obtain ⟨fd_law_pot, F_law_pot, g_law_pot⟩ := ok_law_pot (P := P) (w := w) (base := base) KX G c
  refine F.ok sc_law len_law (fun cdv A outer s H vs Q E hr h => ⟨t_law K, PSs.nox ?_, pure_law vs H Q E h⟩)
  exact (pss_one (ps_ret (pe_call g_law_right (hr.mono (by decide)) rfl (He.glo_ok KX G (c.1.fact 38)) F_law_right.kp (b_law_right F_law_right) .nil pass0 (pa_cons (pe_call g_law_pot (hr.mono (by decide)) rfl (He.glo_ok KX G (c.1.fact 31)) F_law_pot.kp (b_law_pot F_law_pot) .nil pass0 (pa_cons (pv 0) (pa_cons pe_int pa_nil))) pa_nil))))
theorem facts (KX : K.In h) (G : h.Ns mainGlobals mg) {f : Addr} (hfa : mg ("law" : Str) = some (.ref f)) (c : SaysM fa fn ex K) :
    ∃ fd : FuncData, (∀ (s : Shared) (v : Value), BindsTo s fd ⟨[v], []⟩ [("_law_script", v)]) ∧ ∀ base : Heap, K.In base → base.Ns mainGlobals mg → FnOk P w K mg base CX0 10 f fd ["_law_script"] (sp_law K) := by
  obtain ⟨fd, F⟩ := c.1.def_ 49 (d := d_law) rfl
  have e := hfa.symm.trans (He.glo_ok KX G (c.1.fact 39))
  cases e
  have b := FunD.bindsA (ps := ["_law_script"]) F fun _ _ _ _ _ _ us hl => match us, hl with | [_], _ => rfl
  exact ⟨fd, fun s v => b s [v] rfl, fun base _ _ => ok_law KX G c F⟩
end
end A18
/-! PG18 -/
set_option maxHeartbeats 0
namespace TP
open PySem PySem.Spec PyProof.Rows L2
/-! ### the fields that are drawn, one by one -/
def forceI (x : Int) (k : Int → Bool) : Bool := match x with
  | .ofNat n => (match n with
    | 0 => k 0
    | m + 1 => k (.ofNat (m + 1)))
  | .negSucc n => k (.negSucc n)
theorem forceI_eq (x : Int) (k : Int → Bool) : forceI x k = k x := by
  unfold forceI
  cases x with
  | ofNat n => cases n <;> rfl
  | negSucc n => rfl
def forceL : List Int → (List Int → Bool) → Bool
  | [], k => k []
  | x :: r, k => forceI x fun y => forceL r fun s => k (y :: s)
theorem forceL_eq : ∀ (l : List Int) (k : List Int → Bool), forceL l k = k l
  | [], k => rfl
  | x :: r, k => by
    show forceI x (fun y => forceL r fun s => k (y :: s)) = _
    rw [forceI_eq, forceL_eq r]
def foldK (f : Int → Int → Int) : List Int → Int → (Int → Bool) → Bool
  | [], a, k => k a
  | x :: l, a, k => forceI (f a x) fun b => foldK f l b k
theorem foldK_eq (f : Int → Int → Int) : ∀ (l : List Int) (a : Int) (k : Int → Bool), foldK f l a k = k (l.foldl f a)
  | [], a, k => rfl
  | x :: l, a, k => by
    show forceI (f a x) (fun b => foldK f l b k) = _
    rw [forceI_eq, foldK_eq f l]
    rfl

theorem tab_of {F : FD} {size : Nat} (h1 : okB F size = true) (h2 : stepB F = true) (h3 : ascB F = true) (h4 : oneB F = true) : Tab F := by
  obtain ⟨o, hs⟩ := okB_ok h1
  exact ⟨o, fun k hk => of_decide_eq_true (List.all_eq_true.mp h2 k (List.mem_range.mpr hk)), fun i j hi hj => of_decide_eq_true (List.all_eq_true.mp (List.all_eq_true.mp h3 i (List.mem_range.mpr hi)) j (List.mem_range.mpr hj)), fun i hi => of_decide_eq_true (List.all_eq_true.mp h4 i (List.mem_range.mpr hi))⟩
def permK : List Int → List Int → Bool
  | [], k => k.isEmpty
  | x :: l, k => k.contains x && forceL (k.erase x) fun m => permK l m
theorem permK_perm : ∀ (l k : List Int), permK l k = true → l.Perm k
  | [], k, h => by
    have : k = [] := List.isEmpty_iff.mp h
    rw [this]
  | x :: l, k, h => by
    have h' : (k.contains x && forceL (k.erase x) fun m => permK l m) = true := h
    rw [forceL_eq] at h'
    obtain ⟨h1, h2⟩ := (Bool.and_eq_true_iff).mp h'
    exact ((permK_perm l (k.erase x) h2).cons x).trans (List.perm_cons_erase (List.contains_iff_mem.mp h1)).symm
def ordK (F : FD) (o : Int) : Nat → Int → Int → (Int → Int → Bool) → Bool
  | 0, h, m, k => k h m
  | n + 1, h, m, k => if h = 1 then ordK F o n h m k else forceI (mulF F h o) fun h2 => forceI (m + 1) fun m2 => ordK F o n h2 m2 k
theorem ordK_eq (F : FD) (o : Int) : ∀ (n : Nat) (h m : Int) (k : Int → Int → Bool), ordK F o n h m k = k (ordGo F o n h m).1 (ordGo F o n h m).2
  | 0, h, m, k => rfl
  | n + 1, h, m, k => by
    rw [ordGo_succ]
    unfold ordK
    by_cases c : h = 1
    · rw [if_pos c, if_pos c]; exact ordK_eq F o n h m k
    · rw [if_neg c, if_neg c, forceI_eq, forceI_eq]; exact ordK_eq F o n _ _ k
def ordsK (F : FD) : List Int → Bool
  | [] => false
  | o :: l => ordK F o F.size.toNat o 1 fun _ m => decide ((F.size - 1) / m * m = F.size - 1) && (decide (raisF F o m.toNat = 1) && (decide (m = F.size - 1) || ordsK F l))
theorem ordsK_eq (F : FD) : ∀ l : List Int, ordsK F l = ordB F l
  | [] => rfl
  | o :: l => by
    unfold ordsK ordB
    rw [ordK_eq, ordsK_eq F l]
def rowsB (F : FD) (lo many : Nat) : Bool := (List.range many).all fun i => forceI ((lo + i : Nat) : Int) fun a => forceL (rng F) fun R => (decide (a = 0) || forceL (R.map (mulF F a)) fun l => permK l R) && forceL (R.map (addF F a)) fun l => permK l R
theorem rows_cut {F : FD} {lo many : Nat} (h : rowsB F lo many = true) : ∀ i, lo ≤ i → i < lo + many → ((i : Int) ≠ 0 → ((rng F).map (mulF F i)).Perm (rng F)) ∧ ((rng F).map (addF F i)).Perm (rng F) := fun i h1 h2 => by
  have := List.all_eq_true.mp h (i - lo) (List.mem_range.mpr (by omega))
  rw [show lo + (i - lo) = i by omega] at this
  simp only [forceI_eq, forceL_eq] at this
  obtain ⟨t1, t2⟩ := Bool.and_eq_true_iff.mp this
  exact ⟨fun z => permK_perm _ _ ((Bool.or_eq_true_iff.mp t1).resolve_left (by rw [decide_eq_false z]; exact Bool.false_ne_true)), permK_perm _ _ t2⟩
def oneB18 (F : FD) : Bool := forceL (rng F) fun R => foldK (addF F) R 0 (fun s => decide (s = 0)) && (foldK (fun p o => if 0 < o then mulF F p o else p) R 1 (fun s => decide (s = subF F 0 1)) && ordsK F (R.drop 1))
theorem oneB18_eq (F : FD) : oneB18 F = (decide ((rng F).foldl (addF F) 0 = 0) && (decide (prodS F (rng F) = subF F 0 1) && ordB F ((rng F).drop 1))) := by
  unfold oneB18
  rw [forceL_eq, foldK_eq, foldK_eq, ordsK_eq]
  rfl
theorem big_of {F : FD} {size : Nat} (h1 : okB F size = true) (h2 : stepB F = true) (h3 : ascB F = true) (h4 : oneB F = true) (h5 : 32 < size) : Good18 F := by
  obtain ⟨o, hs⟩ := okB_ok h1
  have n : ¬ F.size ≤ 32 := by omega
  exact ⟨tab_of h1 h2 h3 h4, fun z => absurd z n, fun z => absurd z n, fun z => absurd z n, fun z => absurd z n, fun z => absurd z n⟩
theorem small_of {F : FD} {size : Nat} (h1 : okB F size = true) (h2 : stepB F = true) (h3 : ascB F = true) (h4 : oneB F = true) (h5 : rowsB F 0 size = true) (h6 : oneB18 F = true) : Good18 F := by
  obtain ⟨o, hs⟩ := okB_ok h1
  have r : ∀ a, InF F a → (a ≠ 0 → ((rng F).map (mulF F a)).Perm (rng F)) ∧ ((rng F).map (addF F a)).Perm (rng F) := fun a ha => by
    have := rows_cut h5 a.toNat (Nat.zero_le _) (by unfold InF at ha; omega)
    rw [show ((a.toNat : Nat) : Int) = a by unfold InF at ha; omega] at this
    exact this
  rw [oneB18_eq] at h6
  simp only [Bool.and_eq_true, decide_eq_true_eq] at h6
  exact ⟨tab_of h1 h2 h3 h4, fun _ a ha => (r a ha).1, fun _ a ha => (r a ha).2, fun _ => h6.1, fun _ => h6.2.1, fun _ => h6.2.2⟩
def F0 : FD := ⟨2, [1, 1, 1], [1, 2, 3]⟩
theorem f0_1 : okB F0 4 = true := by decide +kernel
theorem f0_2 : stepB F0 = true := by decide +kernel
theorem f0_3 : ascB F0 = true := by decide +kernel
theorem f0_4 : oneB F0 = true := by decide +kernel
theorem f0_5 : rowsB F0 0 4 = true := by decide +kernel
theorem f0_6 : oneB18 F0 = true := by decide +kernel
def F1 : FD := ⟨2, [1, 1, 0, 1], [1, 2, 4, 3, 6, 7, 5]⟩
theorem f1_1 : okB F1 8 = true := by decide +kernel
theorem f1_2 : stepB F1 = true := by decide +kernel
theorem f1_3 : ascB F1 = true := by decide +kernel
theorem f1_4 : oneB F1 = true := by decide +kernel
theorem f1_5 : rowsB F1 0 8 = true := by decide +kernel
theorem f1_6 : oneB18 F1 = true := by decide +kernel
def F2 : FD := ⟨2, [1, 0, 1, 1], [1, 2, 4, 5, 7, 3, 6]⟩
theorem f2_1 : okB F2 8 = true := by decide +kernel
theorem f2_2 : stepB F2 = true := by decide +kernel
theorem f2_3 : ascB F2 = true := by decide +kernel
theorem f2_4 : oneB F2 = true := by decide +kernel
theorem f2_5 : rowsB F2 0 8 = true := by decide +kernel
theorem f2_6 : oneB18 F2 = true := by decide +kernel
def F3 : FD := ⟨2, [1, 1, 0, 0, 1], [1, 2, 4, 8, 3, 6, 12, 11, 5, 10, 7, 14, 15, 13, 9]⟩
theorem f3_1 : okB F3 16 = true := by decide +kernel
theorem f3_2 : stepB F3 = true := by decide +kernel
theorem f3_3 : ascB F3 = true := by decide +kernel
theorem f3_4 : oneB F3 = true := by decide +kernel
theorem f3_5 : rowsB F3 0 16 = true := by decide +kernel
theorem f3_6 : oneB18 F3 = true := by decide +kernel
def F4 : FD := ⟨3, [1, 0, 1], [1, 4, 6, 7, 2, 8, 3, 5]⟩
theorem f4_1 : okB F4 9 = true := by decide +kernel
theorem f4_2 : stepB F4 = true := by decide +kernel
theorem f4_3 : ascB F4 = true := by decide +kernel
theorem f4_4 : oneB F4 = true := by decide +kernel
theorem f4_5 : rowsB F4 0 9 = true := by decide +kernel
theorem f4_6 : oneB18 F4 = true := by decide +kernel
def F5 : FD := ⟨3, [2, 1, 1], [1, 3, 7, 8, 2, 6, 5, 4]⟩
theorem f5_1 : okB F5 9 = true := by decide +kernel
theorem f5_2 : stepB F5 = true := by decide +kernel
theorem f5_3 : ascB F5 = true := by decide +kernel
theorem f5_4 : oneB F5 = true := by decide +kernel
theorem f5_5 : rowsB F5 0 9 = true := by decide +kernel
theorem f5_6 : oneB18 F5 = true := by decide +kernel
def F6 : FD := ⟨5, [2, 0, 1], [1, 6, 14, 5, 8, 21, 3, 18, 7, 15, 19, 13, 4, 24, 16, 20, 22, 9, 2, 12, 23, 10, 11, 17]⟩
theorem f6_1 : okB F6 25 = true := by decide +kernel
theorem f6_2 : stepB F6 = true := by decide +kernel
theorem f6_3 : ascB F6 = true := by decide +kernel
theorem f6_4 : oneB F6 = true := by decide +kernel
theorem f6_5 : rowsB F6 0 25 = true := by decide +kernel
theorem f6_6 : oneB18 F6 = true := by decide +kernel
def F7 : FD := ⟨2, [1, 0, 1, 0, 0, 1], [1, 2, 4, 8, 16, 5, 10, 20, 13, 26, 17, 7, 14, 28, 29, 31, 27, 19, 3, 6, 12, 24, 21, 15, 30, 25, 23, 11, 22, 9, 18]⟩
theorem f7_1 : okB F7 32 = true := by decide +kernel
theorem f7_2 : stepB F7 = true := by decide +kernel
theorem f7_3 : ascB F7 = true := by decide +kernel
theorem f7_4 : oneB F7 = true := by decide +kernel
theorem f7_5 : rowsB F7 0 32 = true := by decide +kernel
theorem f7_6 : oneB18 F7 = true := by decide +kernel
def F8 : FD := ⟨2, [1, 1, 0, 0, 0, 0, 1], [1, 2, 4, 8, 16, 32, 3, 6, 12, 24, 48, 35, 5, 10, 20, 40, 19, 38, 15, 30, 60, 59, 53, 41, 17, 34, 7, 14, 28, 56, 51, 37, 9, 18, 36, 11, 22, 44, 27, 54, 47, 29, 58, 55, 45, 25, 50, 39, 13, 26, 52, 43, 21, 42, 23, 46, 31, 62, 63, 61, 57, 49, 33]⟩
theorem f8_1 : okB F8 64 = true := by decide +kernel
theorem f8_2 : stepB F8 = true := by decide +kernel
theorem f8_3 : ascB F8 = true := by decide +kernel
theorem f8_4 : oneB F8 = true := by decide +kernel
def F9 : FD := ⟨3, [1, 2, 0, 1], [1, 3, 9, 5, 15, 23, 13, 17, 20, 4, 12, 14, 11, 2, 6, 18, 7, 21, 16, 26, 22, 10, 8, 24, 25, 19]⟩
theorem f9_1 : okB F9 27 = true := by decide +kernel
theorem f9_2 : stepB F9 = true := by decide +kernel
theorem f9_3 : ascB F9 = true := by decide +kernel
theorem f9_4 : oneB F9 = true := by decide +kernel
theorem f9_5 : rowsB F9 0 27 = true := by decide +kernel
theorem f9_6 : oneB18 F9 = true := by decide +kernel
def F10 : FD := ⟨7, [1, 0, 1], [1, 9, 31, 30, 21, 46, 16, 44, 5, 38, 43, 45, 7, 20, 24, 17, 4, 29, 19, 15, 35, 23, 8, 22, 6, 47, 25, 26, 28, 10, 40, 12, 2, 18, 13, 11, 42, 36, 32, 39, 3, 27, 37, 41, 14, 33, 48, 34]⟩
theorem f10_1 : okB F10 49 = true := by decide +kernel
theorem f10_2 : stepB F10 = true := by decide +kernel
theorem f10_3 : ascB F10 = true := by decide +kernel
theorem f10_4 : oneB F10 = true := by decide +kernel
def F11 : FD := ⟨5, [1, 1, 0, 1], [1, 9, 41, 63, 20, 105, 51, 97, 25, 124, 7, 33, 6, 29, 115, 116, 120, 11, 74, 69, 49, 95, 42, 67, 36, 43, 71, 52, 76, 66, 32, 2, 13, 57, 121, 15, 85, 102, 44, 50, 93, 14, 61, 12, 53, 80, 82, 90, 22, 118, 108, 68, 40, 59, 109, 72, 56, 117, 104, 27, 107, 64, 4, 21, 114, 92, 5, 45, 79, 58, 100, 31, 23, 122, 24, 101, 35, 39, 30, 19, 81, 86, 106, 55, 113, 88, 119, 112, 84, 78, 54, 89, 123, 3, 17, 98, 34, 10, 65, 28, 111, 75, 62, 16, 94, 18, 77, 70, 73, 60, 8, 37, 47, 87, 110, 96, 46, 83, 99, 38, 26, 103, 48, 91]⟩
theorem f11_1 : okB F11 125 = true := by decide +kernel
theorem f11_2 : stepB F11 = true := by decide +kernel
theorem f11_3 : ascB F11 = true := by decide +kernel
theorem f11_4 : oneB F11 = true := by decide +kernel
def F12 : FD := ⟨2, [1, 1, 0, 0, 0, 0, 0, 1], [1, 2, 4, 8, 16, 32, 64, 3, 6, 12, 24, 48, 96, 67, 5, 10, 20, 40, 80, 35, 70, 15, 30, 60, 120, 115, 101, 73, 17, 34, 68, 11, 22, 44, 88, 51, 102, 79, 29, 58, 116, 107, 85, 41, 82, 39, 78, 31, 62, 124, 123, 117, 105, 81, 33, 66, 7, 14, 28, 56, 112, 99, 69, 9, 18, 36, 72, 19, 38, 76, 27, 54, 108, 91, 53, 106, 87, 45, 90, 55, 110, 95, 61, 122, 119, 109, 89, 49, 98, 71, 13, 26, 52, 104, 83, 37, 74, 23, 46, 92, 59, 118, 111, 93, 57, 114, 103, 77, 25, 50, 100, 75, 21, 42, 84, 43, 86, 47, 94, 63, 126, 127, 125, 121, 113, 97, 65]⟩
theorem f12_1 : okB F12 128 = true := by decide +kernel
theorem f12_2 : stepB F12 = true := by decide +kernel
theorem f12_3 : ascB F12 = true := by decide +kernel
theorem f12_4 : oneB F12 = true := by decide +kernel
def F13 : FD := ⟨3, [2, 1, 0, 0, 1], [1, 3, 9, 27, 7, 21, 63, 32, 13, 39, 43, 46, 55, 8, 24, 72, 59, 11, 33, 25, 75, 68, 38, 31, 10, 30, 16, 48, 70, 53, 76, 71, 47, 58, 17, 51, 79, 80, 74, 56, 2, 6, 18, 54, 5, 15, 45, 61, 26, 78, 77, 65, 29, 4, 12, 36, 34, 19, 57, 14, 42, 52, 73, 62, 20, 60, 23, 69, 50, 67, 44, 49, 64, 35, 22, 66, 41, 40, 37, 28]⟩
theorem f13_1 : okB F13 81 = true := by decide +kernel
theorem f13_2 : stepB F13 = true := by decide +kernel
theorem f13_3 : ascB F13 = true := by decide +kernel
theorem f13_4 : oneB F13 = true := by decide +kernel
theorem good_all : GoodAll := fun z hz => by
  have h : z = (2, [1, 1, 1]) ∨ z = (2, [1, 1, 0, 1]) ∨ z = (2, [1, 0, 1, 1]) ∨ z = (2, [1, 1, 0, 0, 1]) ∨ z = (3, [1, 0, 1]) ∨ z = (3, [2, 1, 1]) ∨ z = (5, [2, 0, 1]) ∨ z = (2, [1, 0, 1, 0, 0, 1]) ∨ z = (2, [1, 1, 0, 0, 0, 0, 1]) ∨ z = (3, [1, 2, 0, 1]) ∨ z = (7, [1, 0, 1]) ∨ z = (5, [1, 1, 0, 1]) ∨ z = (2, [1, 1, 0, 0, 0, 0, 0, 1]) ∨ z = (3, [2, 1, 0, 0, 1]) := by simpa [flds, fldsA, fldsB] using hz
  rcases h with rfl | rfl | rfl | rfl | rfl | rfl | rfl | rfl | rfl | rfl | rfl | rfl | rfl | rfl
  · exact ⟨F0, rfl, rfl, small_of f0_1 f0_2 f0_3 f0_4 f0_5 f0_6⟩
  · exact ⟨F1, rfl, rfl, small_of f1_1 f1_2 f1_3 f1_4 f1_5 f1_6⟩
  · exact ⟨F2, rfl, rfl, small_of f2_1 f2_2 f2_3 f2_4 f2_5 f2_6⟩
  · exact ⟨F3, rfl, rfl, small_of f3_1 f3_2 f3_3 f3_4 f3_5 f3_6⟩
  · exact ⟨F4, rfl, rfl, small_of f4_1 f4_2 f4_3 f4_4 f4_5 f4_6⟩
  · exact ⟨F5, rfl, rfl, small_of f5_1 f5_2 f5_3 f5_4 f5_5 f5_6⟩
  · exact ⟨F6, rfl, rfl, small_of f6_1 f6_2 f6_3 f6_4 f6_5 f6_6⟩
  · exact ⟨F7, rfl, rfl, small_of f7_1 f7_2 f7_3 f7_4 f7_5 f7_6⟩
  · exact ⟨F8, rfl, rfl, big_of f8_1 f8_2 f8_3 f8_4 (by omega)⟩
  · exact ⟨F9, rfl, rfl, small_of f9_1 f9_2 f9_3 f9_4 f9_5 f9_6⟩
  · exact ⟨F10, rfl, rfl, big_of f10_1 f10_2 f10_3 f10_4 (by omega)⟩
  · exact ⟨F11, rfl, rfl, big_of f11_1 f11_2 f11_3 f11_4 (by omega)⟩
  · exact ⟨F12, rfl, rfl, big_of f12_1 f12_2 f12_3 f12_4 (by omega)⟩
  · exact ⟨F13, rfl, rfl, big_of f13_1 f13_2 f13_3 f13_4 (by omega)⟩
end TP
/-! Z18 -/
set_option maxHeartbeats 0
open PySem PySem.W PySem.Calls PyProof.Rows
theorem PySem.Challenge.cw_turnpowers_k18_whole_fields_as_fields_holds : PySem.Challenge.rw_turnpowers_k18_whole_fields_as_fields.Holds := by
  w_on; o_law
  refine HandSHeadRun.head_any (r := OpenLaw.row PySem.Challenge.rw_turnpowers_k18_whole_fields_as_fields) (q := view (OpenLaw.row PySem.Challenge.rw_turnpowers_k18_whole_fields_as_fields).prog [61]) (H := A18.hk) (ob := A18.ob) (M := 6000) (loose := A18.nms) (d := HandSHeadRun.topDef (OpenLaw.row PySem.Challenge.rw_turnpowers_k18_whole_fields_as_fields).prog 61) (kwd := []) A18.ob_eq
    (by kernel_rfl) (fun s => by kernel_rfl) A18.run (by kernel_rfl) (by kernel_rfl) (by kernel_rfl) (by rfl) (by first | assumption | decide +kernel) (by decide +kernel) ⟨rfl, rfl, rfl, rfl, rfl, by decide +kernel⟩ ?hw ?hc
  case hw => w_witness2
  case hc =>
    refine L2.walk_ofE (l := PySem.Challenge.rw_turnpowers_k18_whole_fields_as_fields) (n := 63) (k := 10) (x := "_law_script") (CX := L2.CX0) rfl (by decide) (by kernel_rfl) ⟨rfl, by decide, by decide⟩ ?F (fun _ _ _ _ z => z)
    intro w mg fa h Y G hmg0
    obtain ⟨K, KX, c⟩ := Y
    have hmg : mg ("law" : PySem.Str) = some (.ref fa) := by
      have e : (HandSHeadRun.topDef (OpenLaw.row PySem.Challenge.rw_turnpowers_k18_whole_fields_as_fields).prog 61).name = ("law" : PySem.Str) := by kernel_rfl
      rw [← e]
      exact hmg0
    obtain ⟨fd, hb, hF⟩ := A18.facts (P := (PySem.Challenge.rw_turnpowers_k18_whole_fields_as_fields).prog) (w := w) KX G hmg c
    exact ⟨K, fd, TP.sp_law K, KX, hb, fun H a ns hl _ hS => ⟨a, ns, rfl, TP.good_all, ⟨A18.field_ok c, A18.exm_ok c⟩, hS, fun _ => rfl⟩, hF⟩
