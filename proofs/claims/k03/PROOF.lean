import PyProof.Rows.All
import Wide.All
import OpenK.AllK
import Wide.FinOn
import HandS.ForMost
import HandS.Wide
import HandS.IsInst
import HandS.Zip
import HandS.TupMul
import HandS.TupAny
import HandS.Deep
import HandS.Flow
import HandS.Style
import HandS.Lambda
import HandS.Nested
import PyProof.SeqI3
import KE.KStateDown
import HandS.Exc
import HandS.ExcCtx
import HandS.ExcField
import HandS.Head0
import HandS.Head1
import HandS.Head2
import HandS.HeadEnd
import HandS.HeadHook1
import HandS.HeadHook2
import HandS.HeadHook3
import HandS.HeadHook4
import HandS.HeadWalk
import HandS.NestedK
import KE.KExcInit
import Lean
import PySem.Challenge.RW_risenets_k03_whole_points_and_ranges
import HandS.Defaults
import KE.KRevSl
import HandS.CallLocal
import HandS.NoneIn
import PyProof.ReprRoads
import HandS.Dict
import HandS.RaiseMore
import HandS.EndTab
import HandS.FStrTup
import PyProof.FitsInt
import HandS.ExcInit
import HandS.ExcOwn
import PyProof.ExcClass
import PyProof.ExcBaseAll.LookupError
import HandS.TryMany
import KE.DataMinMax
import HandS.SortKw
import KE.GoesMore
import PyProof.EnumMake
import HandS.Property
import HandS.Codes
import HandS.NamedTup0
import HandS.New0
import HandS.SetFor
import HandS.SortInts
import HandS.DictComp
import HandS.Small
import HandS.More
import HandS.Star
import HandS.Conv
import KE.KTupSum
import KE.GoesEnum
import KE.DataMinKey
import PyProof.CallStr
import PyProof.DictFindH
import KE.SortData
import HandS.List
import HandS.Strs
import KE.KDictKeyed
import PyProof.DictUpdate
import KE.DatumOrd
set_option Elab.async false
set_option linter.all false
set_option maxRecDepth 100000
set_option maxHeartbeats 0
namespace M
open PySem PySem.Spec PyProof.Rows L2

/-! ### what the head is asked (ahead of all else: the head's run wants the room) -/
def xgB (K : PySem.W.Frag) (x f : Str) (newId : String) (bmB : List Value) : Bool :=
  PySem.W.excInitIn K (He.ga K x) bmB newId && (PySem.W.excOver K (He.ga K x) bmB && (decide (PySem.W.takerIn K (He.ga K x) f = some none) && (PySem.W.hasDictIn K (He.ga K x) &&
  (decide (PySem.W.findIn K (.ref (He.ga K x)) "__setattr__" = some (some (.builtin "object.__setattr__"))) && (decide (PySem.W.findIn K (.ref (He.ga K x)) "__init__" = some (some (.ref (He.ma K (He.ga K x) "__init__")))) &&
  (decide (PySem.W.typeIn K (.ref (He.ma K (He.ga K x) "__init__")) = some (.type "function")) && (decide (PySem.W.subIn K (.ref (He.ga K x)) (.type "BaseException") = some true) && (decide (PySem.W.typeIn K (.ref (He.ga K x)) = some (.type "type")) && PySem.W.keepIn K (.ref (He.ga K x))))))))))
abbrev keTail : List Value := [.type "KeyError", .type "LookupError", .type "Exception", .type "BaseException", .type "object"]
abbrev ieTail : List Value := [.type "IndexError", .type "LookupError", .type "Exception", .type "BaseException", .type "object"]
abbrev oeTail : List Value := [.type "OverflowError", .type "ArithmeticError", .type "Exception", .type "BaseException", .type "object"]
abbrev aeTail : List Value := [.type "ArithmeticError", .type "Exception", .type "BaseException", .type "object"]
def clsBody : Stmt → List Stmt
  | .ClassDef _ _ _ b _ _ _ _ _ _ _ => b
  | _ => []
abbrev lamQ (n : Str) : Str := n ++ ".<locals>." ++ "<lambda>"
def tabsB (l : List (Addr × Str)) : Bool := l.all fun p => l.all fun q => decide (p.1 = q.1 → p.2 = q.2)
def xpB (K : PySem.W.Frag) (x : Str) (newId : String) (bmB : List Value) : Bool :=
  (He.Fa.glo x).ok K && (PySem.W.excIn K (He.ga K x) bmB newId && (PySem.W.keepIn K (.ref (He.ga K x)) && (decide (PySem.W.subIn K (.ref (He.ga K x)) (.type "BaseException") = some true) && decide (PySem.W.typeIn K (.ref (He.ga K x)) = some (.type "type")))))
def xfBB (K : PySem.W.Frag) (x f : Str) : Bool := (He.Fa.glo x).ok K && (xfB K (He.ga K x) && decide (PySem.W.findIn K (.ref (He.ga K x)) f = some none))
def xmB (K : PySem.W.Frag) (l : List (Str × Str × Bool)) : Bool := l.all fun t => (He.Fa.glo t.1).ok K && ((He.Fa.glo t.2.1).ok K && decide (PySem.W.exmOne K (.ref (He.ga K t.1)) (.ref (He.ga K t.2.1)) = some t.2.2))
def kitT : List String := ["NoneType", "bool", "int", "str", "tuple", "list", "dict"]
def gA (K : PySem.W.Frag) (C : Addr) (f : Str) : Addr := match PySem.W.findIn K (.ref C) f with
  | some (some (.ref p)) => (match PySem.W.recIn K p "property" with
    | some (.ref g :: _) => g
    | _ => 0)
  | _ => 0
def propB (K : PySem.W.Frag) (C : Addr) (f : Str) : Bool := match PySem.W.findIn K (.ref C) f with
  | some (some (.ref p)) => decide (PySem.W.specialIn K (.ref p) "__get__" = some (some (.builtin "property.__get__"))) && (decide (PySem.W.takesIn K (.ref p) = some true) && (match PySem.W.recIn K p "property" with
    | some (.ref _ :: _) => true
    | _ => false))
  | _ => false
def ocB (K : PySem.W.Frag) (c : Str) (fs : List Str) : Bool :=
  PySem.W.plainGet K (He.ga K c) Str.empty && (PySem.W.hasDictIn K (He.ga K c) && (PySem.W.plainOver K (He.ga K c) && (He.eqO (PySem.W.findIn K (.ref (He.ga K c)) "__setattr__") (some (some (.builtin "object.__setattr__"))) &&
  (He.eqO (PySem.W.findIn K (.ref (He.ga K c)) "__class__") (some (some (.builtin "object.__class__"))) && (He.eqO (PySem.W.specialIn K (.builtin "object.__class__") "__get__") (some (some (.builtin "getset_descriptor.__get__"))) &&
  (decide (PySem.W.takesIn K (.builtin "object.__class__") = some true) && (decide (PySem.W.mroIn K (He.ga K c) (.type "object") = some true) && (decide (PySem.W.kitOne K (.ref (He.ga K c)) (.ref (He.ga K c)) = some true) &&
  (PySem.W.makesIn K (He.ga K c) && (He.eqO (PySem.W.findIn K (.ref (He.ga K c)) "__init__") (some (some (.ref (He.ma K (He.ga K c) "__init__")))) && (PySem.W.isFn K (.ref (He.ma K (He.ga K c) "__init__")) && (PySem.W.keepIn K (.ref (He.ga K c)) &&
  (fs.all (fun f => He.eqO (PySem.W.findIn K (.ref (He.ga K c)) f) (some none)) && kitT.all fun t => decide (PySem.W.kitOne K (.type t) (.ref (He.ga K c)) = some false) && decide (PySem.W.kitOne K (.ref (He.ga K c)) (.type t) = some false))))))))))))))
def fnWa (K : PySem.W.Frag) (a : Addr) : He.FnW := match K.lookup a with
  | some ⟨_, _, .func fd, _⟩ => some (fd.name, fd.qualname, fd.params, fd.body, fd.scope, fd.globals, fd.closure, fd.builtins)
  | _ => none
def gAd (K : PySem.W.Frag) (d : He.DefD) : Addr := gA K (He.ga K d.at_.1) (d.at_.2.getD Str.empty)
def gOk (K : PySem.W.Frag) (d : He.DefD) : Bool := PySem.W.keepIn K (.ref (gAd K d)) && (match K.lookup (gAd K d) with
  | some ⟨_, _, .func fd, _⟩ => PySem.W.codeIn K fd.code d.qual && (He.dflB K fd.defaults [] && He.kwdB K fd.kwdefaults [])
  | _ => false)
abbrev AlY : Type := He.AlX × (Bool × List He.FnW)
def obsGet (gs : List He.DefD) (K : PySem.W.Frag) : Bool × List He.FnW := (gs.all fun d => gOk K d, gs.map fun d => fnWa K (gAd K d))
def valGet (gs : List He.DefD) : Bool × List He.FnW := (true, gs.map He.DefD.val)
def obsY (n : Nat) (fa : List He.Fa) (fn : List He.DefD) (tf : List He.Defn) (ex : PySem.W.Frag → Bool) (gs : List He.DefD) (g : Addr → Option Obj) : AlY := (He.obsX n fa fn [] tf ex g, obsGet gs (He.frT g (He.asD g n)))
def lenB (K : PySem.W.Frag) (c : Str) : Bool := He.eqO (PySem.W.findIn K (.ref (He.ga K c)) "__len__") (some (some (.ref (He.ma K (He.ga K c) "__len__")))) && decide (PySem.W.typeIn K (.ref (He.ma K (He.ga K c) "__len__")) = some (.type "function"))
end M
noncomputable section
namespace M
open PySem PySem.W PySem.Calls PyProof.Rows HandSHeadRun

/-! ### what the module's names reach, each address once (a bit for each one that was met) -/
def newAs {α : Type} : List Addr → Nat → (List Addr → Nat → α) → α
  | [], m, k => k [] m
  | a :: l, m, k => frNat a fun a => match Nat.land 1 (Nat.shiftRight m a) with
    | 0 => frNat (Nat.lor m (Nat.shiftLeft 1 a)) fun m => newAs l m fun r m => k (a :: r) m
    | _ => newAs l m k
def refsZ (g : Addr → Option Obj) (a : Addr) : List Addr := match g a with
  | some o => He.refsD o
  | none => []
def bfsZ {α : Type} (g : Addr → Option Obj) : Nat → List Addr → Nat → (List Addr → α) → α
  | 0, _, _, k => k []
  | n + 1, front, m, k => newAs (front.flatMap (refsZ g)) m fun new m => bfsZ g n new m fun r => k (new ++ r)
def asZ (g : Addr → Option Obj) (n : Nat) : List Addr := frNat mainGlobals fun a => bfsZ g n [a] (Nat.shiftLeft 1 a) fun r => a :: r
abbrev KZ (n : Nat) (g : Addr → Option Obj) : PySem.W.Frag := He.frT g (asZ g n)
abbrev AlZ : Type := He.AlD × Bool × (Bool × List He.FnW)
def obsZ (n : Nat) (fa : List He.Fa) (fn : List He.DefD) (tf : List He.Defn) (ex : PySem.W.Frag → Bool) (gs : List He.DefD) (g : Addr → Option Obj) : AlZ := (He.obsD fa fn (KZ n g), ex (KZ n g) && He.tabsB g tf (KZ n g), obsGet gs (KZ n g))
def valZ (fn gs : List He.DefD) : AlZ := (He.valD fn, true, valGet gs)
theorem obsZ_eq {n : Nat} {fa : List He.Fa} {fn : List He.DefD} {tf : List He.Defn} {ex : PySem.W.Frag → Bool} {gs : List He.DefD} {g g' : Addr → Option Obj} (h : ∀ a, g a = g' a) : obsZ n fa fn tf ex gs g = obsZ n fa fn tf ex gs g' := by
  rw [show g = g' from funext h]
theorem saysZ {n : Nat} {fa : List He.Fa} {fn : List He.DefD} {tf : List He.Defn} {ex : PySem.W.Frag → Bool} {gs : List He.DefD} {w : World} {h : Heap} (e : obsZ n fa fn tf ex gs h.get? = valZ fn gs) :
    He.SaysX fa fn [] tf ex w h (KZ n h.get?) ∧ obsGet gs (KZ n h.get?) = valGet gs := by
  have e0 : He.obsD fa fn (KZ n h.get?) = He.valD fn := congrArg (fun z : AlZ => z.1) e
  have e1 : (ex (KZ n h.get?) && He.tabsB h.get? tf (KZ n h.get?)) = true := congrArg (fun z : AlZ => z.2.1) e
  have e2 : obsGet gs (KZ n h.get?) = valGet gs := congrArg (fun z : AlZ => z.2.2) e
  obtain ⟨x, t⟩ := Bool.and_eq_true_iff.mp e1
  have tab : ∀ p ∈ tf, PySem.W.codeHdIn (KZ n h.get?) (He.cT (KZ n h.get?) p).1 (He.cT (KZ n h.get?) p).2 = true ∧ ∃ o, h.get? (He.cT (KZ n h.get?) p).2 = some o ∧ He.emptyTab o = true := by
    intro p hp
    obtain ⟨t1, t2⟩ := Bool.and_eq_true_iff.mp (List.all_eq_true.mp t p hp)
    refine ⟨t1, ?_⟩
    match q : h.get? (He.cT (KZ n h.get?) p).2 with
    | none => rw [q] at t2; exact absurd t2 (by decide)
    | some o => rw [q] at t2; exact ⟨o, rfl, t2⟩
  refine ⟨⟨?_, x, fun p hp => (tab p hp).1, fun p hp => ?_, fun p hp => ?_⟩, e2⟩
  · show (He.obsD fa fn (KZ n h.get?), _) = (He.valD fn, _)
    rw [e0] <;> rfl
  · obtain ⟨_, o, q, z⟩ := tab p hp
    exact He.frT_none q z
  · obtain ⟨_, o, q, z⟩ := tab p hp
    exact q.trans (congrArg some (He.emptyTab_eq z))
def hookZ (n : Nat) (fa : List He.Fa) (fn : List He.DefD) (tf : List He.Defn) (ex : PySem.W.Frag → Bool) (gs : List He.DefD) : PySem.W.Hook where
  α := AlZ
  obs := fun s => obsZ n fa fn tf ex gs s.heap.get?
  val := fun _ => valZ fn gs
  says := fun w h => ∃ K : PySem.W.Frag, K.In h ∧ He.SaysX fa fn [] tf ex w h K ∧ obsGet gs K = valGet gs
  of := fun _ _ e => ⟨_, He.frT_in, saysZ e⟩
  keeps := fun _ _ _ ⟨K, hK, c, d⟩ k => ⟨K, PySem.W.Frag.In.keeps hK k, ⟨c.t, c.more, c.hd, c.out, fun p hp => k _ _ (c.empty p hp)⟩, d⟩

/-! ### the head's run in two parts -/
abbrev endR (r : OpenRow) (M : Nat) (w : World) (os : OsState) : Option SharedT := endF (stepQ (denQ tabQ) r.prog w) M r.prog w os
abbrev seenR (r : OpenRow) (q : Program) (loose : List PySem.Str) (w : World) (s : SharedT) := (looksF r.prog (boot_heap w.params) s.abs, seenQ q loose (importedModules r.prog.main.body) (fun s => xlAt q [] s && recOk r.toRowW.records s) s.abs)
theorem runZ {r : OpenRow} {q : Program} {H : Hook} {ob : SharedT → H.α} {M : Nat} {loose : List PySem.Str} {w : World} (h0 : ∀ os, (endR r M w os).map (seenR r q loose w) = some (true, openGood q loose)) (h1 : ∀ os, (endR r M w os).map ob = some (H.val w)) : RunEq r q H ob M loose w := by
  intro os
  have a0 := h0 os
  have a1 := h1 os
  show (endR r M w os).map _ = _
  cases e : endR r M w os with
  | none => rw [e] at a0; cases a0
  | some s =>
    rw [e] at a0 a1
    have b0 := Option.some.inj a0
    have b1 : ob s = H.val w := Option.some.inj a1
    simp only [Prod.mk.injEq] at b0
    show some (looksF r.prog (boot_heap w.params) s.abs, seenQ q loose (importedModules r.prog.main.body) (fun s => xlAt q [] s && recOk r.toRowW.records s) s.abs, ob s) = some (true, openGood q loose, H.val w)
    rw [b0.1, b0.2, b1]
end M
end

namespace K03
open PySem PySem.Spec PyProof.Rows L2 M
def top (i : Nat) : Stmt := PySem.Challenge.pw_risenets_k03_whole_points_and_ranges.main.body.getD i (.Pass ⟨0, 0, 0, 0⟩)
abbrev s_is_whole : Stmt := top 6
def d_is_whole : He.DefD := ⟨("is_whole", none), "is_whole", "is_whole", defArgs s_is_whole, defBody s_is_whole, defScope s_is_whole, [], []⟩
abbrev s_is_short : Stmt := top 7
def d_is_short : He.DefD := ⟨("is_short", none), "is_short", "is_short", defArgs s_is_short, defBody s_is_short, defScope s_is_short, [], []⟩
abbrev s_check_number : Stmt := top 8
def d_check_number : He.DefD := ⟨("check_number", none), "check_number", "check_number", defArgs s_check_number, defBody s_check_number, defScope s_check_number, [], []⟩
abbrev s_is_row : Stmt := top 9
def d_is_row : He.DefD := ⟨("is_row", none), "is_row", "is_row", defArgs s_is_row, defBody s_is_row, defScope s_is_row, [], []⟩
abbrev s_is_tuple_of : Stmt := top 10
def d_is_tuple_of : He.DefD := ⟨("is_tuple_of", none), "is_tuple_of", "is_tuple_of", defArgs s_is_tuple_of, defBody s_is_tuple_of, defScope s_is_tuple_of, [], []⟩
abbrev s_holds : Stmt := top 12
def d_holds : He.DefD := ⟨("holds", none), "holds", "holds", defArgs s_holds, defBody s_holds, defScope s_holds, [], []⟩
abbrev s_is_rise : Stmt := top 16
def d_is_rise : He.DefD := ⟨("is_rise", none), "is_rise", "is_rise", defArgs s_is_rise, defBody s_is_rise, defScope s_is_rise, [], []⟩
abbrev s_currents_of : Stmt := top 17
def d_currents_of : He.DefD := ⟨("currents_of", none), "currents_of", "currents_of", defArgs s_currents_of, defBody s_currents_of, defScope s_currents_of, [], []⟩
abbrev s_tensions_of : Stmt := top 18
def d_tensions_of : He.DefD := ⟨("tensions_of", none), "tensions_of", "tensions_of", defArgs s_tensions_of, defBody s_tensions_of, defScope s_tensions_of, [], []⟩
abbrev s_tensions_at : Stmt := top 19
def d_tensions_at : He.DefD := ⟨("tensions_at", none), "tensions_at", "tensions_at", defArgs s_tensions_at, defBody s_tensions_at, defScope s_tensions_at, [], []⟩
abbrev s_currents_at : Stmt := top 20
def d_currents_at : He.DefD := ⟨("currents_at", none), "currents_at", "currents_at", defArgs s_currents_at, defBody s_currents_at, defScope s_currents_at, [], []⟩
abbrev s_is_on : Stmt := top 21
def d_is_on : He.DefD := ⟨("is_on", none), "is_on", "is_on", defArgs s_is_on, defBody s_is_on, defScope s_is_on, [], []⟩
abbrev s_place_of : Stmt := top 22
def d_place_of : He.DefD := ⟨("place_of", none), "place_of", "place_of", defArgs s_place_of, defBody s_place_of, defScope s_place_of, [], []⟩
abbrev s_check_rise : Stmt := top 23
def d_check_rise : He.DefD := ⟨("check_rise", none), "check_rise", "check_rise", defArgs s_check_rise, defBody s_check_rise, defScope s_check_rise, [], []⟩
abbrev s_is_far_point : Stmt := top 24
def d_is_far_point : He.DefD := ⟨("is_far_point", none), "is_far_point", "is_far_point", defArgs s_is_far_point, defBody s_is_far_point, defScope s_is_far_point, [], []⟩
abbrev s_are_corners : Stmt := top 25
def d_are_corners : He.DefD := ⟨("are_corners", none), "are_corners", "are_corners", defArgs s_are_corners, defBody s_are_corners, defScope s_are_corners, [], []⟩
abbrev s_other_kind : Stmt := top 26
def d_other_kind : He.DefD := ⟨("other_kind", none), "other_kind", "other_kind", defArgs s_other_kind, defBody s_other_kind, defScope s_other_kind, [], []⟩
abbrev s_kind_between : Stmt := top 27
def d_kind_between : He.DefD := ⟨("kind_between", none), "kind_between", "kind_between", defArgs s_kind_between, defBody s_kind_between, defScope s_kind_between, [], []⟩
abbrev s_row_of : Stmt := top 28
def d_row_of : He.DefD := ⟨("row_of", none), "row_of", "row_of", defArgs s_row_of, defBody s_row_of, defScope s_row_of, [], []⟩
abbrev s_piece_between : Stmt := top 29
def d_piece_between : He.DefD := ⟨("piece_between", none), "piece_between", "piece_between", defArgs s_piece_between, defBody s_piece_between, defScope s_piece_between, [], []⟩
abbrev s_span_of : Stmt := top 30
def d_span_of : He.DefD := ⟨("span_of", none), "span_of", "span_of", defArgs s_span_of, defBody s_span_of, defScope s_span_of, [], []⟩
abbrev s_span_across : Stmt := top 31
def d_span_across : He.DefD := ⟨("span_across", none), "span_across", "span_across", defArgs s_span_across, defBody s_span_across, defScope s_span_across, [], []⟩
abbrev s_first_not_below : Stmt := top 32
def d_first_not_below : He.DefD := ⟨("first_not_below", none), "first_not_below", "first_not_below", defArgs s_first_not_below, defBody s_first_not_below, defScope s_first_not_below, [], []⟩
abbrev s_extent_of : Stmt := top 33
def d_extent_of : He.DefD := ⟨("extent_of", none), "extent_of", "extent_of", defArgs s_extent_of, defBody s_extent_of, defScope s_extent_of, [], []⟩
abbrev s_place_by : Stmt := top 34
def d_place_by : He.DefD := ⟨("place_by", none), "place_by", "place_by", defArgs s_place_by, defBody s_place_by, defScope s_place_by, [], []⟩
abbrev s__law_cask : Stmt := top 36
def d__law_cask : He.DefD := ⟨("_law_cask", none), "_law_cask", "_law_cask", defArgs s__law_cask, defBody s__law_cask, defScope s__law_cask, [], []⟩
abbrev s__law_pour : Stmt := top 37
def d__law_pour : He.DefD := ⟨("_law_pour", none), "_law_pour", "_law_pour", defArgs s__law_pour, defBody s__law_pour, defScope s__law_pour, [], []⟩
abbrev s__law_among : Stmt := top 38
def d__law_among : He.DefD := ⟨("_law_among", none), "_law_among", "_law_among", defArgs s__law_among, defBody s__law_among, defScope s__law_among, [], []⟩
abbrev s__law_size : Stmt := top 39
def d__law_size : He.DefD := ⟨("_law_size", none), "_law_size", "_law_size", defArgs s__law_size, defBody s__law_size, defScope s__law_size, [], []⟩
abbrev s__law_spot : Stmt := top 40
def d__law_spot : He.DefD := ⟨("_law_spot", none), "_law_spot", "_law_spot", defArgs s__law_spot, defBody s__law_spot, defScope s__law_spot, [], []⟩
abbrev s__law_rise : Stmt := top 41
def d__law_rise : He.DefD := ⟨("_law_rise", none), "_law_rise", "_law_rise", defArgs s__law_rise, defBody s__law_rise, defScope s__law_rise, [], []⟩
abbrev s__law_pieces : Stmt := top 42
def d__law_pieces : He.DefD := ⟨("_law_pieces", none), "_law_pieces", "_law_pieces", defArgs s__law_pieces, defBody s__law_pieces, defScope s__law_pieces, [], []⟩
abbrev s__law_holds : Stmt := top 43
def d__law_holds : He.DefD := ⟨("_law_holds", none), "_law_holds", "_law_holds", defArgs s__law_holds, defBody s__law_holds, defScope s__law_holds, [], []⟩
abbrev s__law_is_on : Stmt := top 44
def d__law_is_on : He.DefD := ⟨("_law_is_on", none), "_law_is_on", "_law_is_on", defArgs s__law_is_on, defBody s__law_is_on, defScope s__law_is_on, [], []⟩
abbrev s__law_least : Stmt := top 45
def d__law_least : He.DefD := ⟨("_law_least", none), "_law_least", "_law_least", defArgs s__law_least, defBody s__law_least, defScope s__law_least, [], []⟩
abbrev s__law_most : Stmt := top 46
def d__law_most : He.DefD := ⟨("_law_most", none), "_law_most", "_law_most", defArgs s__law_most, defBody s__law_most, defScope s__law_most, [], []⟩
abbrev s__law_ends : Stmt := top 47
def d__law_ends : He.DefD := ⟨("_law_ends", none), "_law_ends", "_law_ends", defArgs s__law_ends, defBody s__law_ends, defScope s__law_ends, [], []⟩
abbrev s__law_tensions : Stmt := top 48
def d__law_tensions : He.DefD := ⟨("_law_tensions", none), "_law_tensions", "_law_tensions", defArgs s__law_tensions, defBody s__law_tensions, defScope s__law_tensions, [], []⟩
abbrev s__law_currents : Stmt := top 49
def d__law_currents : He.DefD := ⟨("_law_currents", none), "_law_currents", "_law_currents", defArgs s__law_currents, defBody s__law_currents, defScope s__law_currents, [], []⟩
abbrev s__law_range : Stmt := top 50
def d__law_range : He.DefD := ⟨("_law_range", none), "_law_range", "_law_range", defArgs s__law_range, defBody s__law_range, defScope s__law_range, [], []⟩
abbrev s__law_rims : Stmt := top 51
def d__law_rims : He.DefD := ⟨("_law_rims", none), "_law_rims", "_law_rims", defArgs s__law_rims, defBody s__law_rims, defScope s__law_rims, [], []⟩
abbrev s__law_near : Stmt := top 52
def d__law_near : He.DefD := ⟨("_law_near", none), "_law_near", "_law_near", defArgs s__law_near, defBody s__law_near, defScope s__law_near, [], []⟩
abbrev s__law_place : Stmt := top 53
def d__law_place : He.DefD := ⟨("_law_place", none), "_law_place", "_law_place", defArgs s__law_place, defBody s__law_place, defScope s__law_place, [], []⟩
abbrev s__law_point_right : Stmt := top 54
def d__law_point_right : He.DefD := ⟨("_law_point_right", none), "_law_point_right", "_law_point_right", defArgs s__law_point_right, defBody s__law_point_right, defScope s__law_point_right, [], []⟩
abbrev s__law_right : Stmt := top 55
def d__law_right : He.DefD := ⟨("_law_right", none), "_law_right", "_law_right", defArgs s__law_right, defBody s__law_right, defScope s__law_right, [], []⟩
abbrev s_law : Stmt := top 56
def d_law : He.DefD := ⟨("law", none), "law", "law", defArgs s_law, defBody s_law, defScope s_law, [], []⟩
def fn : List He.DefD := [d_is_whole, d_is_short, d_check_number, d_is_row, d_is_tuple_of, d_holds, d_is_rise, d_currents_of, d_tensions_of, d_tensions_at, d_currents_at, d_is_on, d_place_of, d_check_rise, d_is_far_point, d_are_corners, d_other_kind, d_kind_between, d_row_of, d_piece_between, d_span_of, d_span_across, d_first_not_below, d_extent_of, d_place_by, d__law_cask, d__law_pour, d__law_among, d__law_size, d__law_spot, d__law_rise, d__law_pieces, d__law_holds, d__law_is_on, d__law_least, d__law_most, d__law_ends, d__law_tensions, d__law_currents, d__law_range, d__law_rims, d__law_near, d__law_place, d__law_point_right, d__law_right, d_law]
def fa : List He.Fa := [.glo "is_whole", .glo "is_short", .glo "check_number", .glo "is_row", .glo "is_tuple_of", .glo "holds", .glo "is_rise", .glo "currents_of", .glo "tensions_of", .glo "tensions_at", .glo "currents_at", .glo "is_on", .glo "place_of", .glo "check_rise", .glo "is_far_point", .glo "are_corners", .glo "other_kind", .glo "kind_between", .glo "row_of", .glo "piece_between", .glo "span_of", .glo "span_across", .glo "first_not_below", .glo "extent_of", .glo "place_by", .glo "_law_cask", .glo "_law_pour", .glo "_law_among", .glo "_law_size", .glo "_law_spot", .glo "_law_rise", .glo "_law_pieces", .glo "_law_holds", .glo "_law_is_on", .glo "_law_least", .glo "_law_most", .glo "_law_ends", .glo "_law_tensions", .glo "_law_currents", .glo "_law_range", .glo "_law_rims", .glo "_law_near", .glo "_law_place", .glo "_law_point_right", .glo "_law_right", .glo "law", .glo "RiseError", .glo "InvalidRise", .glo "InvalidNumber", .free "abs", .free "all", .free "bool", .free "int", .free "isinstance", .free "len", .free "list", .free "max", .free "min", .free "range", .free "tuple", .free "zip", .int "FAR" 1000000000000000000, .int "MOST_CORNERS" 400, .int "TOO_LONG" 1000000000000000000000000000000000000000000000000000000000000]
abbrev FnP (K : PySem.W.Frag) (x : Str) (st : Stmt) (f : Addr) (fd : FuncData) : Prop := FunD K x x (defArgs st) (defBody st) (defScope st) [] [] f fd
def tabs (K : PySem.W.Frag) : List (Addr × Str) := []
def xmL : List (Str × Str × Bool) := []
def exL (K : PySem.W.Frag) : List Bool := [xmB K xmL, tabsB (tabs K)]
def exB (K : PySem.W.Frag) : Bool := (exL K).all id

abbrev R : PySem.W.OpenRow := PySem.W.OpenLaw.row PySem.Challenge.rw_risenets_k03_whole_points_and_ranges
def tf : List He.Defn := []
abbrev hk : PySem.W.Hook := He.hookX 5 fa fn [] tf exB
def ob (s : PySem.W.SharedT) : He.AlX := He.obsX 5 fa fn [] tf exB (HandSHeadRun.getT s)
theorem ob_same (s : PySem.W.SharedT) : ob s = hk.obs s.abs := He.obsX_eq (HandSHeadRun.getT_eq s)
def names : List PySem.Str := (["is_whole", "is_short", "check_number", "is_row", "is_tuple_of", "holds", "is_rise", "currents_of", "tensions_of", "tensions_at", "currents_at", "is_on", "place_of", "check_rise", "is_far_point", "are_corners", "other_kind", "kind_between", "row_of", "piece_between", "span_of", "span_across", "first_not_below", "extent_of", "place_by", "_law_cask", "_law_pour", "_law_among", "_law_size", "_law_spot"] : List PySem.Str) ++ (["_law_rise", "_law_pieces", "_law_holds", "_law_is_on", "_law_least", "_law_most", "_law_ends", "_law_tensions", "_law_currents", "_law_range", "_law_rims", "_law_near", "_law_place", "_law_point_right", "_law_right", "RiseError", "InvalidRise", "InvalidNumber", "TOO_LONG", "MOST_CORNERS", "FAR"] : List PySem.Str)
theorem run (w : World) : HandSHeadRun.RunEq R (PySem.W.view R.prog [56]) hk ob 4000 names w := by intro os; kernel_rfl

end K03
namespace M
open PySem PySem.Spec PyProof.Rows L2

/-! ### values, told whole -/
inductive PV where
  | non | bl (b : Bool) | int (i : Int) | str (x : Str) | ty (n : String) | gl (x : Str)
  | tup (l : List PV) | lst (l : List PV) | fz (l : List PV) | dK (l : List (Key × PV)) | fK (l : List (Key × PV)) | dT (l : List (List Key × PV)) | fT (l : List (List Key × PV)) | clo (k : Str) | ins (c : Str) (l : List (Str × PV)) | exn (a d : Addr) (c : Str) (l : List (Str × PV))

/-- a lambda's words, the cells that it captured, its code object -/
structure LF where
  qual : Str
  params : Arguments
  body : Expr
  scope : Scope
  cl : List (Str × Addr)
  c : Addr
/-- the object at f is the lambda F -/
def LamO (f : Addr) (F : LF) : HO := .ext fun h => ∃ pm ctv : Value, h.get? f = some (PySem.W.kla_obj "<lambda>" F.qual F.params F.body F.scope F.cl pm F.c ctv)
/-- the tables; the lambdas of the frame's own that stand as values -/
structure Tt where
  l : List (Addr × Str)
  C : Str → Option (Addr → LF)
def C0 : Str → Option (Addr → LF) := fun _ => none
structure Se where
  K : PySem.W.Frag
  mg : Str → Option Value
  T : Tt
/-- no table of code objects -/
def NT (o : HO) : Prop := ∀ ps, o ≠ .tbl ps
/-- there, and no table -/
def Hd (H : Hp) (a : Addr) : Prop := ∃ o, H a = some o ∧ NT o
theorem Hd.ne {H : Hp} {a : Addr} (h : Hd H a) : H a ≠ none := by obtain ⟨o, e, _⟩ := h; rw [e]; simp
/-- .. and none of the things that are known by a property -/
structure NTE (o : HO) : Prop where
  nt : NT o
  ne : ∀ φ, o ≠ .ext φ
instance {o : HO} : Coe (NTE o) (NT o) := ⟨NTE.nt⟩
def HdE (H : Hp) (a : Addr) : Prop := ∃ o, H a = some o ∧ NTE o
theorem HdE.hd {H : Hp} {a : Addr} (h : HdE H a) : Hd H a := let ⟨o, e, n⟩ := h; ⟨o, e, n.nt⟩
instance {H : Hp} {a : Addr} : Coe (HdE H a) (Hd H a) := ⟨HdE.hd⟩
theorem HdE.ne {H : Hp} {a : Addr} (h : HdE H a) : H a ≠ none := h.hd.ne
theorem nte_lst {l : List V} : NTE (.lst l) := ⟨fun _ z => (by cases z), fun _ z => (by cases z)⟩
theorem nt_lst {l : List V} : NT (.lst l) := fun _ z => by cases z
theorem nt_frz {o : Obj} {u : HO} : NT (.frz o u) := fun _ z => by cases z
theorem nte_dK {l : List (Key × V)} : NTE (.dK l) := ⟨fun _ z => (by cases z), fun _ z => (by cases z)⟩
theorem nte_dT {l : List (List Key × V)} : NTE (.dT l) := ⟨fun _ z => (by cases z), fun _ z => (by cases z)⟩
theorem nt_fno {f : Addr} {F : LF} : NT (LamO f F) := fun ps z => by unfold LamO at z; cases z
theorem nt_codeo {c : Addr} {q : Str} : NT (LamX.CodeO c q) := fun ps z => LamX.codeO_ne ps z

mutual
/-- the value v is, in the heap H, the told one; no cell of it is one of O, whose cells can change -/
inductive RV (S : Se) (H : Hp) (O : Addr → Prop) : V → PV → Prop
  | non : RV S H O .non .non
  | bl (b : Bool) : RV S H O (.bl b) (.bl b)
  | int (i : Int) : RV S H O (.int i) (.int i)
  | str (x : Str) : RV S H O (.str x) (.str x)
  | ty (n : String) : RV S H O (.ty n) (.ty n)
  | gl {x : Str} {v : V} {u : Value} : S.mg x = some u → RelV v u → RV S H O v (.gl x)
  | tup {a : Addr} {vs : List V} {l : List PV} : ¬ O a → H a = some (.tup vs) → RVs S H O vs l → RV S H O (.ref a) (.tup l)
  | lst {a : Addr} {vs : List V} {l : List PV} : ¬ O a → H a = some (.lst vs) → RVs S H O vs l → RV S H O (.ref a) (.lst l)
  | fz {a : Addr} {o : Obj} {vs : List V} {l : List PV} : ¬ O a → H a = some (.frz o (.lst vs)) → RVs S H O vs l → RV S H O (.ref a) (.fz l)
  | fzK {a : Addr} {vs : List V} {l : List PV} : (∀ H, SqL S.K H a vs) → RVs S H O vs l → RV S H O (.ref a) (.fz l)
  | dK {a : Addr} {kvs : List (Key × V)} {l : List (Key × PV)} : ¬ O a → H a = some (.dK kvs) → KVs S H O kvs l → RV S H O (.ref a) (.dK l)
  | fK {a : Addr} {o : Obj} {kvs : List (Key × V)} {l : List (Key × PV)} : ¬ O a → H a = some (.frz o (.dK kvs)) → KVs S H O kvs l → RV S H O (.ref a) (.fK l)
  | dT {a : Addr} {kvs : List (List Key × V)} {l : List (List Key × PV)} : ¬ O a → H a = some (.dT kvs) → TVs S H O kvs l → RV S H O (.ref a) (.dT l)
  | fT {a : Addr} {o : Obj} {kvs : List (List Key × V)} {l : List (List Key × PV)} : ¬ O a → H a = some (.frz o (.dT kvs)) → TVs S H O kvs l → RV S H O (.ref a) (.fT l)
  | clo {a c : Addr} {k : Str} {mk : Addr → LF} : S.T.C k = some mk → ¬ O a → ¬ O c → H a = some (LamO a (mk c)) → (mk c).c = c → H c = some (LamX.CodeO c (mk c).qual) → RV S H O (.ref a) (.clo k)
  | ins {a C dx : Addr} {c : Str} {fs : List (Str × V)} {l : List (Str × PV)} : ¬ O a → H a = some (.ins C dx fs) → S.mg c = some (.ref C) → FVs S H O fs l → RV S H O (.ref a) (.ins c l)
  | exn {a C d : Addr} {c : Str} {fs : List (Str × V)} {l : List (Str × PV)} : ¬ O d → H d = some (.xd fs) → S.mg c = some (.ref C) → FVs S H O fs l → RV S H O (.ref a) (.exn a d c l)
inductive RVs (S : Se) (H : Hp) (O : Addr → Prop) : List V → List PV → Prop
  | nil : RVs S H O [] []
  | cons {v : V} {p : PV} {vs : List V} {l : List PV} : RV S H O v p → RVs S H O vs l → RVs S H O (v :: vs) (p :: l)
inductive KVs (S : Se) (H : Hp) (O : Addr → Prop) : List (Key × V) → List (Key × PV) → Prop
  | nil : KVs S H O [] []
  | cons {k : Key} {v : V} {p : PV} {vs : List (Key × V)} {l : List (Key × PV)} : RV S H O v p → KVs S H O vs l → KVs S H O ((k, v) :: vs) ((k, p) :: l)
inductive TVs (S : Se) (H : Hp) (O : Addr → Prop) : List (List Key × V) → List (List Key × PV) → Prop
  | nil : TVs S H O [] []
  | cons {k : List Key} {v : V} {p : PV} {vs : List (List Key × V)} {l : List (List Key × PV)} : RV S H O v p → TVs S H O vs l → TVs S H O ((k, v) :: vs) ((k, p) :: l)
inductive FVs (S : Se) (H : Hp) (O : Addr → Prop) : List (Str × V) → List (Str × PV) → Prop
  | nil : FVs S H O [] []
  | cons {k : Str} {v : V} {p : PV} {vs : List (Str × V)} {l : List (Str × PV)} : RV S H O v p → FVs S H O vs l → FVs S H O ((k, v) :: vs) ((k, p) :: l)
end

/-- what is not of O, and no table, stays -/
structure Keep (O : Addr → Prop) (H H' : Hp) : Prop where
  kp : ∀ a o, H a = some o → ¬ O a → NT o → H' a = some o
/-- what is of O' and stood, is of O -/
def Less (H : Hp) (O O' : Addr → Prop) : Prop := ∀ a, Hd H a → O' a → O a

section
variable {S : Se} {H H' : Hp} {O O' : Addr → Prop}
theorem Rd.some {a : Addr} {u : HO} (r : Rd H a u) (nt : NT u := by exact fun _ z => by cases z) : Hd H a := by
  rcases r with r | ⟨o, r⟩
  · exact ⟨_, r, nt⟩
  · exact ⟨_, r, nt_frz⟩
mutual
theorem RV.mono (k : Keep O H H') (q : Less H O O') {v : V} {p : PV} : RV S H O v p → RV S H' O' v p
  | .non => .non
  | .bl b => .bl b
  | .int i => .int i
  | .str x => .str x
  | .ty n => .ty n
  | .gl h r => .gl h r
  | .tup n r t => .tup (fun z => n (q _ ⟨_, r, fun _ z => by cases z⟩ z)) (k.kp _ _ r n (fun _ z => by cases z)) (RVs.mono k q t)
  | .lst n r t => .lst (fun z => n (q _ ⟨_, r, fun _ z => by cases z⟩ z)) (k.kp _ _ r n (fun _ z => by cases z)) (RVs.mono k q t)
  | .fz n r t => .fz (fun z => n (q _ ⟨_, r, fun _ z => by cases z⟩ z)) (k.kp _ _ r n (fun _ z => by cases z)) (RVs.mono k q t)
  | .fzK r t => .fzK r (RVs.mono k q t)
  | .dK n r t => .dK (fun z => n (q _ ⟨_, r, fun _ z => by cases z⟩ z)) (k.kp _ _ r n (fun _ z => by cases z)) (KVs.mono k q t)
  | .fK n r t => .fK (fun z => n (q _ ⟨_, r, fun _ z => by cases z⟩ z)) (k.kp _ _ r n (fun _ z => by cases z)) (KVs.mono k q t)
  | .dT n r t => .dT (fun z => n (q _ ⟨_, r, fun _ z => by cases z⟩ z)) (k.kp _ _ r n (fun _ z => by cases z)) (TVs.mono k q t)
  | .fT n r t => .fT (fun z => n (q _ ⟨_, r, fun _ z => by cases z⟩ z)) (k.kp _ _ r n (fun _ z => by cases z)) (TVs.mono k q t)
  | .clo m n n2 r e r2 => .clo m (fun z => n (q _ ⟨_, r, nt_fno⟩ z)) (fun z => n2 (q _ ⟨_, r2, nt_codeo⟩ z)) (k.kp _ _ r n nt_fno) e (k.kp _ _ r2 n2 nt_codeo)
  | .ins n r m t => .ins (fun z => n (q _ ⟨_, r, fun _ z => by cases z⟩ z)) (k.kp _ _ r n (fun _ z => by cases z)) m (FVs.mono k q t)
  | .exn n r m t => .exn (fun z => n (q _ ⟨_, r, fun _ z => by cases z⟩ z)) (k.kp _ _ r n (fun _ z => by cases z)) m (FVs.mono k q t)
theorem RVs.mono (k : Keep O H H') (q : Less H O O') {vs : List V} {l : List PV} : RVs S H O vs l → RVs S H' O' vs l
  | .nil => .nil
  | .cons r t => .cons (RV.mono k q r) (RVs.mono k q t)
theorem KVs.mono (k : Keep O H H') (q : Less H O O') {vs : List (Key × V)} {l : List (Key × PV)} : KVs S H O vs l → KVs S H' O' vs l
  | .nil => .nil
  | .cons r t => .cons (RV.mono k q r) (KVs.mono k q t)
theorem TVs.mono (k : Keep O H H') (q : Less H O O') {vs : List (List Key × V)} {l : List (List Key × PV)} : TVs S H O vs l → TVs S H' O' vs l
  | .nil => .nil
  | .cons r t => .cons (RV.mono k q r) (TVs.mono k q t)
theorem FVs.mono (k : Keep O H H') (q : Less H O O') {vs : List (Str × V)} {l : List (Str × PV)} : FVs S H O vs l → FVs S H' O' vs l
  | .nil => .nil
  | .cons r t => .cons (RV.mono k q r) (FVs.mono k q t)
end
theorem Less.refl : Less H O O := fun _ _ z => z
theorem Keep.refl : Keep O H H := ⟨fun _ _ e _ _ => e⟩
theorem Keep.all {P : Addr → Prop} (h : ∀ a o, H a = some o → H' a = some o) : Keep P H H' := ⟨fun a o e _ _ => h a o e⟩
theorem Keep.upd {p : Addr} {o : HO} (hp : H p = none) : Keep O H (upd H p o) := Keep.all fun a u e => by rw [upd_ne (ne_of_none e hp)]; exact e
theorem tab_own {b P : Addr} {q : Str} {u o : HO} (hb : H b = some u) (nt : NT u) (ne : ∀ φ, u ≠ .ext φ) (t : LamX.TabS H P q) : LamX.TabS (L2.upd H b o) P q := by
  obtain ⟨ps, h1, h2, h3⟩ := t
  refine ⟨ps, ?_, h2, fun pos cv hc => ?_⟩
  · rw [upd_ne (fun z => nt ps (by rw [z, hb] at h1; exact Option.some.inj h1))]; exact h1
  · obtain ⟨c, e1, e2⟩ := h3 pos cv hc
    refine ⟨c, e1, ?_⟩
    rw [upd_ne (fun z => ne _ (by rw [z, hb] at e2; exact Option.some.inj e2))]; exact e2
theorem Keep.own {b : Addr} {u o : HO} (hb : H b = some u) (ob : O b) (nt : NT u := by exact fun _ z => by cases z) (ne : ∀ φ, u ≠ .ext φ := by exact fun _ z => by cases z) : Keep O H (L2.upd H b o) :=
  ⟨fun z w e n _ => by rw [upd_ne (show z ≠ b from fun q => n (q ▸ ob))]; exact e⟩
theorem Keep.trans {H2 : Hp} (a : Keep O H H') (b : Keep O H' H2) : Keep O H H2 := ⟨fun c o e n t => b.kp c o (a.kp c o e n t) n t⟩

theorem RVs.length {vs : List V} {l : List PV} (r : RVs S H O vs l) : vs.length = l.length := by
  match vs, l, r with
  | _, _, .nil => rfl
  | _, _, .cons _ t => exact congrArg Nat.succ (RVs.length t)
theorem RVs.get : ∀ {vs : List V} {l : List PV} {i : Nat} {p : PV}, RVs S H O vs l → l[i]? = some p → ∃ v, vs[i]? = some v ∧ RV S H O v p
  | _, _, _, _, .nil, e => by simp at e
  | _, _, 0, _, .cons r _, e => by simp at e; subst e; exact ⟨_, rfl, r⟩
  | _, _, i + 1, p, .cons _ t, e => by
    obtain ⟨v, h1, h2⟩ := RVs.get (i := i) (p := p) t (by simpa using e)
    exact ⟨v, by simpa using h1, h2⟩
theorem RVs.getV : ∀ {vs : List V} {l : List PV} {i : Nat} {v : V}, RVs S H O vs l → vs[i]? = some v → ∃ p, l[i]? = some p ∧ RV S H O v p
  | _, _, _, _, .nil, e => by simp at e
  | _, _, 0, _, .cons r _, e => by simp at e; subst e; exact ⟨_, rfl, r⟩
  | _, _, i + 1, p, .cons _ t, e => by
    obtain ⟨v, h1, h2⟩ := RVs.getV (i := i) (v := p) t (by simpa using e)
    exact ⟨v, by simpa using h1, h2⟩
theorem RVs.append : ∀ {vs ws : List V} {l m : List PV}, RVs S H O vs l → RVs S H O ws m → RVs S H O (vs ++ ws) (l ++ m)
  | _, _, _, _, .nil, s => s
  | _, _, _, _, .cons r t, s => .cons r (RVs.append t s)
theorem RVs.take : ∀ {vs : List V} {l : List PV} (n : Nat), RVs S H O vs l → RVs S H O (vs.take n) (l.take n)
  | _, _, 0, _ => .nil
  | _, _, _ + 1, .nil => .nil
  | _, _, n + 1, .cons r t => .cons r (RVs.take n t)
theorem RVs.drop : ∀ {vs : List V} {l : List PV} (n : Nat), RVs S H O vs l → RVs S H O (vs.drop n) (l.drop n)
  | _, _, 0, r => r
  | _, _, _ + 1, .nil => .nil
  | _, _, n + 1, .cons _ t => RVs.drop n t
theorem RVs.set {v : V} {p : PV} (r : RV S H O v p) : ∀ {vs : List V} {l : List PV} (i : Nat), RVs S H O vs l → RVs S H O (vs.set i v) (l.set i p)
  | _, _, _, .nil => .nil
  | _, _, 0, .cons _ t => .cons r t
  | _, _, i + 1, .cons q t => .cons q (RVs.set r i t)
theorem RVs.reverse {vs : List V} {l : List PV} (r : RVs S H O vs l) : RVs S H O vs.reverse l.reverse := by
  match vs, l, r with
  | _, _, .nil => exact .nil
  | _, _, .cons q t =>
    rw [List.reverse_cons, List.reverse_cons]
    exact (RVs.reverse t).append (.cons q .nil)
theorem RVs.ints : ∀ {vs : List V} {ns : List Int}, RVs S H O vs (ns.map PV.int) → vs = ns.map V.int
  | _, [], h => by cases h; rfl
  | _, n :: ns, h => by
    cases h with
    | cons r t =>
      cases r
      rw [RVs.ints t]
      rfl
theorem RVs.bls : ∀ {vs : List V} {ns : List Bool}, RVs S H O vs (ns.map PV.bl) → vs = ns.map V.bl
  | _, [], h => by cases h; rfl
  | _, n :: ns, h => by
    cases h with
    | cons r t =>
      cases r
      rw [RVs.bls t]
      rfl
theorem RVs.of_ints : ∀ (ns : List Int), RVs S H O (ns.map V.int) (ns.map PV.int)
  | [] => .nil
  | n :: ns => .cons (.int n) (RVs.of_ints ns)
theorem RV.sqT {a : Addr} {l : List PV} (r : RV S H O (.ref a) (.tup l)) : ∃ vs, SqT S.K H a vs ∧ RVs S H O vs l := by
  cases r with
  | tup n r t => exact ⟨_, .inl (.inl r), t⟩
theorem RV.tupAt {v : V} {l : List PV} (r : RV S H O v (.tup l)) : ∃ a vs, v = .ref a ∧ ¬ O a ∧ H a = some (.tup vs) ∧ RVs S H O vs l := by
  cases r with
  | tup n r t => exact ⟨_, _, rfl, n, r, t⟩
theorem RV.isT {v : V} {l : List PV} (r : RV S H O v (.tup l)) : ∃ a vs, v = .ref a ∧ SqT S.K H a vs ∧ RVs S H O vs l := by
  cases r with
  | tup n r t => exact ⟨_, _, rfl, .inl (.inl r), t⟩
theorem RV.isL {v : V} {l : List PV} (r : RV S H O v (.lst l)) : ∃ a vs, v = .ref a ∧ H a = some (.lst vs) ∧ RVs S H O vs l := by
  cases r with
  | lst n r t => exact ⟨_, _, rfl, r, t⟩
theorem RV.isF {v : V} {l : List PV} (r : RV S H O v (.fz l)) : ∃ a vs, v = .ref a ∧ SqL S.K H a vs ∧ RVs S H O vs l := by
  cases r with
  | fz n r t => exact ⟨_, _, rfl, .inl (.inr ⟨_, r⟩), t⟩
  | fzK r t => exact ⟨_, _, rfl, r H, t⟩
theorem RVs.newT {vs : List V} {l : List PV} {p : Addr} (r : RVs S H O vs l) (hp : H p = none) (hO : ∀ a, O a → HdE H a) : RV S (upd H p (.tup vs)) O (.ref p) (.tup l) :=
  .tup (fun z => (hO p z).ne hp) upd_same (r.mono (Keep.upd hp) Less.refl)
theorem RVs.newL {vs : List V} {l : List PV} {p : Addr} (r : RVs S H O vs l) (hp : H p = none) (hO : ∀ a, O a → HdE H a) : RV S (upd H p (.lst vs)) O (.ref p) (.lst l) :=
  .lst (fun z => (hO p z).ne hp) upd_same (r.mono (Keep.upd hp) Less.refl)
end

/-! ### the frame's names, told whole -/
abbrev En := List (Option PV)
def Own (ow : List Nat) (σ : L2.St) (a : Addr) : Prop := ∃ i, i ∈ ow ∧ σ[i]? = some (some (.ref a))
def Gd (G : Addr → Prop) (ow : List Nat) (σ : L2.St) (a : Addr) : Prop := G a ∨ Own ow σ a
/-- a cell that can change, as it stands -/
def At (S : Se) (H : Hp) (O : Addr → Prop) (v : V) : PV → Prop
  | .lst l => ∃ a vs, v = .ref a ∧ H a = some (.lst vs) ∧ RVs S H O vs l
  | .dK l => ∃ a kvs, v = .ref a ∧ H a = some (.dK kvs) ∧ KVs S H O kvs l
  | .dT l => ∃ a kvs, v = .ref a ∧ H a = some (.dT kvs) ∧ TVs S H O kvs l
  | _ => False
structure ER (S : Se) (G : Addr → Prop) (ow : List Nat) (σ : L2.St) (H : Hp) (e : En) : Prop where
  val : ∀ i p, e[i]? = some (some p) → i ∉ ow → ∃ v, σ[i]? = some (some v) ∧ RV S H (Gd G ow σ) v p
  own : ∀ i p, e[i]? = some (some p) → i ∈ ow → ∃ v, σ[i]? = some (some v) ∧ At S H (Gd G ow σ) v p
  off : ∀ i, i ∈ ow → (∀ p, e[i]? ≠ some (some p)) → ∀ a, σ[i]? ≠ some (some (.ref a))
  sep : ∀ i j a, i ∈ ow → j ∈ ow → σ[i]? = some (some (.ref a)) → σ[j]? = some (some (.ref a)) → i = j
  ng : ∀ i a, i ∈ ow → σ[i]? = some (some (.ref a)) → ¬ G a
  gt : ∀ a, G a → HdE H a
  tb : ∀ p ∈ S.T.l, LamX.TabS H p.1 p.2
  len : e.length = σ.length
section
variable {S : Se} {G : Addr → Prop} {ow ow' : List Nat} {σ : L2.St} {H H' : Hp} {e e' : En}
theorem At.mono {O O' : Addr → Prop} {v : V} {p : PV} (h : At S H O v p) (k : Keep O H H') (q : Less H O O') (s : ∀ a, v = .ref a → H' a = H a) : At S H' O' v p := by
  cases p with
  | lst l => obtain ⟨a, vs, rfl, e1, t⟩ := h; exact ⟨a, vs, rfl, by rw [s a rfl]; exact e1, t.mono k q⟩
  | dK l => obtain ⟨a, vs, rfl, e1, t⟩ := h; exact ⟨a, vs, rfl, by rw [s a rfl]; exact e1, t.mono k q⟩
  | dT l => obtain ⟨a, vs, rfl, e1, t⟩ := h; exact ⟨a, vs, rfl, by rw [s a rfl]; exact e1, t.mono k q⟩
  | _ => exact h
theorem At.ref {O : Addr → Prop} {v : V} {p : PV} (h : At S H O v p) : ∃ a, v = .ref a ∧ HdE H a := by
  cases p with
  | lst l => obtain ⟨a, vs, rfl, e1, t⟩ := h; exact ⟨a, rfl, _, e1, nte_lst⟩
  | dK l => obtain ⟨a, vs, rfl, e1, t⟩ := h; exact ⟨a, rfl, _, e1, nte_dK⟩
  | dT l => obtain ⟨a, vs, rfl, e1, t⟩ := h; exact ⟨a, rfl, _, e1, nte_dT⟩
  | _ => exact h.elim
theorem ER.ownT (R : ER S G ow σ H e) {a : Addr} (h : Own ow σ a) : HdE H a := by
  obtain ⟨i, hi, e1⟩ := h
  by_cases q : ∃ p, e[i]? = some (some p)
  · obtain ⟨p, q⟩ := q
    obtain ⟨v, e2, t⟩ := R.own i p q hi
    rw [e1] at e2; cases e2
    obtain ⟨b, e3, e4⟩ := t.ref
    cases e3
    exact e4
  · exact absurd e1 (R.off i hi (fun p z => q ⟨p, z⟩) a)
theorem ER.tracked (R : ER S G ow σ H e) : ∀ a, Gd G ow σ a → HdE H a := fun a h => h.elim (R.gt a) R.ownT
theorem Keep.gd {O : Addr → Prop} (k : Keep O H H') : Keep (fun a => G a ∨ O a) H H' := ⟨fun a o e n t => k.kp a o e (fun z => n (.inr z)) t⟩
/-- new cells alone -/
theorem ER.keep (R : ER S G ow σ H e) (k : ∀ a o, H a = some o → H' a = some o) : ER S G ow σ H' e := by
  have kk : Keep (Gd G ow σ) H H' := Keep.all k
  refine ⟨fun i p h1 h2 => ?_, fun i p h1 h2 => ?_, R.off, R.sep, R.ng, fun a g => ?_, fun p hp => (R.tb p hp).ext k, R.len⟩
  · obtain ⟨v, h3, h4⟩ := R.val i p h1 h2
    exact ⟨v, h3, h4.mono kk Less.refl⟩
  · obtain ⟨v, h3, h4⟩ := R.own i p h1 h2
    refine ⟨v, h3, h4.mono kk Less.refl fun a z => ?_⟩
    obtain ⟨b, e3, e4⟩ := h4.ref
    rw [z] at e3; cases e3
    obtain ⟨o, q, _⟩ := e4
    rw [q, k a o q]
  · obtain ⟨o, q, nt⟩ := R.gt a g
    exact ⟨o, k a o q, nt⟩
theorem ER.new (R : ER S G ow σ H e) {p : Addr} {o : HO} (hp : H p = none) : ER S G ow σ (upd H p o) e := R.keep fun a u z => by rw [upd_ne (ne_of_none z hp)]; exact z
/-- a cell is let go: it does not change any more -/
theorem Own.less {a : Addr} (h : ∀ i ∈ ow', i ∈ ow) (z : Own ow' σ a) : Own ow σ a := let ⟨i, hi, e⟩ := z; ⟨i, h i hi, e⟩
theorem Gd.less {a : Addr} (h : ∀ i ∈ ow', i ∈ ow) (z : Gd G ow' σ a) : Gd G ow σ a := z.imp id (Own.less h)
theorem ER.less (R : ER S G ow σ H e) (h : ∀ i ∈ ow', i ∈ ow) : ER S G ow' σ H e := by
  have q : Less H (Gd G ow σ) (Gd G ow' σ) := fun a _ z => z.less h
  refine ⟨fun i p h1 h2 => ?_, fun i p h1 h2 => ?_, fun i hi => R.off i (h i hi), fun i j a hi hj => R.sep i j a (h i hi) (h j hj), fun i a hi => R.ng i a (h i hi), R.gt, R.tb, R.len⟩
  · by_cases h3 : i ∈ ow
    · obtain ⟨v, h4, h5⟩ := R.own i p h1 h3
      refine ⟨v, h4, ?_⟩
      have no : ∀ a, v = .ref a → ¬ Gd G ow' σ a := fun a z g => by
        subst z
        rcases g with g | ⟨j, hj, e1⟩
        · exact R.ng i a h3 h4 g
        · exact h2 (R.sep i j a h3 (h j hj) h4 e1 ▸ hj)
      cases p with
      | lst l => obtain ⟨a, vs, rfl, e1, t⟩ := h5; exact .lst (no a rfl) e1 (t.mono Keep.refl q)
      | dK l => obtain ⟨a, vs, rfl, e1, t⟩ := h5; exact .dK (no a rfl) e1 (t.mono Keep.refl q)
      | dT l => obtain ⟨a, vs, rfl, e1, t⟩ := h5; exact .dT (no a rfl) e1 (t.mono Keep.refl q)
      | _ => exact h5.elim
    · obtain ⟨v, h4, h5⟩ := R.val i p h1 h3
      exact ⟨v, h4, h5.mono Keep.refl q⟩
  · obtain ⟨v, h3, h4⟩ := R.own i p h1 (h i h2)
    exact ⟨v, h3, h4.mono Keep.refl q fun _ _ => rfl⟩
end

/-! ### what comes out -/
structure Ex where
  c : Str
  fs : List (Str × PV)
inductive Out (α : Type) where
  | ok (a : α) (e : En)
  | exc (x : Ex) (e : En)
  | bad
def Out.bind {α β : Type} (o : Out α) (f : α → En → Out β) : Out β := match o with
  | .ok a e => f a e
  | .exc x e => .exc x e
  | .bad => .bad
/-- a partial function's value -/
def lift {α : Type} (o : Option α) (e : En) : Out α := match o with
  | some a => .ok a e
  | none => .bad
abbrev Mo (α : Type) := En → Out α

/-- what is wanted of an exception: its class, its dict, the frame's names, the heap -/
abbrev XW := Value → Option Addr → L2.St → Hp → Prop
def ExAt (S : Se) (H : Hp) (O : Addr → Prop) (cls : Value) (d : Option Addr) (x : Ex) : Prop :=
  S.mg x.c = some cls ∧ match d with
  | none => x.fs = []
  | some a => ¬ O a ∧ ∃ fs, H a = some (.xd fs) ∧ FVs S H O fs x.fs
/-- the static part of a frame -/
structure Fm where
  S : Se
  G : Addr → Prop
  io : List Nat
  W : XW
def Post {α : Type} (F : Fm) (ow : List Nat) (σ : L2.St) (H : Hp) (o : Out α) (R : α → En → Hp → Prop) : Prop := match o with
  | .ok a e => ∀ H', Keep (Own ow σ) H H' → ER F.S F.G ow σ H' e → R a e H'
  | .exc x e => ∀ H' cls d, Keep (Own ow σ) H H' → ER F.S F.G ow σ H' e → ExAt F.S H' (Gd F.G ow σ) cls d x → F.W cls d σ H'
  | .bad => False
section
variable {α β : Type} {F : Fm} {ow : List Nat} {σ : L2.St} {H H' : Hp}
theorem Post.mono {o : Out α} {R R' : α → En → Hp → Prop} (p : Post F ow σ H o R) (h : ∀ a e H', Keep (Own ow σ) H H' → ER F.S F.G ow σ H' e → R a e H' → R' a e H') : Post F ow σ H o R' := by
  cases o with
  | ok a e => exact fun H' k r => h a e H' k r (p H' k r)
  | exc x e => exact p
  | bad => exact p
theorem Post.from {o : Out α} {R : α → En → Hp → Prop} (p : Post F ow σ H o R) (k : Keep (Own ow σ) H H') : Post F ow σ H' o R := by
  cases o with
  | ok a e => exact fun H2 k2 r => p H2 (k.trans k2) r
  | exc x e => exact fun H2 c d k2 r => p H2 c d (k.trans k2) r
  | bad => exact p
/-- the first half of a pair of steps -/
theorem Post.unbind {o : Out α} {f : α → En → Out β} {R : β → En → Hp → Prop} (p : Post F ow σ H (o.bind f) R) : Post F ow σ H o fun a e H1 => Post F ow σ H1 (f a e) R := by
  cases o with
  | ok a e => exact fun H' k r => Post.from p k
  | exc x e => exact p
  | bad => exact p
theorem Post.of_lift {o : Option α} {e : En} {R : α → En → Hp → Prop} (p : Post F ow σ H (lift o e) R) (er : ER F.S F.G ow σ H e) : ∃ a, o = some a ∧ ∀ H', (∀ a u, H a = some u → H' a = some u) → R a e H' := by
  cases o with
  | none => exact p.elim
  | some a => exact ⟨a, rfl, fun H' k => p H' (Keep.all k) (er.keep k)⟩
end

/-- an expression's reading, by its mirror -/
def rd (F : Fm) (ow : List Nat) (m : Mo PV) : TE := fun σ H Q => ∃ e, ER F.S F.G ow σ H e ∧ Post F ow σ H (m e) fun p _ H' => ∀ v, RV F.S H' (Gd F.G ow σ) v p → Q v H'
def rdT (F : Fm) (ow : List Nat) (m : Mo Bool) : TT := fun σ H Q => ∃ e, ER F.S F.G ow σ H e ∧ Post F ow σ H (m e) fun b _ H' => Q b H'
def rdA (F : Fm) (ow : List Nat) (m : Mo (List PV)) : TA := fun σ H Q => ∃ e, ER F.S F.G ow σ H e ∧ Post F ow σ H (m e) fun l _ H' => ∀ vs, RVs F.S H' (Gd F.G ow σ) vs l → Q vs H'
end M

namespace M
open PySem PySem.Spec PyProof.Rows L2

/-! ### data -/
mutual
def toD : PV → Option PyData
  | .non => some .none
  | .bl b => some (.bool b)
  | .int i => some (.int i)
  | .str x => some (.str x)
  | .tup l => (toDs l).map .tuple
  | .lst l => (toDs l).map .list
  | .fz _ => none
  | .ty _ => none
  | .gl _ => none
  | .dK _ => none
  | .fK _ => none
  | .dT _ => none
  | .fT _ => none
  | .clo _ => none
  | .ins _ _ => none
  | .exn _ _ _ _ => none
def toDs : List PV → Option (List PyData)
  | [] => some []
  | p :: l => (toD p).bind fun d => (toDs l).map fun ds => d :: ds
end
section
variable {S : Se} {H : Hp} {O : Addr → Prop}
mutual
theorem RV.dp {v : V} {p : PV} {d : PyData} : RV S H O v p → toD p = some d → Dp S.K H v d
  | .non, e => by simp only [toD] at e; cases e; exact .non
  | .bl b, e => by simp only [toD] at e; cases e; exact .bl b
  | .int i, e => by simp only [toD] at e; cases e; exact .int i
  | .str x, e => by simp only [toD] at e; cases e; exact .str x
  | .ty n, e => by simp [toD] at e
  | .gl _ _, e => by simp [toD] at e
  | .tup (l := l) n r t, e => by
    simp only [toD] at e
    cases q : toDs l with
    | none => rw [q] at e; cases e
    | some ds => rw [q] at e; cases e; exact .tup (.inl (.inl r)) (RVs.dp t q)
  | .lst (l := l) n r t, e => by
    simp only [toD] at e
    cases q : toDs l with
    | none => rw [q] at e; cases e
    | some ds => rw [q] at e; cases e; exact .lst (.inl (.inl r)) (RVs.dp t q)
  | .fz _ _ _, e => by simp [toD] at e
  | .fzK _ _, e => by simp [toD] at e
  | .dK _ _ _, e => by simp [toD] at e
  | .fK _ _ _, e => by simp [toD] at e
  | .dT _ _ _, e => by simp [toD] at e
  | .fT _ _ _, e => by simp [toD] at e
  | .clo _ _ _ _ _ _, e => by simp [toD] at e
  | .ins _ _ _ _, e => by simp [toD] at e
  | .exn _ _ _ _, e => by simp [toD] at e
theorem RVs.dp {vs : List V} {l : List PV} {ds : List PyData} : RVs S H O vs l → toDs l = some ds → DpAll S.K H vs ds
  | .nil, e => by simp only [toDs] at e; cases e; exact .nil
  | .cons (p := p) (l := l) r t, e => by
    simp only [toDs] at e
    cases q1 : toD p with
    | none => rw [q1] at e; cases e
    | some d =>
      rw [q1] at e
      cases q2 : toDs l with
      | none => rw [q2] at e; cases e
      | some ds => rw [q2] at e; cases e; exact .cons (RV.dp r q1) (RVs.dp t q2)
end
end

def eqD (a b : PV) : Option Bool := match toD a, toD b with
  | some d, some e => if SeqAt.shaped d && SeqAt.shaped e then some (d.eqv e) else none
  | _, _ => none
theorem eqD_some {a b : PV} {k : Bool} (h : eqD a b = some k) : ∃ d e, toD a = some d ∧ toD b = some e ∧ SeqAt.shaped d = true ∧ SeqAt.shaped e = true ∧ d.eqv e = k := by
  unfold eqD at h
  split at h
  · rename_i d e h1 h2
    split at h
    · rename_i h3
      rw [Bool.and_eq_true] at h3
      cases h
      exact ⟨d, e, h1, h2, h3.1, h3.2, rfl⟩
    · cases h
  · cases h

def truth : PV → Option Bool
  | .non => some false
  | .bl b => some b
  | .int i => some (i != 0)
  | .str y => if y.length ≤ sizeLine then some ((y.length : Int) != 0) else none
  | .tup l => some (!l.isEmpty)
  | .lst l => some (!l.isEmpty)
  | .fz l => some (!l.isEmpty)
  | .dK l => some (!l.isEmpty)
  | _ => none
theorem KVs.length {S : Se} {H : Hp} {O : Addr → Prop} : ∀ {vs : List (Key × V)} {l : List (Key × PV)}, KVs S H O vs l → vs.length = l.length
  | _, _, .nil => rfl
  | _, _, .cons _ t => congrArg Nat.succ (KVs.length t)
theorem emp_of {α β : Type} {l : List α} {m : List β} (h : l.length = m.length) : (!l.isEmpty) = !m.isEmpty := by
  cases l <;> cases m <;> simp_all
theorem RV.tru {S : Se} {H : Hp} {O : Addr → Prop} {v : V} {p : PV} {k : Bool} (r : RV S H O v p) (h : truth p = some k) : TruV S.K v H k := by
  cases r with
  | non => cases h; rfl
  | bl b => cases h; rfl
  | int i => cases h; rfl
  | str x =>
    simp only [truth] at h
    split at h
    · rename_i q; cases h; exact ⟨q, rfl⟩
    · cases h
  | tup n r t => cases h; exact .inr (.inl ⟨_, .inl (.inl r), (emp_of t.length).symm⟩)
  | lst n r t => cases h; exact .inl ⟨_, .inl (.inl r), (emp_of t.length).symm⟩
  | fz n r t => cases h; exact .inl ⟨_, .inl (.inr ⟨_, r⟩), (emp_of t.length).symm⟩
  | fzK r t => cases h; exact .inl ⟨_, r H, (emp_of t.length).symm⟩
  | dK n r t => cases h; exact .inr (.inr ⟨_, r, (emp_of t.length).symm⟩)
  | _ => cases h

/-! ### readings, weakened -/
section
variable {X : Cx}
theorem _root_.L2.PE.imp {e : Expr} {t t' : TE} (h : PE X e t) (i : ∀ σ H Q, t' σ H Q → t σ H Q) : PE X e t' := ⟨fun pins s σ H Q I q => h.run pins s σ H Q I (i σ H Q q)⟩
theorem _root_.L2.PT.imp {e : Expr} {t t' : TT} (h : PT X e t) (i : ∀ σ H Q, t' σ H Q → t σ H Q) : PT X e t' := ⟨fun pins s σ H Q I q => h.run pins s σ H Q I (i σ H Q q)⟩
theorem _root_.L2.PW.imp {e : Expr} {t t' : TT} (h : PW X e t) (i : ∀ σ H Q, t' σ H Q → t σ H Q) : PW X e t' := ⟨fun wh pins s σ H Q I q => h.run wh pins s σ H Q I (i σ H Q q)⟩
theorem _root_.L2.PA.imp {e : List Expr} {t t' : TA} (h : PA X e t) (i : ∀ σ H Q, t' σ H Q → t σ H Q) : PA X e t' := ⟨fun pos pins s σ H Q I q => h.run pos pins s σ H Q I (i σ H Q q)⟩
theorem _root_.L2.PS.imp {e : Stmt} {t t' : TS} (h : PS X e t) (i : ∀ D σ H, t' D σ H → t D σ H) : PS X e t' := ⟨fun pins s σ H D I q => h.run pins s σ H D I (i D σ H q)⟩
theorem _root_.L2.PSs.imp {e : List Stmt} {t t' : TS} (h : PSs X e t) (i : ∀ D σ H, t' D σ H → t D σ H) : PSs X e t' := ⟨fun pins s σ H D I q => h.run pins s σ H D I (i D σ H q)⟩
end

/-! ### names, constants -/
section
variable {X : Cx} {F : Fm} {ow : List Nat}
def mVar (i : Nat) : Mo PV := fun e => match e[i]? with
  | some (some p) => .ok p e
  | _ => .bad
def mC (p : PV) : Mo PV := fun e => .ok p e
theorem pm_var (i : Nat) {x : Str} {pos : Pos} (hi : i ∉ ow := by decide) (hN : X.N[i]? = some x := by rfl) (hv : Vis X.env.scope x := by first | exact .inl rfl | exact .inr (.inl rfl) | exact .inr (.inr rfl))
    (hd : (x == ("__debug__" : Str)) = false := by decide) (hcd : (x == ("__classdict__" : Str)) = false := by decide) : PE X (.Name x pos) (rd F ow (mVar i)) :=
  (pe_var hN hv hd hcd).imp fun σ H Q ⟨e, R, p⟩ => by
    unfold mVar at p
    split at p
    · rename_i q h
      obtain ⟨v, h1, h2⟩ := R.val i q h hi
      exact ⟨v, h1, p H Keep.refl R v h2⟩
    · exact p.elim
theorem rd_C {p : PV} {v : V} {σ : L2.St} {H : Hp} {Q : VK} (h : rd F ow (mC p) σ H Q) (r : ∀ H O, RV F.S H O v p) : tC v σ H Q := by
  obtain ⟨e, R, q⟩ := h
  exact q H Keep.refl R v (r _ _)
theorem pm_int {i j pos} : PE X (.Constant (.int i) j pos) (rd F ow (mC (.int i))) := pe_int.imp fun _ _ _ h => rd_C h fun _ _ => .int i
theorem pm_bl {b j pos} : PE X (.Constant (.bool b) j pos) (rd F ow (mC (.bl b))) := pe_bl.imp fun _ _ _ h => rd_C h fun _ _ => .bl b
theorem pm_non {j pos} : PE X (.Constant .none j pos) (rd F ow (mC .non)) := pe_non.imp fun _ _ _ h => rd_C h fun _ _ => .non
theorem pm_str {x j pos} : PE X (.Constant (.str x) j pos) (rd F ow (mC (.str x))) := pe_str.imp fun _ _ _ h => rd_C h fun _ _ => .str x
/-- an int of the module -/
theorem pm_glI {x : Str} {i : Int} {t : Tok} {pos : Pos} (hg : Gl X x) (hm : X.mg x = some (.int i t)) (hd : (x == ("__debug__" : Str)) = false := by decide) : PE X (.Name x pos) (rd F ow (mC (.int i))) :=
  (pe_glob (v := .int i) hg hm ⟨t, rfl⟩ hd).imp fun _ _ _ h => rd_C h fun _ _ => .int i
theorem pm_ty {x : Str} {n : String} {pos : Pos} (hg : Gl X x) (hm : X.mg x = none) (hv : bootBuiltins x = some (.type n)) (hn : x ≠ "__name__" := by decide) (hd : (x == ("__debug__" : Str)) = false := by decide) : PE X (.Name x pos) (rd F ow (mC (.ty n))) :=
  (pe_bltn (v := .ty n) hg hm hv rfl hn hd).imp fun _ _ _ h => rd_C h fun _ _ => .ty n

/-! ### two-place operations, by values -/
abbrev Pre (H : Hp) (O : Addr → Prop) : Prop := ∀ a, O a → HdE H a
def BinOk (X : Cx) (F : Fm) (f : Value → Value → Sem Value) (g : PV → PV → Option PV) : Prop := ∀ O : Addr → Prop, ∃ r : R2, OpR X f r ∧
  ∀ H x y a b c Q, Pre H O → RV F.S H O x a → RV F.S H O y b → g a b = some c → (∀ v H', (∀ z u, H z = some u → H' z = some u) → RV F.S H' O v c → Q v H') → r x y H Q
def mBin (g : PV → PV → Option PV) (ma mb : Mo PV) : Mo PV := fun e => (ma e).bind fun a e1 => (mb e1).bind fun b e2 => lift (g a b) e2
/-- the rule by values gives a step's end -/
theorem bin_end {g : PV → PV → Option PV} {f : Value → Value → Sem Value} (h : BinOk X F f g) : OpR X f fun x y H Q => ∃ (O : Addr → Prop) (a b c : PV), Pre H O ∧ RV F.S H O x a ∧ RV F.S H O y b ∧ g a b = some c ∧ ∀ v H', (∀ z u, H z = some u → H' z = some u) → RV F.S H' O v c → Q v H' := by
  intro pins s σ H x y v u Q I rx ry ⟨O, a, b, c, p, ra, rb, e, q⟩
  obtain ⟨r, hr, k⟩ := h O
  exact hr pins s σ H x y v u Q I rx ry (k H x y a b c Q p ra rb e q)
theorem bin_go {g : PV → PV → Option PV} {ma mb : Mo PV} {σ : L2.St} {H : Hp} {Q : VK} (h : rd F ow (mBin g ma mb) σ H Q) :
    rd F ow ma σ H fun x H1 => rd F ow mb σ H1 fun y H2 => ∃ (O : Addr → Prop) (a b c : PV), Pre H2 O ∧ RV F.S H2 O x a ∧ RV F.S H2 O y b ∧ g a b = some c ∧ ∀ v H', (∀ z u, H2 z = some u → H' z = some u) → RV F.S H' O v c → Q v H' := by
  obtain ⟨e, R, p⟩ := h
  refine ⟨e, R, (Post.unbind p).mono fun a e1 H1 k1 R1 p1 x rx => ⟨e1, R1, (Post.unbind p1).mono fun b e2 H2 k2 R2 p2 y ry => ?_⟩⟩
  obtain ⟨c, hc, q⟩ := p2.of_lift R2
  exact ⟨Gd F.G ow σ, a, b, c, R2.tracked, rx.mono k2.gd Less.refl, ry, hc, fun v H' k rv => q H' k v rv⟩
theorem pm_bin {a b : Expr} {op : Operator} {g : PV → PV → Option PV} {ma mb : Mo PV} {pos : Pos} (h : BinOk X F (binaryOp op) g) (ha : PE X a (rd F ow ma)) (hb : PE X b (rd F ow mb)) : PE X (.BinOp a op b pos) (rd F ow (mBin g ma mb)) :=
  (pe_op (bin_end h) ha hb).imp fun σ H Q h => bin_go h
theorem pm_cmp {a b : Expr} {op : CmpOp} {g : PV → PV → Option PV} {ma mb : Mo PV} {pos : Pos} (h : BinOk X F (compareOp op) g) (ha : PE X a (rd F ow ma)) (hb : PE X b (rd F ow mb)) (hm : behindInMarks op b = false) : PE X (.Compare a [op] [b] pos) (rd F ow (mBin g ma mb)) :=
  (pe_cmpR (bin_end h) ha hb hm).imp fun σ H Q h => bin_go h
/-- .. as a test -/
def isB : PV → Option Bool
  | .bl b => some b
  | _ => none
def mTB (m : Mo PV) : Mo Bool := fun e => (m e).bind fun p e1 => lift (isB p) e1
theorem isB_some {p : PV} {b : Bool} (h : isB p = some b) : p = .bl b := by
  cases p <;> first | (cases h; done) | (cases h; rfl)
theorem tb_go {m : Mo PV} {σ : L2.St} {H : Hp} {Q : Bool → Hp → Prop} (h : rdT F ow (mTB m) σ H Q) : rd F ow m σ H fun x H1 => ∃ k, x = .bl k ∧ Q k H1 := by
  obtain ⟨e, R, p⟩ := h
  refine ⟨e, R, (Post.unbind p).mono fun a e1 H1 k1 R1 p1 x rx => ?_⟩
  obtain ⟨c, hc, q⟩ := p1.of_lift R1
  rw [isB_some hc] at rx
  cases rx
  exact ⟨c, rfl, q H1 fun _ _ z => z⟩
theorem pm_tcmp {a b : Expr} {op : CmpOp} {g : PV → PV → Option PV} {ma mb : Mo PV} {pos : Pos} (h : BinOk X F (compareOp op) g) (ha : PE X a (rd F ow ma)) (hb : PE X b (rd F ow mb)) (hm : behindInMarks op b = false) : PT X (.Compare a [op] [b] pos) (rdT F ow (mTB (mBin g ma mb))) :=
  (pt_cmpR (bin_end h) ha hb hm).imp fun σ H Q h => bin_go (tb_go h)
/-- any expression by its truth -/
def mTr (m : Mo PV) : Mo Bool := fun e => (m e).bind fun p e1 => lift (truth p) e1
theorem tr_go {m : Mo PV} (hS : F.S = ⟨X.K, X.mg, F.S.T⟩) {σ : L2.St} {H : Hp} {Q : Bool → Hp → Prop} (h : rdT F ow (mTr m) σ H Q) : rd F ow m σ H fun x H1 => ∃ k, TruV X.K x H1 k ∧ Q k H1 := by
  obtain ⟨e, R, p⟩ := h
  refine ⟨e, R, (Post.unbind p).mono fun a e1 H1 k1 R1 p1 x rx => ?_⟩
  obtain ⟨c, hc, q⟩ := p1.of_lift R1
  have z := rx.tru hc
  rw [hS] at z
  exact ⟨c, z, q H1 fun _ _ z => z⟩
theorem pm_tr {a : Expr} {m : Mo PV} (ha : PE X a (rd F ow m)) (he : ∀ whole, isTrue a X.env whole = (do let v ← whole; standAt a.pos; holding [v] (truthy v)) := by intro _; rfl) (hS : F.S = ⟨X.K, X.mg, F.S.T⟩ := by rfl) : PT X a (rdT F ow (mTr m)) :=
  (pt_truth ha he).imp fun σ H Q h => tr_go hS h
/-! ### and, or, not -/
def mAnd (a b : Mo Bool) : Mo Bool := fun e => (a e).bind fun k e1 => if k = true then b e1 else .ok false e1
def mOr (a b : Mo Bool) : Mo Bool := fun e => (a e).bind fun k e1 => if k = true then .ok true e1 else b e1
def mNot (a : Mo Bool) : Mo Bool := fun e => (a e).bind fun k e1 => .ok (!k) e1
theorem pm_not {a : Expr} {m : Mo Bool} {pos : Pos} (ha : PT X a (rdT F ow m)) : PT X (.UnaryOp .Not a pos) (rdT F ow (mNot m)) :=
  (pt_not ha).imp fun σ H Q ⟨e, R, p⟩ => ⟨e, R, (Post.unbind p).mono fun k e1 H1 k1 R1 p1 => p1 H1 Keep.refl R1⟩
theorem and_go {m m' : Mo Bool} {σ : L2.St} {H : Hp} {Q : Bool → Hp → Prop} (h : rdT F ow (mAnd m m') σ H Q) : tAnd (rdT F ow m) (rdT F ow m') σ H Q := by
  obtain ⟨e, R, p⟩ := h
  refine ⟨e, R, (Post.unbind p).mono fun k e1 H1 k1 R1 p1 => ?_⟩
  cases k with
  | true => exact ⟨e1, R1, p1⟩
  | false => exact p1 H1 Keep.refl R1
theorem or_go {m m' : Mo Bool} {σ : L2.St} {H : Hp} {Q : Bool → Hp → Prop} (h : rdT F ow (mOr m m') σ H Q) : tOr (rdT F ow m) (rdT F ow m') σ H Q := by
  obtain ⟨e, R, p⟩ := h
  refine ⟨e, R, (Post.unbind p).mono fun k e1 H1 k1 R1 p1 => ?_⟩
  cases k with
  | false => exact ⟨e1, R1, p1⟩
  | true => exact p1 H1 Keep.refl R1
theorem pw_andM {a b : Expr} {rest : List Expr} {m m' : Mo Bool} {pos : Pos} (ha : PT X a (rdT F ow m)) (hb : PW X (.BoolOp .And (b :: rest) pos) (rdT F ow m')) : PW X (.BoolOp .And (a :: b :: rest) pos) (rdT F ow (mAnd m m')) :=
  (pw_and ha hb).imp fun σ H Q h => and_go h
theorem pw_orM {a b : Expr} {rest : List Expr} {m m' : Mo Bool} {pos : Pos} (ha : PT X a (rdT F ow m)) (hb : PW X (.BoolOp .Or (b :: rest) pos) (rdT F ow m')) : PW X (.BoolOp .Or (a :: b :: rest) pos) (rdT F ow (mOr m m')) :=
  (pw_or ha hb).imp fun σ H Q h => or_go h
/-- as values: the first one by truth -/
def mAndV (a b : Mo PV) : Mo PV := fun e => (a e).bind fun p e1 => (lift (truth p) e1).bind fun k e2 => if k = true then b e2 else .ok p e2
def mOrV (a b : Mo PV) : Mo PV := fun e => (a e).bind fun p e1 => (lift (truth p) e1).bind fun k e2 => if k = true then .ok p e2 else b e2
def mNotV (a : Mo PV) : Mo PV := fun e => (a e).bind fun p e1 => (lift (truth p) e1).bind fun k e2 => .ok (.bl (!k)) e2
theorem pm_andV {a b : Expr} {rest : List Expr} {m m' : Mo PV} {pos : Pos} (ha : PE X a (rd F ow m)) (hb : PE X (.BoolOp .And (b :: rest) pos) (rd F ow m')) (hS : F.S = ⟨X.K, X.mg, F.S.T⟩ := by rfl) : PE X (.BoolOp .And (a :: b :: rest) pos) (rd F ow (mAndV m m')) :=
  (pe_andT ha hb).imp fun σ H Q ⟨e, R, p⟩ => by
    refine ⟨e, R, (Post.unbind p).mono fun p1 e1 H1 k1 R1 q1 x rx => ?_⟩
    obtain ⟨k, hk, q2⟩ := (Post.unbind q1).of_lift R1
    have z := rx.tru hk
    rw [hS] at z
    have q3 := q2 H1 fun _ _ z => z
    refine ⟨k, z, ?_⟩
    cases k with
    | true => exact ⟨e1, R1, q3⟩
    | false => exact q3 H1 Keep.refl R1 x rx
theorem pm_orV {a b : Expr} {rest : List Expr} {m m' : Mo PV} {pos : Pos} (ha : PE X a (rd F ow m)) (hb : PE X (.BoolOp .Or (b :: rest) pos) (rd F ow m')) (hS : F.S = ⟨X.K, X.mg, F.S.T⟩ := by rfl) : PE X (.BoolOp .Or (a :: b :: rest) pos) (rd F ow (mOrV m m')) :=
  (pe_orT ha hb).imp fun σ H Q ⟨e, R, p⟩ => by
    refine ⟨e, R, (Post.unbind p).mono fun p1 e1 H1 k1 R1 q1 x rx => ?_⟩
    obtain ⟨k, hk, q2⟩ := (Post.unbind q1).of_lift R1
    have z := rx.tru hk
    rw [hS] at z
    have q3 := q2 H1 fun _ _ z => z
    refine ⟨k, z, ?_⟩
    cases k with
    | false => exact ⟨e1, R1, q3⟩
    | true => exact q3 H1 Keep.refl R1 x rx
theorem pm_notV {a : Expr} {m : Mo PV} {pos : Pos} (ha : PE X a (rd F ow m)) (hS : F.S = ⟨X.K, X.mg, F.S.T⟩ := by rfl) : PE X (.UnaryOp .Not a pos) (rd F ow (mNotV m)) :=
  (pe_notT ha).imp fun σ H Q ⟨e, R, p⟩ => by
    refine ⟨e, R, (Post.unbind p).mono fun p1 e1 H1 k1 R1 q1 x rx => ?_⟩
    obtain ⟨k, hk, q2⟩ := (Post.unbind q1).of_lift R1
    have z := rx.tru hk
    rw [hS] at z
    exact ⟨k, z, q2 H1 (fun _ _ z => z) H1 Keep.refl R1 _ (.bl _)⟩
/-- a if t else b -/
def mIf (t : Mo Bool) (a b : Mo PV) : Mo PV := fun e => (t e).bind fun k e1 => if k = true then a e1 else b e1
theorem pm_if {c a b : Expr} {t : Mo Bool} {m m' : Mo PV} {pos : Pos} (hc : PT X c (rdT F ow t)) (ha : PE X a (rd F ow m)) (hb : PE X b (rd F ow m')) : PE X (.IfExp c a b pos) (rd F ow (mIf t m m')) :=
  (pe_ifExp hc ha hb).imp fun σ H Q ⟨e, R, p⟩ => by
    refine ⟨e, R, (Post.unbind p).mono fun k e1 H1 k1 R1 q1 => ?_⟩
    cases k with
    | true => exact ⟨e1, R1, q1⟩
    | false => exact ⟨e1, R1, q1⟩
/-- a op b op' c -/
def mChain (g g' : PV → PV → Option PV) (ma mb mc : Mo PV) : Mo PV := fun e => (ma e).bind fun a e1 => (mb e1).bind fun b e2 => (lift ((g a b).bind isB) e2).bind fun k e3 => if k = true then (mc e3).bind fun c e4 => lift (g' b c) e4 else .ok (.bl false) e3
theorem chain_go {g g' : PV → PV → Option PV} {ma mb mc : Mo PV} {σ : L2.St} {H : Hp} {Q : VK} (h : rd F ow (mChain g g' ma mb mc) σ H Q) :
    tChain (fun x y H Q => ∃ (O : Addr → Prop) (a b c : PV), Pre H O ∧ RV F.S H O x a ∧ RV F.S H O y b ∧ g a b = some c ∧ ∀ v H', (∀ z u, H z = some u → H' z = some u) → RV F.S H' O v c → Q v H')
      (fun x y H Q => ∃ (O : Addr → Prop) (a b c : PV), Pre H O ∧ RV F.S H O x a ∧ RV F.S H O y b ∧ g' a b = some c ∧ ∀ v H', (∀ z u, H z = some u → H' z = some u) → RV F.S H' O v c → Q v H') (rd F ow ma) (rd F ow mb) (rd F ow mc) σ H Q := by
  obtain ⟨e, R, p⟩ := h
  refine ⟨e, R, (Post.unbind p).mono fun a e1 H1 k1 R1 p1 x rx => ⟨e1, R1, (Post.unbind p1).mono fun b e2 H2 k2 R2 p2 y ry => ?_⟩⟩
  obtain ⟨k, hk, q⟩ := (Post.unbind p2).of_lift R2
  cases hg : g a b with
  | none => rw [hg] at hk; cases hk
  | some c =>
    rw [hg] at hk
    have hc := isB_some (show isB c = some k from hk)
    subst hc
    refine ⟨Gd F.G ow σ, a, b, _, R2.tracked, rx.mono k2.gd Less.refl, ry, hg, fun v H3 k3 rv => ?_⟩
    cases rv
    refine ⟨k, rfl, ?_⟩
    have q3 := q H3 k3
    have R3 := R2.keep k3
    cases k with
    | false => exact q3 H3 Keep.refl R3 _ (.bl _)
    | true =>
      refine ⟨e2, R3, (Post.unbind (show Post F ow σ H3 ((mc e2).bind fun c e4 => lift (g' b c) e4) _ from q3)).mono fun c e4 H4 k4 R4 p4 z rz => ?_⟩
      obtain ⟨c', hc', q4⟩ := p4.of_lift R4
      exact ⟨Gd F.G ow σ, b, c, c', R4.tracked, (ry.mono (Keep.all k3) Less.refl).mono k4.gd Less.refl, rz, hc', fun v H' k rv => q4 H' k v rv⟩
theorem pm_tchain {a b c : Expr} {op op' : CmpOp} {g g' : PV → PV → Option PV} {ma mb mc : Mo PV} {pos : Pos} (h : BinOk X F (compareOp op) g) (h' : BinOk X F (compareOp op') g') (ha : PE X a (rd F ow ma)) (hb : PE X b (rd F ow mb)) (hc : PE X c (rd F ow mc))
    (hm : lastMarks [op, op'] [b, c] = false := by rfl) : PT X (.Compare a [op, op'] [b, c] pos) (rdT F ow (mTB (mChain g g' ma mb mc))) :=
  (pt_chain (bin_end h) (bin_end h') ha hb hc hm).imp fun σ H Q h => chain_go (tb_go h)
end
end M

namespace M
open PySem PySem.Spec PyProof.Rows L2

section
variable {X : Cx} {F : Fm} {ow : List Nat}
/-! ### arithmetic -/
def pIV (g : Int → Int → PV) : PV → PV → Option PV
  | .int i, .int j => some (g i j)
  | _, _ => none
abbrev pI (g : Int → Int → Int) : PV → PV → Option PV := pIV fun i j => .int (g i j)
abbrev pB (g : Int → Int → Bool) : PV → PV → Option PV := pIV fun i j => .bl (g i j)
def pIc (C : Int → Int → Prop) [DecidableRel C] (g : Int → Int → Int) : PV → PV → Option PV
  | .int i, .int j => if C i j then some (.int (g i j)) else none
  | _, _ => none
theorem bin_ints {f : Value → Value → Sem Value} {g : Int → Int → V} {g' : Int → Int → PV} (h : OpR X f (rI0 g)) (hg : ∀ i j S H O, RV S H O (g i j) (g' i j)) : BinOk X F f (pIV g') := by
  intro O
  refine ⟨_, h, fun H x y a b c Q hp ra rb e q => ?_⟩
  unfold pIV at e
  split at e
  · rename_i i j
    cases e
    cases ra
    cases rb
    exact ⟨i, j, rfl, rfl, q _ H (fun _ _ z => z) (hg ..)⟩
  · cases e
theorem bin_intsC {f : Value → Value → Sem Value} {C : Int → Int → Prop} [DecidableRel C] {g : Int → Int → Int} (h : OpR X f (rI C fun i j => .int (g i j))) : BinOk X F f (pIc C g) := by
  intro O
  refine ⟨_, h, fun H x y a b c Q hp ra rb e q => ?_⟩
  unfold pIc at e
  split at e
  · rename_i i j
    split at e
    · rename_i hc
      cases e
      cases ra
      cases rb
      exact ⟨i, j, rfl, rfl, hc, q _ H (fun _ _ z => z) (.int _)⟩
    · cases e
  · cases e
/-- either of two -/
def pOr (g g' : PV → PV → Option PV) : PV → PV → Option PV := fun a b => match g a b with
  | some c => some c
  | none => g' a b
theorem BinOk.or {f : Value → Value → Sem Value} {g g' : PV → PV → Option PV} (h : BinOk X F f g) (h' : BinOk X F f g') : BinOk X F f (pOr g g') := by
  intro O
  obtain ⟨r, hr, k⟩ := h O
  obtain ⟨r', hr', k'⟩ := h' O
  refine ⟨_, hr.or hr', fun H x y a b c Q hp ra rb e q => ?_⟩
  unfold pOr at e
  split at e
  · rename_i c' hc
    cases e
    exact .inl (k H x y a b _ Q hp ra rb hc q)
  · exact .inr (k' H x y a b c Q hp ra rb e q)
theorem bin_sub : BinOk X F (binaryOp .Sub) (pI fun i j => i - j) := bin_ints op_sub fun _ _ _ _ _ => .int _
theorem bin_addI : BinOk X F (binaryOp .Add) (pI fun i j => i + j) := bin_ints op_add fun _ _ _ _ _ => .int _
instance : DecidableRel CMulW := fun _ _ => by unfold CMulW; infer_instance
instance : DecidableRel CDivW := fun _ _ => by unfold CDivW; infer_instance
instance : DecidableRel CPow := fun _ _ => by unfold CPow; infer_instance
theorem bin_mulI : BinOk X F (binaryOp .Mult) (pIc CMulW fun i j => i * j) := bin_intsC op_mulW
theorem bin_div : BinOk X F (binaryOp .FloorDiv) (pIc CDivW fun i j => i / j) := bin_intsC op_fdivW
def CPos (_ j : Int) : Prop := 0 < j
instance : DecidableRel CPos := fun _ _ => by unfold CPos; infer_instance
theorem bin_mod : BinOk X F (binaryOp .Mod) (pIc CPos fun i j => i % j) := bin_intsC op_mod
theorem bin_lt : BinOk X F (compareOp .Lt) (pB fun i j => decide (i < j)) := bin_ints op_lt fun _ _ _ _ _ => .bl _
theorem bin_le : BinOk X F (compareOp .LtE) (pB fun i j => decide (i ≤ j)) := bin_ints op_le fun _ _ _ _ _ => .bl _
theorem bin_gt : BinOk X F (compareOp .Gt) (pB fun i j => decide (j < i)) := bin_ints op_gt fun _ _ _ _ _ => .bl _

/-! ### lists, tuples, texts put together -/
def pCatL : PV → PV → Option PV
  | .lst a, .lst b => if a.length + b.length ≤ sizeLine then some (.lst (a ++ b)) else none
  | _, _ => none
def pCatT : PV → PV → Option PV
  | .tup a, .tup b => if a.length + b.length ≤ sizeLine then some (.tup (a ++ b)) else none
  | _, _ => none
def pCatS : PV → PV → Option PV
  | .str a, .str b => if a.length + b.length ≤ sizeLine then some (.str (a ++ b)) else none
  | _, _ => none
theorem bin_catL : BinOk X F (binaryOp .Add) pCatL := by
  intro O
  refine ⟨_, op_cat, fun H x y a b c Q hp ra rb e q => ?_⟩
  unfold pCatL at e
  split at e
  · rename_i a b
    split at e
    · rename_i hc
      cases e
      obtain ⟨p1, vs, rfl, h1, t1⟩ := ra.isL
      obtain ⟨p2, ws, rfl, h2, t2⟩ := rb.isL
      refine ⟨_, _, _, _, rfl, rfl, h1, h2, by rw [t1.length, t2.length]; exact hc, fun p hn => q _ _ (fun z u e => ?_) ((t1.append t2).newL hn hp)⟩
      rw [upd_ne (ne_of_none e hn)]; exact e
    · cases e
  · cases e
theorem RVs.empty {S : Se} {H : Hp} {O : Addr → Prop} {vs : List V} (r : RVs S H O vs []) : vs = [] := by cases r; rfl
theorem RVs.emptyL {S : Se} {H : Hp} {O : Addr → Prop} {l : List PV} (r : RVs S H O [] l) : l = [] := by cases r; rfl
theorem bin_catT (hS : F.S = ⟨X.K, X.mg, F.S.T⟩ := by rfl) : BinOk X F (binaryOp .Add) pCatT := by
  intro O
  refine ⟨_, op_catA, fun H x y a b c Q hp ra rb e q => ?_⟩
  unfold pCatT at e
  split at e
  · rename_i a b
    split at e
    · rename_i hc
      cases e
      obtain ⟨p1, vs, rfl, h1, t1⟩ := ra.isT
      obtain ⟨p2, ws, rfl, h2, t2⟩ := rb.isT
      have hK : F.S.K = X.K := by rw [hS]
      rw [hK] at h1 h2
      refine ⟨_, _, _, _, rfl, rfl, h1, h2, by rw [t1.length, t2.length]; exact hc, fun e1 => ?_, fun e1 e2 => ?_, fun e1 e2 p hn => q _ _ (fun z u e => ?_) ((t1.append t2).newT hn hp)⟩
      · subst e1
        have := t1.emptyL
        subst this
        exact q _ H (fun _ _ z => z) (by simpa using rb)
      · subst e2
        have := t2.emptyL
        subst this
        exact q _ H (fun _ _ z => z) (by simpa using ra)
      · rw [upd_ne (ne_of_none e hn)]; exact e
    · cases e
  · cases e
theorem bin_catS : BinOk X F (binaryOp .Add) pCatS := by
  intro O
  refine ⟨_, op_add_str, fun H x y a b c Q hp ra rb e q => ?_⟩
  unfold pCatS at e
  split at e
  · rename_i a b
    split at e
    · rename_i hc
      cases e
      cases ra
      cases rb
      exact ⟨_, _, rfl, rfl, hc, q _ H (fun _ _ z => z) (.str _)⟩
    · cases e
  · cases e
def pAdd : PV → PV → Option PV
  | .int i, .int j => some (.int (i + j))
  | .lst a, .lst b => if a.length + b.length ≤ sizeLine then some (.lst (a ++ b)) else none
  | .tup a, .tup b => if a.length + b.length ≤ sizeLine then some (.tup (a ++ b)) else none
  | .str a, .str b => if a.length + b.length ≤ sizeLine then some (.str (a ++ b)) else none
  | _, _ => none
theorem BinOk.eq {f : Value → Value → Sem Value} {g g' : PV → PV → Option PV} (h : BinOk X F f g) (e : ∀ a b c, g' a b = some c → g a b = some c) : BinOk X F f g' := by
  intro O
  obtain ⟨r, hr, k⟩ := h O
  exact ⟨r, hr, fun H x y a b c Q hp ra rb e1 q => k H x y a b c Q hp ra rb (e a b c e1) q⟩
theorem bin_add (hS : F.S = ⟨X.K, X.mg, F.S.T⟩ := by rfl) : BinOk X F (binaryOp .Add) pAdd := by
  refine (bin_addI.or (bin_catL.or ((bin_catT hS).or bin_catS))).eq fun a b c h => ?_
  unfold pAdd at h
  split at h
  · exact h
  · simp only [pOr, pIV, pCatL]
    split at h
    · rename_i z; rw [if_pos z]; exact h
    · cases h
  · simp only [pOr, pIV, pCatL, pCatT]
    split at h
    · rename_i z; rw [if_pos z]; exact h
    · cases h
  · exact h
  · cases h
/-- xs * k -/
def pRepL : PV → PV → Option PV
  | .lst a, .int k => if -2 ^ 63 ≤ k ∧ k < 2 ^ 63 ∧ a.length * k.toNat ≤ sizeLine then some (.lst (List.replicate k.toNat a).flatten) else none
  | _, _ => none
/-- a tuple many times over, up to a million items -/
def rRepM (K : PySem.W.Frag) : R2 := fun x y H Q => ∃ l k xs, x = .ref l ∧ y = .int k ∧ SqT K H l xs ∧ xs ≠ [] ∧ 2 ≤ k ∧ xs.length * k.toNat ≤ 1000000 ∧ ∀ p, H p = none → Q (.ref p) (upd H p (.tup (List.replicate k.toNat xs).flatten))
theorem op_repM : OpR X (binaryOp .Mult) (rRepM X.K) := by
  intro pins s σ H x y v u Q I rx ry h
  obtain ⟨l, k, xs, rfl, rfl, hT, hne, h1, h2, q⟩ := h
  cases rx
  obtain ⟨t, rfl⟩ := ry
  obtain ⟨its, r, ⟨⟨cls, dd, data, sl⟩, ho, hc, n, hd⟩, hs⟩ := I.tuple hT
  simp only at hc hd
  subst hc hd
  have hle : its.length = xs.length := r.length.symm
  have hpos : 0 < xs.length := List.length_pos_iff.2 hne
  have hi : its.toArray.isEmpty = false := by
    cases its with
    | nil => simp at hle; omega
    | cons a b => rfl
  obtain ⟨m, rfl⟩ : ∃ m : Nat, k = m := ⟨k.toNat, by omega⟩
  simp only [Int.toNat_natCast] at h2 q ⊢
  have hm0 : its.toArray.size * m ≤ 1000000 := by rw [List.size_toArray, hle]; exact h2
  have hmi : ((its.toArray.size : Nat) : Int) * (m : Int) ≤ 1000000 := by
    rw [← Int.natCast_mul]
    exact Int.ofNat_le.2 hm0
  have hml : m ≤ 1000000 := Nat.le_trans (Nat.le_mul_of_pos_left m hpos) h2
  have flen : (List.replicate m its).flatten.length ≤ sizeLine := by
    rw [PyProof.Rows.lm_len_rep_flat, hle, sizeLine_eq, Nat.mul_comm]
    omega
  have c0 : (decide ((m : Int) < -(2 ^ 63)) || decide ((m : Int) ≥ 2 ^ 63)) = false := by
    rw [decide_eq_false (by omega), decide_eq_false (by omega)] <;> rfl
  have c1 : (its.toArray.isEmpty || (m : Int) == 1) = false := by
    rw [hi, Bool.false_or]
    exact beq_eq_false_iff_ne.mpr (by omega)
  have c2 : (decide ((m : Int) ≤ 0) || its.toArray.isEmpty) = false := by
    rw [hi, Bool.or_false]
    exact decide_eq_false (by omega)
  have c4 : Builtin.Tuple.tupleTooMany (((its.toArray.size : Nat) : Int) * (m : Int)) = false := by
    unfold Builtin.Tuple.tupleTooMany
    rw [sizeLine_eq]
    exact decide_eq_false (by omega)
  refine wpAny_binaryOp_repeat_ref (T := "tuple") (U := "int") (by decide) ⟨_, ho, rfl⟩ (fun s' => typeIs_int s' m t) noFill_tuple_mul F.fills_int_mul F.slot_int_rmul repeat_tuple F.slot_int_index.lookup
    (call_meets F.slot_int_rmul (typeIs_int s m t) F.entry_int_rmul (F.args_int_rmul_2 _ _) (int_rmul_tuple m t l its.toArray n dd sl)
      ⟨ho, rfl, ⟨_, ho, rfl⟩, call_meets F.slot_tuple_mul ⟨_, ho, rfl⟩ F.entry_tuple_mul (F.args_tuple_mul_2 _ _) (tuple_mulW l its.toArray n dd sl m t c0 c1 c2 (by omega) c4 (by rw [size_rep, List.size_toArray, Int.toNat_natCast]; exact flen)) ⟨ho, ?_⟩⟩)
  rw [size_rep, Int.toNat_natCast]
  refine ⟨.ref s.heap.objs.size, _, I.laid (t' := s.toks) (o := .tup (List.replicate m xs).flatten) (fun b ob q => Heap.get?_push_of_some _ q) (Nat.le_refl _) ?_, rfl, q _ (I.hok.fresh (Nat.le_refl _))⟩
  exact ⟨by rw [PyProof.Rows.lm_len_rep_flat, sizeLine_eq, Nat.mul_comm]; omega, _, r.rep m, IsTup.new _ _⟩
def pRepT : PV → PV → Option PV
  | .tup a, .int k => if a ≠ [] ∧ 2 ≤ k ∧ a.length * k.toNat ≤ 1000000 then some (.tup (List.replicate k.toNat a).flatten) else none
  | _, _ => none
theorem RVs.rep {S : Se} {H : Hp} {O : Addr → Prop} {vs : List V} {l : List PV} (r : RVs S H O vs l) : ∀ n : Nat, RVs S H O (List.replicate n vs).flatten (List.replicate n l).flatten
  | 0 => .nil
  | n + 1 => by
    rw [List.replicate_succ, List.replicate_succ, List.flatten_cons, List.flatten_cons]
    exact r.append (RVs.rep r n)
theorem bin_repL : BinOk X F (binaryOp .Mult) pRepL := by
  intro O
  refine ⟨_, op_rep, fun H x y a b c Q hp ra rb e q => ?_⟩
  unfold pRepL at e
  split at e
  · rename_i a k
    split at e
    · rename_i hc
      cases e
      obtain ⟨p1, vs, rfl, h1, t1⟩ := ra.isL
      cases rb
      refine ⟨_, _, _, rfl, rfl, h1, hc.1, hc.2.1, by rw [t1.length]; exact hc.2.2, fun p hn => q _ _ (fun z u e => ?_) ((t1.rep _).newL hn hp)⟩
      rw [upd_ne (ne_of_none e hn)]; exact e
    · cases e
  · cases e
theorem bin_repT (hS : F.S = ⟨X.K, X.mg, F.S.T⟩ := by rfl) : BinOk X F (binaryOp .Mult) pRepT := by
  intro O
  refine ⟨_, op_repM, fun H x y a b c Q hp ra rb e q => ?_⟩
  unfold pRepT at e
  split at e
  · rename_i a k
    split at e
    · rename_i hc
      cases e
      obtain ⟨p1, vs, rfl, h1, t1⟩ := ra.isT
      cases rb
      have hK : F.S.K = X.K := by rw [hS]
      rw [hK] at h1
      refine ⟨_, _, _, rfl, rfl, h1, fun z => ?_, hc.2.1, by rw [t1.length]; exact hc.2.2, fun p hn => q _ _ (fun z u e => ?_) ((t1.rep _).newT hn hp)⟩
      · subst z; exact hc.1 t1.emptyL
      · rw [upd_ne (ne_of_none e hn)]; exact e
    · cases e
  · cases e
def pMul : PV → PV → Option PV
  | .int i, .int j => if CMulW i j then some (.int (i * j)) else none
  | .lst a, .int k => if -2 ^ 63 ≤ k ∧ k < 2 ^ 63 ∧ a.length * k.toNat ≤ sizeLine then some (.lst (List.replicate k.toNat a).flatten) else none
  | .tup a, .int k => if a ≠ [] ∧ 2 ≤ k ∧ a.length * k.toNat ≤ 1000000 then some (.tup (List.replicate k.toNat a).flatten) else none
  | _, _ => none
theorem bin_mul (hS : F.S = ⟨X.K, X.mg, F.S.T⟩ := by rfl) : BinOk X F (binaryOp .Mult) pMul := by
  refine (bin_mulI.or (bin_repL.or (bin_repT hS))).eq fun a b c h => ?_
  unfold pMul at h
  split at h
  · simp only [pOr, pIc]
    split at h
    · rename_i z; rw [if_pos z]; exact h
    · cases h
  · simp only [pOr, pIc, pRepL]
    split at h
    · rename_i z; rw [if_pos z]; exact h
    · cases h
  · simp only [pOr, pIc, pRepL, pRepT]
    exact h
  · cases h

/-! ### == != is in -/
def pEq : PV → PV → Option PV := fun a b => (eqD a b).map .bl
def pNe : PV → PV → Option PV := fun a b => (eqD a b).map fun k => .bl (!k)
theorem bin_eq (hu : X.A.units + 64 < cLine) (hS : F.S = ⟨X.K, X.mg, F.S.T⟩ := by rfl) : BinOk X F (compareOp .Eq) pEq := by
  intro O
  refine ⟨_, op_eqD hu, fun H x y a b c Q hp ra rb e q => ?_⟩
  have hK : F.S.K = X.K := by rw [hS]
  unfold pEq at e
  cases h : eqD a b with
  | none => rw [h] at e; cases e
  | some k =>
    rw [h] at e
    cases e
    obtain ⟨d, d', h1, h2, h3, h4, h5⟩ := eqD_some h
    refine ⟨d, d', hK ▸ ra.dp h1, hK ▸ rb.dp h2, h3, h4, ?_⟩
    rw [h5]
    exact q _ H (fun _ _ z => z) (.bl _)
theorem bin_ne (hu : X.A.units + 64 < cLine) (hS : F.S = ⟨X.K, X.mg, F.S.T⟩ := by rfl) : BinOk X F (compareOp .NotEq) pNe := by
  intro O
  refine ⟨_, op_neD hu, fun H x y a b c Q hp ra rb e q => ?_⟩
  have hK : F.S.K = X.K := by rw [hS]
  unfold pNe at e
  cases h : eqD a b with
  | none => rw [h] at e; cases e
  | some k =>
    rw [h] at e
    cases e
    obtain ⟨d, d', h1, h2, h3, h4, h5⟩ := eqD_some h
    refine ⟨d, d', hK ▸ ra.dp h1, hK ▸ rb.dp h2, h3, h4, ?_⟩
    rw [h5]
    exact q _ H (fun _ _ z => z) (.bl _)
/-- is None -/
def isNn : PV → Option Bool
  | .non => some true
  | .gl _ => none
  | _ => some false
def pIsN : PV → PV → Option PV
  | a, .non => (isNn a).map .bl
  | _, _ => none
def pNotN : PV → PV → Option PV
  | a, .non => (isNn a).map fun k => .bl (!k)
  | _, _ => none
theorem RV.isNn {S : Se} {H : Hp} {O : Addr → Prop} {v : V} {p : PV} {k : Bool} (r : RV S H O v p) (h : isNn p = some k) : decide (v = .non) = k := by
  cases r <;> (simp only [M.isNn] at h; first | (cases h; done) | (cases h; simp))
theorem bin_isN : BinOk X F (compareOp .Is) pIsN := by
  intro O
  refine ⟨_, op_isN, fun H x y a b c Q hp ra rb e q => ?_⟩
  cases b with
  | non =>
    cases rb
    simp only [pIsN] at e
    cases h : isNn a with
    | none => rw [h] at e; cases e
    | some k =>
      rw [h] at e
      cases e
      refine ⟨rfl, ?_⟩
      rw [ra.isNn h]
      exact q _ H (fun _ _ z => z) (.bl _)
  | _ => simp [pIsN] at e
theorem bin_notN : BinOk X F (compareOp .IsNot) pNotN := by
  intro O
  refine ⟨_, op_notN, fun H x y a b c Q hp ra rb e q => ?_⟩
  cases b with
  | non =>
    cases rb
    simp only [pNotN] at e
    cases h : isNn a with
    | none => rw [h] at e; cases e
    | some k =>
      rw [h] at e
      cases e
      refine ⟨rfl, ?_⟩
      rw [ra.isNn h]
      exact q _ H (fun _ _ z => z) (.bl _)
  | _ => simp [pNotN] at e
/-- is True, is False of bools -/
def pIsB : PV → PV → Option PV
  | .bl a, .bl b => some (.bl (decide (a = b)))
  | _, _ => none
end

/-! ### in, not in: a list or tuple of data -/
section
variable {X : Cx} {F : Fm} {ow : List Nat}
def inD (x c : PV) : Option Bool := match toD x, toD c with
  | some d, some (.list ds) => if SeqAt.shaped d && SeqAt.shaped (.list ds) then some (ds.any fun z => z.eqv d) else none
  | some d, some (.tuple ds) => if SeqAt.shaped d && SeqAt.shaped (.tuple ds) then some (ds.any fun z => z.eqv d) else none
  | _, _ => none
theorem inD_some {x c : PV} {k : Bool} (h : inD x c = some k) : ∃ d ds e, toD x = some d ∧ toD c = some e ∧ (e = .list ds ∨ e = .tuple ds) ∧ SeqAt.shaped d = true ∧ SeqAt.shaped e = true ∧ (ds.any fun z => z.eqv d) = k := by
  unfold inD at h
  split at h
  · rename_i d ds h1 h2
    split at h
    · rename_i h3
      rw [Bool.and_eq_true] at h3
      cases h
      exact ⟨d, ds, _, h1, h2, .inl rfl, h3.1, h3.2, rfl⟩
    · cases h
  · rename_i d ds h1 h2
    split at h
    · rename_i h3
      rw [Bool.and_eq_true] at h3
      cases h
      exact ⟨d, ds, _, h1, h2, .inr rfl, h3.1, h3.2, rfl⟩
    · cases h
  · cases h
def rInA (K : PySem.W.Frag) (neg : Bool) : R2 := fun x y H Q => ∃ d ds e, Dp K H x d ∧ Dp K H y e ∧ (e = .list ds ∨ e = .tuple ds) ∧ SeqAt.shaped d = true ∧ SeqAt.shaped e = true ∧ Q (.bl (if neg then !(ds.any fun z => z.eqv d) else ds.any fun z => z.eqv d)) H
theorem tup_shaped {ds : List PyData} (h : SeqAt.shaped (.tuple ds) = true) : SeqAt.shaped (.list ds) = true := by
  unfold SeqAt.shaped at *
  simp only [PyData.canLay0, PyData.depth] at *
  exact h
theorem in_room {A : Around} {d : PyData} {ds : List PyData} (sd : SeqAt.shaped d = true) (hu : A.units + 65 < cLine) : A.units + 1 + min (PyData.depthAll ds) d.depth < cLine := by
  have h1 := SeqAt.depth_of_shaped sd
  have h2 : min (PyData.depthAll ds) d.depth ≤ d.depth := Nat.min_le_right _ _
  omega
theorem op_inA (hu : X.A.units + 65 < cLine) : OpR X (compareOp .In) (rInA X.K false) := by
  intro pins s σ H x y v u Q I rx ry h
  obtain ⟨d, ds, e, hd, he, hc, sd, se, q⟩ := h
  obtain ⟨as, r1⟩ := Dp.reads I d x v hd rx
  obtain ⟨bs, r2⟩ := Dp.reads I e y u he ry
  rcases hc with rfl | rfl
  · exact SeqAt.in_list_reads r2 r1 (SeqAt.canLay_of_shaped se) (SeqAt.canLay_of_shaped sd) (in_room sd hu) ⟨.bl _, H, I, rfl, q⟩
  · exact SeqAt.in_tuple_reads r2 r1 (SeqAt.canLay_of_shaped (tup_shaped se)) (SeqAt.canLay_of_shaped sd) (in_room sd hu) ⟨.bl _, H, I, rfl, q⟩
def pIn : PV → PV → Option PV := fun x c => (inD x c).map .bl
def pNotIn : PV → PV → Option PV := fun x c => (inD x c).map fun k => .bl (!k)
theorem bin_in (hu : X.A.units + 65 < cLine) (hS : F.S = ⟨X.K, X.mg, F.S.T⟩ := by rfl) : BinOk X F (compareOp .In) pIn := by
  intro O
  refine ⟨_, op_inA hu, fun H x y a b c Q hp ra rb e q => ?_⟩
  have hK : F.S.K = X.K := by rw [hS]
  unfold pIn at e
  cases h : inD a b with
  | none => rw [h] at e; cases e
  | some k =>
    rw [h] at e
    cases e
    obtain ⟨d, ds, d', h1, h2, h3, h4, h5, h6⟩ := inD_some h
    refine ⟨d, ds, d', hK ▸ ra.dp h1, hK ▸ rb.dp h2, h3, h4, h5, ?_⟩
    rw [h6]
    exact q _ H (fun _ _ z => z) (.bl _)
end
end M

namespace M
open PySem PySem.Spec PyProof.Rows L2

section
variable {X : Cx} {F : Fm} {ow : List Nat}
/-! ### argument lists, displays -/
def mNil : Mo (List PV) := fun e => .ok [] e
def mCons (m : Mo PV) (ml : Mo (List PV)) : Mo (List PV) := fun e => (m e).bind fun p e1 => (ml e1).bind fun l e2 => .ok (p :: l) e2
theorem pma_nil : PA X [] (rdA F ow mNil) := pa_nil.imp fun σ H Q ⟨e, R, p⟩ => p H Keep.refl R [] .nil
theorem cons_go {m : Mo PV} {ml : Mo (List PV)} {σ : L2.St} {H : Hp} {Q : List V → Hp → Prop} (h : rdA F ow (mCons m ml) σ H Q) : tCons (rd F ow m) (rdA F ow ml) σ H Q := by
  obtain ⟨e, R, p⟩ := h
  refine ⟨e, R, (Post.unbind p).mono fun a e1 H1 k1 R1 p1 x rx => ⟨e1, R1, (Post.unbind p1).mono fun l e2 H2 k2 R2 p2 xs rs => ?_⟩⟩
  exact p2 H2 Keep.refl R2 _ (.cons (rx.mono k2.gd Less.refl) rs)
theorem pma_cons {a : Expr} {es : List Expr} {m : Mo PV} {ml : Mo (List PV)} (ha : PE X a (rd F ow m)) (hr : PA X es (rdA F ow ml)) (hs : starEach (a :: es) X.env = (false, eval a X.env) :: starEach es X.env := by rfl) : PA X (a :: es) (rdA F ow (mCons m ml)) :=
  (pa_cons ha hr hs).imp fun σ H Q h => cons_go h
def mTup (ml : Mo (List PV)) : Mo PV := fun e => (ml e).bind fun l e1 => lift (if l.length ≤ 1000 then some (.tup l) else none) e1
def mLst (ml : Mo (List PV)) : Mo PV := fun e => (ml e).bind fun l e1 => lift (if l.length ≤ 1000 then some (.lst l) else none) e1
theorem line1000 : 1000 ≤ sizeLine := by rw [sizeLine_eq]; decide
theorem upd_keep {H : Hp} {p : Addr} {o : HO} (hn : H p = none) : ∀ z u, H z = some u → upd H p o z = some u := fun z u e => by rw [upd_ne (ne_of_none e hn)]; exact e
theorem pm_tup {es : List Expr} {ml : Mo (List PV)} {k : Nat} {pos : Pos} (h : PA X es (rdA F ow ml)) : PE X (.Tuple es k pos) (rd F ow (mTup ml)) :=
  (pe_tup h).imp fun σ H Q ⟨e, R, p⟩ => by
    refine ⟨e, R, (Post.unbind p).mono fun l e1 H1 k1 R1 p1 xs rs => ?_⟩
    obtain ⟨c, hc, q⟩ := p1.of_lift R1
    split at hc
    · rename_i hl
      cases hc
      refine ⟨by rw [rs.length]; exact Nat.le_trans hl line1000, fun p hn => ?_⟩
      exact q _ (upd_keep hn) _ (rs.newT hn R1.tracked)
    · cases hc
theorem pm_lst {es : List Expr} {ml : Mo (List PV)} {pos : Pos} (h : PA X es (rdA F ow ml)) : PE X (.List es pos) (rd F ow (mLst ml)) :=
  (pe_lst h).imp fun σ H Q ⟨e, R, p⟩ => by
    refine ⟨e, R, (Post.unbind p).mono fun l e1 H1 k1 R1 p1 xs rs => ?_⟩
    obtain ⟨c, hc, q⟩ := p1.of_lift R1
    split at hc
    · rename_i hl
      cases hc
      refine ⟨by rw [rs.length]; exact Nat.le_trans hl line1000, fun p hn => ?_⟩
      exact q _ (upd_keep hn) _ (rs.newL hn R1.tracked)
    · cases hc

/-! ### one-place operations -/
def mNeg (m : Mo PV) : Mo PV := fun e => (m e).bind fun p e1 => lift (match p with | .int i => some (.int (-i)) | _ => none) e1
theorem pm_neg {a : Expr} {m : Mo PV} {pos : Pos} (ha : PE X a (rd F ow m)) : PE X (.UnaryOp .USub a pos) (rd F ow (mNeg m)) :=
  (pe_un un_neg ha).imp fun σ H Q ⟨e, R, p⟩ => by
    refine ⟨e, R, (Post.unbind p).mono fun p1 e1 H1 k1 R1 q1 x rx => ?_⟩
    obtain ⟨c, hc, q⟩ := q1.of_lift R1
    split at hc
    · cases hc
      cases rx
      exact ⟨_, rfl, q H1 (fun _ _ z => z) _ (.int _)⟩
    · cases hc

/-! ### places, parts -/
def pIx : PV → PV → Option PV
  | .tup l, .int i => atI l i
  | .lst l, .int i => atI l i
  | .fz l, .int i => atI l i
  | _, _ => none
theorem RVs.atI {S : Se} {H : Hp} {O : Addr → Prop} {vs : List V} {l : List PV} {i : Int} {p : PV} (r : RVs S H O vs l) (h : atI l i = some p) : ∃ v, L2.atI vs i = some v ∧ RV S H O v p := by
  unfold L2.atI at *
  rw [r.length]
  cases q : ixN l.length i with
  | none => rw [q] at h; cases h
  | some j => rw [q] at h; exact r.get h
theorem ix_end : IxR X fun x y H Q => ∃ (O : Addr → Prop) (a b c : PV), Pre H O ∧ RV ⟨X.K, X.mg, F.S.T⟩ H O x a ∧ RV ⟨X.K, X.mg, F.S.T⟩ H O y b ∧ pIx a b = some c ∧ ∀ v H', (∀ z u, H z = some u → H' z = some u) → RV ⟨X.K, X.mg, F.S.T⟩ H' O v c → Q v H' := by
  intro value slice pins s σ H x y v u Q I rx ry ⟨O, a, b, c, p, ra, rb, e, q⟩ hs
  refine ix_seq value slice pins s σ H x y v u Q I rx ry ?_ hs
  unfold pIx at e
  split at e
  · obtain ⟨p1, vs, rfl, h1, t1⟩ := ra.isT
    cases rb
    obtain ⟨w, h2, h3⟩ := t1.atI e
    exact .inr (.inl ⟨_, _, _, _, rfl, rfl, h1, h2, q w H (fun _ _ z => z) h3⟩)
  · obtain ⟨p1, vs, rfl, h1, t1⟩ := ra.isL
    cases rb
    obtain ⟨w, h2, h3⟩ := t1.atI e
    exact .inl ⟨_, _, _, _, rfl, rfl, .inl (.inl h1), h2, q w H (fun _ _ z => z) h3⟩
  · obtain ⟨p1, vs, rfl, h1, t1⟩ := ra.isF
    cases rb
    obtain ⟨w, h2, h3⟩ := t1.atI e
    exact .inl ⟨_, _, _, _, rfl, rfl, h1, h2, q w H (fun _ _ z => z) h3⟩
  · cases e
theorem pm_ix {a b : Expr} {ma mb : Mo PV} {pos : Pos} (ha : PE X a (rd F ow ma)) (hb : PE X b (rd F ow mb)) (hs : PlainIx b := by exact fun _ _ => rfl) (hS : F.S = ⟨X.K, X.mg, F.S.T⟩ := by rfl) : PE X (.Subscript a b pos) (rd F ow (mBin pIx ma mb)) :=
  (pe_ix ix_end ha hb hs).imp fun σ H Q h => by
    have z := bin_go h
    rw [hS] at z
    exact z
/-- a part's end -/
def rdO (F : Fm) (ow : List Nat) (m : Mo (Option Int)) : TO := fun σ H Q => ∃ e, ER F.S F.G ow σ H e ∧ Post F ow σ H (m e) fun o _ H' => Q o H'
def mNo : Mo (Option Int) := fun e => .ok none e
def mPart (m : Mo PV) : Mo (Option Int) := fun e => (m e).bind fun p e1 => lift (match p with | .int i => some (some i) | _ => none) e1
theorem _root_.L2.PO.imp {e : Option Expr} {t t' : TO} (h : PO X e t) (i : ∀ σ H Q, t' σ H Q → t σ H Q) : PO X e t' := ⟨fun pins s σ H Q I q => h.run pins s σ H Q I (i σ H Q q)⟩
theorem pmo_none : PO X none (rdO F ow mNo) := po_none.imp fun σ H Q ⟨e, R, p⟩ => p H Keep.refl R
theorem pmo_some {a : Expr} {m : Mo PV} (ha : PE X a (rd F ow m)) : PO X (some a) (rdO F ow (mPart m)) :=
  (po_some ha).imp fun σ H Q ⟨e, R, p⟩ => by
    refine ⟨e, R, (Post.unbind p).mono fun p1 e1 H1 k1 R1 q1 x rx => ?_⟩
    obtain ⟨c, hc, q⟩ := q1.of_lift R1
    split at hc
    · cases hc
      cases rx
      exact ⟨_, rfl, q H1 fun _ _ z => z⟩
    · cases hc
def cutP (l : List PV) (lo hi : Option Int) : List PV := List.take (HT.sIx l.length l.length hi - HT.sIx l.length 0 lo) (List.drop (HT.sIx l.length 0 lo) l)
theorem RVs.cut {S : Se} {H : Hp} {O : Addr → Prop} {vs : List V} {l : List PV} (r : RVs S H O vs l) (lo hi : Option Int) : RVs S H O (cutV vs lo hi) (cutP l lo hi) := by
  unfold cutV cutP
  rw [r.length]
  exact (r.drop _).take _
theorem cut_whole {l : List PV} {lo hi : Option Int} (h : HT.sIx l.length 0 lo = 0 ∧ HT.sIx l.length l.length hi = l.length) : cutP l lo hi = l := by
  unfold cutP
  rw [h.1, h.2]
  simp
def pSl : PV → Option Int → Option Int → Option PV
  | .tup l, lo, hi => some (.tup (cutP l lo hi))
  | .lst l, lo, hi => some (.lst (cutP l lo hi))
  | .fz l, lo, hi => some (.lst (cutP l lo hi))
  | _, _, _ => none
theorem SlR.or {r r' : V → Option Int → Option Int → Hp → VK → Prop} (h : SlR X r) (h' : SlR X r') : SlR X fun x lo hi H Q => r x lo hi H Q ∨ r' x lo hi H Q := by
  intro pins s σ H x v vl vu lo hi sl Q I rx hs pl pu q
  rcases q with q | q
  · exact h pins s σ H x v vl vu lo hi sl Q I rx hs pl pu q
  · exact h' pins s σ H x v vl vu lo hi sl Q I rx hs pl pu q
def mSl (m : Mo PV) (ml mh : Mo (Option Int)) : Mo PV := fun e => (m e).bind fun p e1 => (ml e1).bind fun lo e2 => (mh e2).bind fun hi e3 => lift (pSl p lo hi) e3
theorem pm_sl {a : Expr} {lo hi : Option Expr} {m : Mo PV} {ml mh : Mo (Option Int)} {pos p2 : Pos} (ha : PE X a (rd F ow m)) (hl : PO X lo (rdO F ow ml)) (hh : PO X hi (rdO F ow mh)) (hS : F.S = ⟨X.K, X.mg, F.S.T⟩ := by rfl) : PE X (.Subscript a (.Slice lo hi none p2) pos) (rd F ow (mSl m ml mh)) :=
  (pe_slice (SlR.or sl_list sl_tupA) ha hl hh).imp fun σ H Q ⟨e, R, p⟩ => by
    have hK : F.S.K = X.K := by rw [hS]
    refine ⟨e, R, (Post.unbind p).mono fun a e1 H1 k1 R1 p1 x rx => ⟨e1, R1, (Post.unbind p1).mono fun lo e2 H2 k2 R2 p2 => ⟨e2, R2, (Post.unbind p2).mono fun hi e3 H3 k3 R3 p3 => ?_⟩⟩⟩
    have rx := rx.mono (k2.trans k3).gd Less.refl
    obtain ⟨c, hc, q⟩ := p3.of_lift R3
    unfold pSl at hc
    split at hc
    · cases hc
      obtain ⟨p1, vs, rfl, h1, t1⟩ := rx.isT
      rw [hK] at h1
      refine .inr ⟨_, _, rfl, h1, fun hw => ?_, fun hw p hn => ?_⟩
      · rw [t1.length] at hw
        rw [cut_whole hw] at q
        exact q H3 (fun _ _ z => z) _ rx
      · exact q _ (upd_keep hn) _ ((t1.cut _ _).newT hn R3.tracked)
    · cases hc
      obtain ⟨p1, vs, rfl, h1, t1⟩ := rx.isL
      exact .inl ⟨_, _, rfl, .inl (.inl h1), fun p hn => q _ (upd_keep hn) _ ((t1.cut _ _).newL hn R3.tracked)⟩
    · cases hc
      obtain ⟨p1, vs, rfl, h1, t1⟩ := rx.isF
      rw [hK] at h1
      exact .inl ⟨_, _, rfl, h1, fun p hn => q _ (upd_keep hn) _ ((t1.cut _ _).newL hn R3.tracked)⟩
    · cases hc

/-! ### a value that is looked at here: also a cell that can change -/
def WV (S : Se) (H : Hp) (O : Addr → Prop) (v : V) (p : PV) : Prop := RV S H O v p ∨ At S H O v p
inductive WVs (S : Se) (H : Hp) (O : Addr → Prop) : List V → List PV → Prop
  | nil : WVs S H O [] []
  | cons {v : V} {p : PV} {vs : List V} {l : List PV} : WV S H O v p → WVs S H O vs l → WVs S H O (v :: vs) (p :: l)
def isCell : PV → Bool
  | .lst _ => true
  | .dK _ => true
  | .dT _ => true
  | _ => false
section
variable {S : Se} {H : Hp} {O : Addr → Prop}
theorem WV.rv {v : V} {p : PV} (h : WV S H O v p) (hp : isCell p = false := by rfl) : RV S H O v p := by
  rcases h with h | h
  · exact h
  · cases p with
    | lst l => cases hp
    | dK l => cases hp
    | dT l => cases hp
    | _ => exact h.elim
theorem WV.isL {v : V} {l : List PV} (r : WV S H O v (.lst l)) : ∃ a vs, v = .ref a ∧ H a = some (.lst vs) ∧ RVs S H O vs l := by
  rcases r with r | r
  · exact r.isL
  · exact r
theorem WV.isT {v : V} {l : List PV} (r : WV S H O v (.tup l)) : ∃ a vs, v = .ref a ∧ SqT S.K H a vs ∧ RVs S H O vs l := r.rv.isT
theorem WV.isF {v : V} {l : List PV} (r : WV S H O v (.fz l)) : ∃ a vs, v = .ref a ∧ SqL S.K H a vs ∧ RVs S H O vs l := r.rv.isF
theorem RVs.wv : ∀ {vs : List V} {l : List PV}, RVs S H O vs l → WVs S H O vs l
  | _, _, .nil => .nil
  | _, _, .cons r t => .cons (.inl r) (RVs.wv t)
theorem WVs.one {xs : List V} {p : PV} (r : WVs S H O xs [p]) : ∃ x, xs = [x] ∧ WV S H O x p := by
  cases r with | cons r t => cases t; exact ⟨_, rfl, r⟩
theorem WVs.two {xs : List V} {p q : PV} (r : WVs S H O xs [p, q]) : ∃ x y, xs = [x, y] ∧ WV S H O x p ∧ WV S H O y q := by
  cases r with | cons r t => obtain ⟨y, e, r2⟩ := t.one; subst e; exact ⟨_, _, rfl, r, r2⟩
theorem RVs.one {S : Se} {H : Hp} {O : Addr → Prop} {xs : List V} {p : PV} (r : RVs S H O xs [p]) : ∃ x, xs = [x] ∧ RV S H O x p := by
  cases r with | cons r t => cases t; exact ⟨_, rfl, r⟩
theorem RVs.two {S : Se} {H : Hp} {O : Addr → Prop} {xs : List V} {p q : PV} (r : RVs S H O xs [p, q]) : ∃ x y, xs = [x, y] ∧ RV S H O x p ∧ RV S H O y q := by
  cases r with | cons r t => obtain ⟨y, e, r2⟩ := t.one; subst e; exact ⟨_, _, rfl, r, r2⟩
end
/-! ### calls of what is built in -/
def CallOk (X : Cx) (F : Fm) (f : Value) (g : List PV → Option PV) : Prop := ∀ O : Addr → Prop, ∃ r : List V → Hp → VK → Prop, CallR X f r ∧
  ∀ H xs ps c Q, Pre H O → WVs F.S H O xs ps → g ps = some c → (∀ v H', (∀ z u, H z = some u → H' z = some u) → RV F.S H' O v c → Q v H') → r xs H Q
def mCall (g : List PV → Option PV) (ml : Mo (List PV)) : Mo PV := fun e => (ml e).bind fun l e1 => lift (g l) e1
theorem call_end {g : List PV → Option PV} {f : Value} (h : CallOk X F f g) : CallR X f fun xs H Q => ∃ (O : Addr → Prop) (ps : List PV) (c : PV), Pre H O ∧ WVs F.S H O xs ps ∧ g ps = some c ∧ ∀ v H', (∀ z u, H z = some u → H' z = some u) → RV F.S H' O v c → Q v H' := by
  intro pins s σ H xs us Q I r ⟨O, ps, c, p, ra, e, q⟩
  obtain ⟨r1, hr, k⟩ := h O
  exact hr pins s σ H xs us Q I r (k H xs ps c Q p ra e q)
theorem call_go {g : List PV → Option PV} {ml : Mo (List PV)} {σ : L2.St} {H : Hp} {Q : VK} (h : rd F ow (mCall g ml) σ H Q) :
    rdA F ow ml σ H fun xs H1 => ∃ (O : Addr → Prop) (ps : List PV) (c : PV), Pre H1 O ∧ WVs F.S H1 O xs ps ∧ g ps = some c ∧ ∀ v H', (∀ z u, H1 z = some u → H' z = some u) → RV F.S H' O v c → Q v H' := by
  obtain ⟨e, R, p⟩ := h
  refine ⟨e, R, (Post.unbind p).mono fun l e1 H1 k1 R1 p1 xs rs => ?_⟩
  obtain ⟨c, hc, q⟩ := p1.of_lift R1
  exact ⟨Gd F.G ow σ, l, c, R1.tracked, rs.wv, hc, fun v H' k rv => q H' k v rv⟩
theorem pm_callB {x : Str} {p pos : Pos} {a : Expr} {es : List Expr} {ml : Mo (List PV)} {id : String} {g : List PV → Option PV} (hc : CallOk X F (.builtin id) g) (hg : Gl X x) (hm : X.mg x = none) (hv : bootBuiltins x = some (.builtin id)) (ha : PA X (a :: es) (rdA F ow ml))
    (hn : x ≠ "__name__" := by decide) (hdb : (x == ("__debug__" : Str)) = false := by decide) (hs : starEach (a :: es) X.env = (false, eval a X.env) :: starEach es X.env := by rfl)
    (hs2 : ((backTo pos (starEach es X.env)).any fun x => x.1) = false := by rfl) : PE X (.Call (.Name x p) (a :: es) [] pos) (rd F ow (mCall g ml)) :=
  (pe_callB (call_end hc) hg hm hv ha hn hdb hs hs2).imp fun σ H Q h => call_go h
theorem pm_callTy {x : Str} {p pos : Pos} {a : Expr} {es : List Expr} {ml : Mo (List PV)} {T : String} {g : List PV → Option PV} (hc : CallOk X F (.type T) g) (hg : Gl X x) (hm : X.mg x = none) (hv : bootBuiltins x = some (.type T)) (ha : PA X (a :: es) (rdA F ow ml))
    (hn : x ≠ "__name__" := by decide) (hdb : (x == ("__debug__" : Str)) = false := by decide) (hs : starEach (a :: es) X.env = (false, eval a X.env) :: starEach es X.env := by rfl)
    (hs2 : ((backTo pos (starEach es X.env)).any fun x => x.1) = false := by rfl) : PE X (.Call (.Name x p) (a :: es) [] pos) (rd F ow (mCall g ml)) :=
  (pe_callTy (call_end hc) hg hm hv ha hn hdb hs hs2).imp fun σ H Q h => call_go h

def gLen : List PV → Option PV
  | [.tup l] => some (.int l.length)
  | [.lst l] => some (.int l.length)
  | [.fz l] => some (.int l.length)
  | _ => none
theorem co_len (hS : F.S = ⟨X.K, X.mg, F.S.T⟩ := by rfl) : CallOk X F (.builtin "len") gLen := by
  intro O
  refine ⟨_, call_len_seq, fun H xs ps c Q hp r e q => ?_⟩
  have hK : F.S.K = X.K := by rw [hS]
  unfold gLen at e
  split at e
  · cases e
    obtain ⟨x, rfl, rx⟩ := r.one
    obtain ⟨a, vs, rfl, h1, t1⟩ := rx.isT
    rw [hK] at h1
    exact ⟨a, vs, rfl, .inr h1, q _ H (fun _ _ z => z) (by rw [t1.length]; exact .int _)⟩
  · cases e
    obtain ⟨x, rfl, rx⟩ := r.one
    obtain ⟨a, vs, rfl, h1, t1⟩ := rx.isL
    exact ⟨a, vs, rfl, .inl (.inl (.inl h1)), q _ H (fun _ _ z => z) (by rw [t1.length]; exact .int _)⟩
  · cases e
    obtain ⟨x, rfl, rx⟩ := r.one
    obtain ⟨a, vs, rfl, h1, t1⟩ := rx.isF
    rw [hK] at h1
    exact ⟨a, vs, rfl, .inl h1, q _ H (fun _ _ z => z) (by rw [t1.length]; exact .int _)⟩
  · cases e
def gAbs : List PV → Option PV
  | [.int i] => some (.int (if i < 0 then -i else i))
  | _ => none
theorem co_abs : CallOk X F (.builtin "abs") gAbs := by
  intro O
  refine ⟨_, call_abs, fun H xs ps c Q hp r e q => ?_⟩
  unfold gAbs at e
  split at e
  · cases e
    obtain ⟨x, rfl, rx⟩ := r.one
    cases rx.rv
    exact ⟨_, rfl, q _ H (fun _ _ z => z) (.int _)⟩
  · cases e
def gInt : List PV → Option PV
  | [.int i] => some (.int i)
  | [.bl b] => some (.int (if b = true then 1 else 0))
  | _ => none
theorem co_int : CallOk X F (.type "int") gInt := by
  intro O
  refine ⟨_, call_int1, fun H xs ps c Q hp r e q => ?_⟩
  unfold gInt at e
  split at e
  · cases e
    obtain ⟨x, rfl, rx⟩ := r.one
    cases rx.rv
    exact .inl ⟨_, rfl, q _ H (fun _ _ z => z) (.int _)⟩
  · cases e
    obtain ⟨x, rfl, rx⟩ := r.one
    cases rx.rv
    exact .inr ⟨_, rfl, q _ H (fun _ _ z => z) (.int _)⟩
  · cases e
/-- the ints of a list -/
def toIs : List PV → Option (List Int)
  | [] => some []
  | .int i :: l => (toIs l).map fun r => i :: r
  | _ :: _ => none
theorem toIs_some : ∀ {l : List PV} {ns : List Int}, toIs l = some ns → l = ns.map PV.int
  | [], _, h => by cases h; rfl
  | p :: l, ns, h => by
    cases p with
    | int i =>
      simp only [toIs] at h
      cases q : toIs l with
      | none => rw [q] at h; cases h
      | some r => rw [q] at h; cases h; rw [toIs_some q]; rfl
    | _ => simp [toIs] at h
theorem toIs_map : ∀ ns : List Int, toIs (ns.map PV.int) = some ns
  | [] => rfl
  | n :: ns => by simp only [List.map_cons, toIs, toIs_map ns]; rfl
def toBs : List PV → Option (List Bool)
  | [] => some []
  | .bl i :: l => (toBs l).map fun r => i :: r
  | _ :: _ => none
theorem toBs_some : ∀ {l : List PV} {ns : List Bool}, toBs l = some ns → l = ns.map PV.bl
  | [], _, h => by cases h; rfl
  | p :: l, ns, h => by
    cases p with
    | bl i =>
      simp only [toBs] at h
      cases q : toBs l with
      | none => rw [q] at h; cases h
      | some r => rw [q] at h; cases h; rw [toBs_some q]; rfl
    | _ => simp [toBs] at h
theorem toBs_map : ∀ ns : List Bool, toBs (ns.map PV.bl) = some ns
  | [] => rfl
  | n :: ns => by simp only [List.map_cons, toBs, toBs_map ns]; rfl
def maxI : Int → List Int → Int
  | m, [] => m
  | m, i :: l => maxI (if m < i then i else m) l
def minI : Int → List Int → Int
  | m, [] => m
  | m, i :: l => minI (if i < m then i else m) l
theorem maxI_spec : ∀ (l : List Int) (m : Int), (maxI m l = m ∨ maxI m l ∈ l) ∧ m ≤ maxI m l ∧ ∀ y ∈ l, y ≤ maxI m l
  | [], m => ⟨.inl rfl, Int.le_refl _, fun _ h => by cases h⟩
  | i :: l, m => by
    obtain ⟨h1, h2, h3⟩ := maxI_spec l (if m < i then i else m)
    have h4 : m ≤ (if m < i then i else m) ∧ i ≤ (if m < i then i else m) := by split <;> omega
    simp only [maxI]
    refine ⟨?_, Int.le_trans h4.1 h2, fun y hy => ?_⟩
    · rcases h1 with h1 | h1
      · rw [h1]
        split
        · exact .inr List.mem_cons_self
        · exact .inl rfl
      · exact .inr (List.mem_cons_of_mem _ h1)
    · rcases List.mem_cons.mp hy with rfl | hy
      · exact Int.le_trans h4.2 h2
      · exact h3 y hy
theorem minI_spec : ∀ (l : List Int) (m : Int), (minI m l = m ∨ minI m l ∈ l) ∧ minI m l ≤ m ∧ ∀ y ∈ l, minI m l ≤ y
  | [], m => ⟨.inl rfl, Int.le_refl _, fun _ h => by cases h⟩
  | i :: l, m => by
    obtain ⟨h1, h2, h3⟩ := minI_spec l (if i < m then i else m)
    have h4 : (if i < m then i else m) ≤ m ∧ (if i < m then i else m) ≤ i := by split <;> omega
    simp only [minI]
    refine ⟨?_, Int.le_trans h2 h4.1, fun y hy => ?_⟩
    · rcases h1 with h1 | h1
      · rw [h1]
        split
        · exact .inr List.mem_cons_self
        · exact .inl rfl
      · exact .inr (List.mem_cons_of_mem _ h1)
    · rcases List.mem_cons.mp hy with rfl | hy
      · exact Int.le_trans h2 h4.2
      · exact h3 y hy
def gMax : List PV → Option PV
  | [.int i, .int j] => some (.int (if j > i then j else i))
  | [.lst l] => match toIs l with
    | some (n :: ns) => some (.int (maxI n ns))
    | _ => none
  | _ => none
def gMin : List PV → Option PV
  | [.int i, .int j] => some (.int (if j < i then j else i))
  | [.lst l] => match toIs l with
    | some (n :: ns) => some (.int (minI n ns))
    | _ => none
  | _ => none
theorem CallR.or {f : Value} {r r' : List V → Hp → VK → Prop} (h : CallR X f r) (h' : CallR X f r') : CallR X f fun xs H Q => r xs H Q ∨ r' xs H Q := by
  intro pins s σ H xs us Q I rv q
  rcases q with q | q
  · exact h pins s σ H xs us Q I rv q
  · exact h' pins s σ H xs us Q I rv q
theorem co_max (hc : X.calm = true := by rfl) : CallOk X F (.builtin "max") gMax := by
  intro O
  refine ⟨_, CallR.or (call_max2 hc) (cr_max hc), fun H xs ps c Q hp r e q => ?_⟩
  unfold gMax at e
  split at e
  · cases e
    obtain ⟨x, y, rfl, rx, ry⟩ := r.two
    cases rx.rv
    cases ry.rv
    exact .inl ⟨_, _, rfl, q _ H (fun _ _ z => z) (.int _)⟩
  · rename_i l
    split at e
    · rename_i n ns h
      cases e
      obtain ⟨x, rfl, rx⟩ := r.one
      obtain ⟨a, vs, rfl, h1, t1⟩ := rx.isL
      rw [toIs_some h] at t1
      rw [t1.ints] at h1
      refine .inr ⟨a, n :: ns, rfl, .inl (.inl h1), by simp, fun m hm hle => ?_⟩
      obtain ⟨h2, h3, h4⟩ := maxI_spec ns n
      have e1 : m = maxI n ns := by
        have a1 := hle (maxI n ns) (by rcases h2 with h2 | h2; · rw [h2]; exact List.mem_cons_self
                                       · exact List.mem_cons_of_mem _ h2)
        have a2 : m ≤ maxI n ns := by
          rcases List.mem_cons.mp hm with rfl | hm
          · exact h3
          · exact h4 m hm
        omega
      rw [e1]
      exact q _ H (fun _ _ z => z) (.int _)
    · cases e
  · cases e
theorem co_min (hc : X.calm = true := by rfl) : CallOk X F (.builtin "min") gMin := by
  intro O
  refine ⟨_, CallR.or (call_min2 hc) (cr_min hc), fun H xs ps c Q hp r e q => ?_⟩
  unfold gMin at e
  split at e
  · cases e
    obtain ⟨x, y, rfl, rx, ry⟩ := r.two
    cases rx.rv
    cases ry.rv
    exact .inl ⟨_, _, rfl, q _ H (fun _ _ z => z) (.int _)⟩
  · rename_i l
    split at e
    · rename_i n ns h
      cases e
      obtain ⟨x, rfl, rx⟩ := r.one
      obtain ⟨a, vs, rfl, h1, t1⟩ := rx.isL
      rw [toIs_some h] at t1
      rw [t1.ints] at h1
      refine .inr ⟨a, n :: ns, rfl, .inl (.inl h1), by simp, fun m hm hle => ?_⟩
      obtain ⟨h2, h3, h4⟩ := minI_spec ns n
      have e1 : m = minI n ns := by
        have a1 := hle (minI n ns) (by rcases h2 with h2 | h2; · rw [h2]; exact List.mem_cons_self
                                       · exact List.mem_cons_of_mem _ h2)
        have a2 : minI n ns ≤ m := by
          rcases List.mem_cons.mp hm with rfl | hm
          · exact h3
          · exact h4 m hm
        omega
      rw [e1]
      exact q _ H (fun _ _ z => z) (.int _)
    · cases e
  · cases e
def gSum : List PV → Option PV
  | [.lst l] => (toIs l).map fun ns => .int ns.sum
  | _ => none
def gAll : List PV → Option PV
  | [.lst l] => (toBs l).map fun ns => .bl (ns.all id)
  | _ => none
theorem co_all (hc : X.calm = true := by rfl) : CallOk X F (.builtin "all") gAll := by
  intro O
  refine ⟨_, cr_all hc, fun H xs ps c Q hp r e q => ?_⟩
  unfold gAll at e
  split at e
  · rename_i l
    cases h : toBs l with
    | none => rw [h] at e; cases e
    | some ns =>
      rw [h] at e
      cases e
      obtain ⟨x, rfl, rx⟩ := r.one
      obtain ⟨a, vs, rfl, h1, t1⟩ := rx.isL
      rw [toBs_some h] at t1
      rw [t1.bls] at h1
      exact ⟨a, ns, rfl, .inl (.inl h1), q _ H (fun _ _ z => z) (.bl _)⟩
  · cases e
def gTuple : List PV → Option PV
  | [.lst l] => some (.tup l)
  | [.fz l] => some (.tup l)
  | [.tup l] => some (.tup l)
  | _ => none
theorem co_tuple (hS : F.S = ⟨X.K, X.mg, F.S.T⟩ := by rfl) : CallOk X F (.type "tuple") gTuple := by
  intro O
  refine ⟨_, call_tuple_of, fun H xs ps c Q hp r e q => ?_⟩
  have hK : F.S.K = X.K := by rw [hS]
  unfold gTuple at e
  split at e
  · cases e
    obtain ⟨x, rfl, rx⟩ := r.one
    obtain ⟨a, vs, rfl, h1, t1⟩ := rx.isL
    exact ⟨a, vs, rfl, .inl ⟨.inl (.inl h1), fun p hn => q _ _ (upd_keep hn) (t1.newT hn hp)⟩⟩
  · cases e
    obtain ⟨x, rfl, rx⟩ := r.one
    obtain ⟨a, vs, rfl, h1, t1⟩ := rx.isF
    rw [hK] at h1
    exact ⟨a, vs, rfl, .inl ⟨h1, fun p hn => q _ _ (upd_keep hn) (t1.newT hn hp)⟩⟩
  · cases e
    obtain ⟨x, rfl, rx⟩ := r.one
    have rx' := rx.rv
    obtain ⟨a, vs, rfl, h1, t1⟩ := rx.isT
    rw [hK] at h1
    exact ⟨a, vs, rfl, .inr ⟨h1, q _ H (fun _ _ z => z) rx'⟩⟩
  · cases e
def gList : List PV → Option PV
  | [.lst l] => some (.lst l)
  | [.fz l] => some (.lst l)
  | [.tup l] => some (.lst l)
  | _ => none
theorem co_list (hS : F.S = ⟨X.K, X.mg, F.S.T⟩ := by rfl) : CallOk X F (.type "list") gList := by
  intro O
  refine ⟨_, call_list_of, fun H xs ps c Q hp r e q => ?_⟩
  have hK : F.S.K = X.K := by rw [hS]
  unfold gList at e
  split at e
  · cases e
    obtain ⟨x, rfl, rx⟩ := r.one
    obtain ⟨a, vs, rfl, h1, t1⟩ := rx.isL
    exact ⟨a, vs, rfl, .inl (.inl (.inl h1)), fun p hn => q _ _ (upd_keep hn) (t1.newL hn hp)⟩
  · cases e
    obtain ⟨x, rfl, rx⟩ := r.one
    obtain ⟨a, vs, rfl, h1, t1⟩ := rx.isF
    rw [hK] at h1
    exact ⟨a, vs, rfl, .inl h1, fun p hn => q _ _ (upd_keep hn) (t1.newL hn hp)⟩
  · cases e
    obtain ⟨x, rfl, rx⟩ := r.one
    obtain ⟨a, vs, rfl, h1, t1⟩ := rx.isT
    rw [hK] at h1
    exact ⟨a, vs, rfl, .inr h1, fun p hn => q _ _ (upd_keep hn) (t1.newL hn hp)⟩
  · cases e
/-- isinstance -/
def tyN : PV → Option String
  | .non => some "NoneType"
  | .bl _ => some "bool"
  | .int _ => some "int"
  | .str _ => some "str"
  | .tup _ => some "tuple"
  | .lst _ => some "list"
  | .fz _ => some "list"
  | .dK _ => some "dict"
  | .dT _ => some "dict"
  | _ => none
def gIsi : List PV → Option PV
  | [p, .ty n] => (tyN p).bind fun t => (kitB t n).map .bl
  | _ => none
theorem RV.tyX {S : Se} {H : Hp} {O : Addr → Prop} {v : V} {p : PV} {t : String} (r : RV S H O v p) (h : tyN p = some t) : TyX S.K H v (.type t) := by
  cases r with
  | non => cases h; exact .base .non
  | bl b => cases h; exact .base (.bl b)
  | int i => cases h; exact .base (.int i)
  | str x => cases h; exact .base (.str x)
  | tup n r t => cases h; exact .base (.tup r)
  | lst n r t => cases h; exact .base (.lst r)
  | fz n r t => cases h; exact .base (.frz r)
  | fzK r t =>
    cases h
    rcases r (fun _ => none) with (r | ⟨o, r⟩) | ⟨o, its, n, h1, h2, _⟩
    · cases r
    · cases r
    · exact .kList h1 h2
  | dK n r t => cases h; exact .base (.dK r)
  | dT n r t => cases h; exact .base (.dT r)
  | _ => cases h
theorem WV.tyX {S : Se} {H : Hp} {O : Addr → Prop} {v : V} {p : PV} {t : String} (r : WV S H O v p) (h : tyN p = some t) : TyX S.K H v (.type t) := by
  rcases r with r | r
  · exact r.tyX h
  · cases p with
    | lst l => obtain ⟨a, vs, rfl, h1, _⟩ := r; cases h; exact .base (.lst h1)
    | dK l => obtain ⟨a, vs, rfl, h1, _⟩ := r; cases h; exact .base (.dK h1)
    | dT l => obtain ⟨a, vs, rfl, h1, _⟩ := r; cases h; exact .base (.dT h1)
    | _ => exact r.elim
theorem co_isi (hS : F.S = ⟨X.K, X.mg, F.S.T⟩ := by rfl) : CallOk X F (.builtin "isinstance") gIsi := by
  intro O
  refine ⟨_, call_isi, fun H xs ps c Q hp r e q => ?_⟩
  have hK : F.S.K = X.K := by rw [hS]
  unfold gIsi at e
  split at e
  · rename_i p n
    cases h : tyN p with
    | none => rw [h] at e; cases e
    | some t =>
      rw [h] at e
      simp only [Option.bind] at e
      cases h2 : kitB t n with
      | none => rw [h2] at e; cases e
      | some b =>
        rw [h2] at e
        cases e
        obtain ⟨x, y, rfl, rx, ry⟩ := r.two
        cases ry.rv
        exact ⟨x, _, _, _, b, rfl, .ty n, hK ▸ WV.tyX rx h, kit_ty h2, q _ H (fun _ _ z => z) (.bl _)⟩
  · cases e
end
end M

namespace M
open PySem PySem.Spec PyProof.Rows L2

/-! ### arguments of own defs: a value, or a name whose cell the callee changes -/
inductive Ar where
  | v (p : PV) | o (i : Nat)
inductive ArAt (ow : List Nat) (S : Se) (H : Hp) (O : Addr → Prop) (σ : L2.St) : List V → List Ar → Prop
  | nil : ArAt ow S H O σ [] []
  | v {x : V} {p : PV} {xs : List V} {l : List Ar} : RV S H O x p → ArAt ow S H O σ xs l → ArAt ow S H O σ (x :: xs) (.v p :: l)
  | o {x : V} {i : Nat} {xs : List V} {l : List Ar} : i ∈ ow → σ[i]? = some (some x) → ArAt ow S H O σ xs l → ArAt ow S H O σ (x :: xs) (.o i :: l)
theorem ArAt.mono {ow : List Nat} {S : Se} {H H' : Hp} {O O' : Addr → Prop} {σ : L2.St} (k : Keep O H H') (q : Less H O O') : ∀ {xs : List V} {l : List Ar}, ArAt ow S H O σ xs l → ArAt ow S H' O' σ xs l
  | _, _, .nil => .nil
  | _, _, .v r t => .v (r.mono k q) (ArAt.mono k q t)
  | _, _, .o i e t => .o i e (ArAt.mono k q t)
theorem ArAt.length {ow : List Nat} {S : Se} {H : Hp} {O : Addr → Prop} {σ : L2.St} : ∀ {xs : List V} {l : List Ar}, ArAt ow S H O σ xs l → xs.length = l.length
  | _, _, .nil => rfl
  | _, _, .v _ t => congrArg Nat.succ (ArAt.length t)
  | _, _, .o _ _ t => congrArg Nat.succ (ArAt.length t)
theorem ArAt.getV {ow : List Nat} {S : Se} {H : Hp} {O : Addr → Prop} {σ : L2.St} : ∀ {xs : List V} {l : List Ar} {k : Nat} {p : PV}, ArAt ow S H O σ xs l → l[k]? = some (.v p) → ∃ x, xs[k]? = some x ∧ RV S H O x p
  | _, _, _, _, .nil, e => by simp at e
  | _, _, 0, _, .v r t, e => by simp at e; subst e; exact ⟨_, rfl, r⟩
  | _, _, 0, _, .o _ _ t, e => by simp at e
  | _, _, k + 1, p, .v _ t, e => by
    obtain ⟨x, h1, h2⟩ := ArAt.getV (k := k) (p := p) t (by simpa using e)
    exact ⟨x, by simpa using h1, h2⟩
  | _, _, k + 1, p, .o _ _ t, e => by
    obtain ⟨x, h1, h2⟩ := ArAt.getV (k := k) (p := p) t (by simpa using e)
    exact ⟨x, by simpa using h1, h2⟩
theorem ArAt.getO {ow : List Nat} {S : Se} {H : Hp} {O : Addr → Prop} {σ : L2.St} : ∀ {xs : List V} {l : List Ar} {k i : Nat}, ArAt ow S H O σ xs l → l[k]? = some (Ar.o i) → ∃ x, xs[k]? = some x ∧ σ[i]? = some (some x) ∧ i ∈ ow
  | _, _, _, _, .nil, e => by simp at e
  | _, _, 0, _, .v r t, e => by simp at e
  | _, _, 0, _, .o j q t, e => by simp at e; subst e; exact ⟨_, rfl, q, j⟩
  | _, _, k + 1, i, .v _ t, e => by
    obtain ⟨x, h1, h2⟩ := ArAt.getO (k := k) (i := i) t (by simpa using e)
    exact ⟨x, by simpa using h1, h2⟩
  | _, _, k + 1, i, .o _ _ t, e => by
    obtain ⟨x, h1, h2⟩ := ArAt.getO (k := k) (i := i) t (by simpa using e)
    exact ⟨x, by simpa using h1, h2⟩
def rdR (F : Fm) (ow : List Nat) (m : Mo (List Ar)) : TA := fun σ H Q => ∃ e, ER F.S F.G ow σ H e ∧ Post F ow σ H (m e) fun l _ H' => ∀ vs, ArAt ow F.S H' (Gd F.G ow σ) σ vs l → Q vs H'
section
variable {X : Cx} {F : Fm} {ow : List Nat}
def mrNil : Mo (List Ar) := fun e => .ok [] e
def mrV (m : Mo PV) (ml : Mo (List Ar)) : Mo (List Ar) := fun e => (m e).bind fun p e1 => (ml e1).bind fun l e2 => .ok (.v p :: l) e2
def mrO (i : Nat) (ml : Mo (List Ar)) : Mo (List Ar) := fun e => match e[i]? with
  | some (some _) => (ml e).bind fun l e2 => .ok (.o i :: l) e2
  | _ => .bad
theorem pmr_nil : PA X [] (rdR F ow mrNil) := pa_nil.imp fun σ H Q ⟨e, R, p⟩ => p H Keep.refl R [] .nil
theorem pmr_v {a : Expr} {es : List Expr} {m : Mo PV} {ml : Mo (List Ar)} (ha : PE X a (rd F ow m)) (hr : PA X es (rdR F ow ml)) (hs : starEach (a :: es) X.env = (false, eval a X.env) :: starEach es X.env := by rfl) : PA X (a :: es) (rdR F ow (mrV m ml)) :=
  (pa_cons ha hr hs).imp fun σ H Q ⟨e, R, p⟩ =>
    ⟨e, R, (Post.unbind p).mono fun a e1 H1 k1 R1 p1 x rx => ⟨e1, R1, (Post.unbind p1).mono fun l e2 H2 k2 R2 p2 xs rs => p2 H2 Keep.refl R2 _ (.v (rx.mono k2.gd Less.refl) rs)⟩⟩
theorem pmr_o (i : Nat) {x : Str} {p : Pos} {es : List Expr} {ml : Mo (List Ar)} (hr : PA X es (rdR F ow ml)) (hi : i ∈ ow := by decide) (hN : X.N[i]? = some x := by rfl) (hv : Vis X.env.scope x := by first | exact .inl rfl | exact .inr (.inl rfl) | exact .inr (.inr rfl))
    (hd : (x == ("__debug__" : Str)) = false := by decide) (hcd : (x == ("__classdict__" : Str)) = false := by decide) (hs : starEach (Expr.Name x p :: es) X.env = (false, eval (Expr.Name x p) X.env) :: starEach es X.env := by rfl) : PA X (.Name x p :: es) (rdR F ow (mrO i ml)) :=
  (pa_cons (pe_var hN hv hd hcd) hr hs).imp fun σ H Q ⟨e, R, p⟩ => by
    unfold mrO at p
    split at p
    · rename_i q h
      obtain ⟨v, h1, h2⟩ := R.own i q h hi
      exact ⟨v, h1, e, R, (Post.unbind p).mono fun l e2 H2 k2 R2 p2 xs rs => p2 H2 Keep.refl R2 _ (.o hi h1 rs)⟩
    · exact p.elim
/-- the told arguments, as they stand -/
def argsOf (e : En) : List Ar → Option (List PV)
  | [] => some []
  | .v p :: l => (argsOf e l).map fun r => p :: r
  | .o i :: l => match e[i]? with
    | some (some p) => (argsOf e l).map fun r => p :: r
    | _ => none
theorem argsOf_get {e : En} : ∀ {l : List Ar} {ps : List PV} {k : Nat} {p : PV}, argsOf e l = some ps → ps[k]? = some p → l[k]? = some (.v p) ∨ ∃ i, l[k]? = some (Ar.o i) ∧ e[i]? = some (some p)
  | [], ps, k, p, h, q => by cases h; simp at q
  | .v p0 :: l, ps, k, p, h, q => by
    simp only [argsOf] at h
    cases h1 : argsOf e l with
    | none => rw [h1] at h; cases h
    | some r =>
      rw [h1] at h
      cases h
      cases k with
      | zero => simp at q; subst q; exact .inl rfl
      | succ k => simpa using argsOf_get (k := k) h1 (by simpa using q)
  | .o i :: l, ps, k, p, h, q => by
    simp only [argsOf] at h
    split at h
    · rename_i p0 he
      cases h1 : argsOf e l with
      | none => rw [h1] at h; cases h
      | some r =>
        rw [h1] at h
        cases h
        cases k with
        | zero => simp at q; subst q; exact .inr ⟨i, rfl, he⟩
        | succ k => simpa using argsOf_get (k := k) h1 (by simpa using q)
    · cases h
theorem argsOf_length {e : En} : ∀ {l : List Ar} {ps : List PV}, argsOf e l = some ps → ps.length = l.length
  | [], ps, h => by cases h; rfl
  | .v p0 :: l, ps, h => by
    simp only [argsOf] at h
    cases h1 : argsOf e l with
    | none => rw [h1] at h; cases h
    | some r => rw [h1] at h; cases h; simp [argsOf_length h1]
  | .o i :: l, ps, h => by
    simp only [argsOf] at h
    split at h
    · cases h1 : argsOf e l with
      | none => rw [h1] at h; cases h
      | some r => rw [h1] at h; cases h; simp [argsOf_length h1]
    · cases h
/-- which arguments are changed -/
def isO (l : List Ar) (k : Nat) : Bool := match l[k]? with
  | some (.o _) => true
  | _ => false
/-- what the callee has changed is put back: f its names at the end -/
def putO (f : En) : Nat → List Ar → En → Option En
  | _, [], e => some e
  | k, .v _ :: l, e => putO f (k + 1) l e
  | k, .o i :: l, e => match f[k]? with
    | some (some p) => putO f (k + 1) l (e.set i (some p))
    | _ => none
def slots (l : List Ar) : List Nat := l.filterMap fun a => match a with
  | .o i => some i
  | _ => none

/-- what a def promises: n arguments, those at io can change; mf its mirror -/
def spM (S : Se) (n : Nat) (io : List Nat) (mf : List PV → Out PV) : Sp := fun vs H Q E => ∃ (O : Addr → Prop) (ps : List PV), vs.length = n ∧ ps.length = n ∧ Pre H O ∧ (∀ p ∈ S.T.l, LamX.TabS H p.1 p.2) ∧
  (∀ k p, ps[k]? = some p → k ∉ io → ∃ v, vs[k]? = some v ∧ RV S H O v p) ∧
  (∀ k p, ps[k]? = some p → k ∈ io → ∃ a, vs[k]? = some (.ref a) ∧ O a ∧ At S H O (.ref a) p) ∧
  (∀ k k' a, k ∈ io → k' ∈ io → vs[k]? = some (.ref a) → vs[k']? = some (.ref a) → k = k') ∧
  match mf ps with
  | .ok p f => ∀ v H', Keep (fun a => ∃ k, k ∈ io ∧ vs[k]? = some (.ref a)) H H' → LamX.Tabs S.T.l H' → RV S H' O v p → (∀ k p', k ∈ io → f[k]? = some (some p') → ∃ w, vs[k]? = some w ∧ At S H' O w p') → Q v H'
  | .exc x f => ∀ cls d H', Keep (fun a => ∃ k, k ∈ io ∧ vs[k]? = some (.ref a)) H H' → LamX.Tabs S.T.l H' → ExAt S H' O cls d x → (∀ k p', k ∈ io → f[k]? = some (some p') → ∃ w, vs[k]? = some w ∧ At S H' O w p') → E cls d H'
  | .bad => False
/-- a call's mirror -/
def mDef (n : Nat) (io : List Nat) (mf : List PV → Out PV) (ml : Mo (List Ar)) : Mo PV := fun e => (ml e).bind fun l e1 =>
  if l.length = n ∧ (∀ k, k < n → (k ∈ io ↔ isO l k = true)) ∧ (slots l).Nodup then
    match argsOf e1 l with
    | none => .bad
    | some ps => match mf ps with
      | .ok p f => match putO f 0 l e1 with
        | some e2 => .ok p e2
        | none => .bad
      | .exc x f => match putO f 0 l e1 with
        | some e2 => .exc x e2
        | none => .bad
      | .bad => .bad
  else .bad
theorem isO_some {l : List Ar} {k : Nat} (h : isO l k = true) : ∃ i, l[k]? = some (Ar.o i) := by
  unfold isO at h
  split at h
  · rename_i i q; exact ⟨i, q⟩
  · cases h
theorem slots_inj : ∀ {l : List Ar} {k k' i : Nat}, (slots l).Nodup → l[k]? = some (Ar.o i) → l[k']? = some (Ar.o i) → k = k'
  | [], k, k', i, _, h, _ => by simp at h
  | .v p :: l, k, k', i, hn, h, h' => by
    have hn' : (slots l).Nodup := hn
    cases k with
    | zero => simp at h
    | succ k => cases k' with
      | zero => simp at h'
      | succ k' => exact congrArg Nat.succ (slots_inj (l := l) (k := k) (k' := k') (i := i) hn' (by simpa using h) (by simpa using h'))
  | .o j :: l, k, k', i, hn, h, h' => by
    have hn' : (j :: slots l).Nodup := hn
    rw [List.nodup_cons] at hn'
    have mem : ∀ {m : Nat}, l[m]? = some (Ar.o j) → j ∈ slots l := fun {m} q => List.mem_filterMap.mpr ⟨_, List.mem_of_getElem? q, rfl⟩
    cases k with
    | zero =>
      simp at h; subst h
      cases k' with
      | zero => rfl
      | succ k' => exact absurd (mem (by simpa using h')) hn'.1
    | succ k => cases k' with
      | zero => simp at h'; subst h'; exact absurd (mem (by simpa using h)) hn'.1
      | succ k' => exact congrArg Nat.succ (slots_inj (l := l) (k := k) (k' := k') (i := i) hn'.2 (by simpa using h) (by simpa using h'))
theorem putO_get : ∀ {l : List Ar} {f e e2 : En} {k : Nat}, putO f k l e = some e2 → ∀ i : Nat, (∀ j : Nat, l[j]? ≠ some (Ar.o i)) → e2[i]? = e[i]?
  | [], f, e, e2, k, h, i, _ => by cases h; rfl
  | .v p :: l, f, e, e2, k, h, i, hi => putO_get (l := l) h i fun j q => hi (j + 1) (by simpa using q)
  | .o n :: l, f, e, e2, k, h, i, hi => by
    simp only [putO] at h
    split at h
    · rw [putO_get (l := l) h i fun j q => hi (j + 1) (by simpa using q)]
      have : n ≠ i := fun z => hi 0 (by simp [z])
      rw [List.getElem?_set_ne this]
    · cases h
theorem putO_len : ∀ {l : List Ar} {f e e2 : En} {k : Nat}, putO f k l e = some e2 → e2.length = e.length
  | [], f, e, e2, k, h => by cases h; rfl
  | .v p :: l, f, e, e2, k, h => putO_len (l := l) h
  | .o n :: l, f, e, e2, k, h => by
    simp only [putO] at h
    split at h
    · rw [putO_len (l := l) h, List.length_set]
    · cases h
theorem putO_at : ∀ {l : List Ar} {f e e2 : En} {k : Nat}, putO f k l e = some e2 → (slots l).Nodup → ∀ i j : Nat, l[j]? = some (Ar.o i) → i < e.length → ∃ p, f[k + j]? = some (some p) ∧ e2[i]? = some (some p)
  | [], f, e, e2, k, h, _, i, j, hj, _ => by simp at hj
  | .v p :: l, f, e, e2, k, h, hn, i, j, hj, hl => by
    cases j with
    | zero => simp at hj
    | succ j =>
      obtain ⟨p, h1, h2⟩ := putO_at (l := l) h hn i j (by simpa using hj) hl
      exact ⟨p, by rw [← h1]; congr 1; omega, h2⟩
  | .o n :: l, f, e, e2, k, h, hn, i, j, hj, hl => by
    have hn' : (n :: slots l).Nodup := hn
    rw [List.nodup_cons] at hn'
    simp only [putO] at h
    split at h
    · rename_i p hp
      cases j with
      | zero =>
        simp at hj
        subst hj
        refine ⟨p, by simpa using hp, ?_⟩
        rw [putO_get h n fun j q => hn'.1 (List.mem_filterMap.mpr ⟨_, List.mem_of_getElem? q, rfl⟩)]
        rw [List.getElem?_set_self hl]
      | succ j =>
        obtain ⟨p, h1, h2⟩ := putO_at (l := l) h hn'.2 i j (by simpa using hj) (by rw [List.length_set]; exact hl)
        exact ⟨p, by rw [← h1]; congr 1; omega, h2⟩
    · cases h
/-- behind a call the frame's names stand as the mirror says -/
theorem ER.called {S : Se} {G : Addr → Prop} {σ : L2.St} {H H' : Hp} {e e2 f : En} {l : List Ar} {vs : List V} (R : ER S G ow σ H e) (A : ArAt ow S H (Gd G ow σ) σ vs l) (hw : ∀ k i : Nat, l[k]? = some (Ar.o i) → ∃ p, e[i]? = some (some p)) (hn : (slots l).Nodup)
    (hp : putO f 0 l e = some e2)
    (keep : Keep (fun a => ∃ k, isO l k = true ∧ vs[k]? = some (.ref a)) H H')
    (htb : ∀ p ∈ S.T.l, LamX.TabS H' p.1 p.2) (back : ∀ k p', isO l k = true → f[k]? = some (some p') → ∃ w, vs[k]? = some w ∧ At S H' (Gd G ow σ) w p') : Keep (Own ow σ) H H' ∧ ER S G ow σ H' e2 := by
  have ks : Keep (Own ow σ) H H' := ⟨fun a o e1 n nt => keep.kp a o e1 (fun ⟨k, hk, z⟩ => by
    obtain ⟨i, hi⟩ := isO_some hk
    obtain ⟨x, h1, h2, h3⟩ := A.getO hi
    rw [z] at h1; cases h1
    exact n ⟨i, h3, h2⟩) nt⟩
  refine ⟨ks, ⟨fun i p h1 h2 => ?_, fun i p h1 h2 => ?_, fun i hi q => ?_, R.sep, R.ng, fun a g => ?_, htb, ?_⟩⟩
  · have : e2[i]? = e[i]? := putO_get hp i fun j q => h2 (let ⟨_, _, _, z⟩ := A.getO q; z)
    rw [this] at h1
    obtain ⟨v, h3, h4⟩ := R.val i p h1 h2
    exact ⟨v, h3, h4.mono ks.gd Less.refl⟩
  · by_cases q : ∃ j : Nat, l[j]? = some (Ar.o i)
    · obtain ⟨j, hj⟩ := q
      obtain ⟨p0, he⟩ := hw j i hj
      obtain ⟨p', h3, h4⟩ := putO_at hp hn i j hj (List.getElem?_eq_some_iff.mp he).1
      rw [h1] at h4; cases h4
      rw [Nat.zero_add] at h3
      obtain ⟨w, h5, h6⟩ := back j p (by unfold isO; rw [hj]) h3
      obtain ⟨x, h7, h8, _⟩ := A.getO hj
      rw [h5] at h7; cases h7
      exact ⟨w, h8, h6⟩
    · have : e2[i]? = e[i]? := putO_get hp i fun j z => q ⟨j, z⟩
      rw [this] at h1
      obtain ⟨v, h3, h4⟩ := R.own i p h1 h2
      refine ⟨v, h3, h4.mono ks.gd Less.refl fun a z => ?_⟩
      obtain ⟨b, e3, e4⟩ := h4.ref
      subst z; cases e3
      obtain ⟨o, h5, nt⟩ := e4
      rw [h5]
      refine keep.kp a o h5 (fun ⟨k, hk, z⟩ => ?_) nt
      obtain ⟨i', hi'⟩ := isO_some hk
      obtain ⟨x, h7, h8, h9⟩ := A.getO hi'
      rw [z] at h7; cases h7
      exact q ⟨k, R.sep i' i a h9 h2 h8 h3 ▸ hi'⟩
  · refine R.off i hi fun p z => ?_
    by_cases q' : ∃ j : Nat, l[j]? = some (Ar.o i)
    · obtain ⟨j, hj⟩ := q'
      obtain ⟨p', h3, h4⟩ := putO_at hp hn i j hj (List.getElem?_eq_some_iff.mp z).1
      exact q p' h4
    · have : e2[i]? = e[i]? := putO_get hp i fun j z => q' ⟨j, z⟩
      exact q p (this.trans z)
  · obtain ⟨o, h5, nt⟩ := R.gt a g
    refine ⟨o, keep.kp a o h5 (fun ⟨k, hk, z⟩ => ?_) nt, nt⟩
    obtain ⟨i', hi'⟩ := isO_some hk
    obtain ⟨x, h7, h8, h9⟩ := A.getO hi'
    rw [z] at h7; cases h7
    exact R.ng i' a h9 h8 g
  · rw [putO_len hp]; exact R.len
end
end M

namespace M
open PySem PySem.Spec PyProof.Rows L2

/-! ### calls of own defs -/
structure Dn (P : Program) (w : World) (K : PySem.W.Frag) (mg : Str → Option Value) (T : Tt) (base : Heap) (CX : CXT) (x : Str) (k n : Nat) (io : List Nat) (mf : List PV → Out PV) : Prop where
  ex : ∃ f fd ps, FnOk P w K mg base CX k f fd ps (spM ⟨K, mg, T⟩ n io mf) ∧ mg x = some (.ref f) ∧ PySem.W.keepIn K (.ref f) = true ∧ Binds K fd ps []
section
variable {X : Cx} {F : Fm} {ow : List Nat}
theorem argsOf_o {e : En} : ∀ {l : List Ar} {ps : List PV} {k i : Nat}, argsOf e l = some ps → l[k]? = some (Ar.o i) → ∃ p, e[i]? = some (some p) ∧ ps[k]? = some p
  | [], ps, k, i, h, q => by simp at q
  | .v p0 :: l, ps, k, i, h, q => by
    simp only [argsOf] at h
    cases h1 : argsOf e l with
    | none => rw [h1] at h; cases h
    | some r =>
      rw [h1] at h
      cases h
      cases k with
      | zero => simp at q
      | succ k => simpa using argsOf_o (k := k) h1 (by simpa using q)
  | .o j :: l, ps, k, i, h, q => by
    simp only [argsOf] at h
    split at h
    · rename_i p0 he
      cases h1 : argsOf e l with
      | none => rw [h1] at h; cases h
      | some r =>
        rw [h1] at h
        cases h
        cases k with
        | zero => simp at q; subst q; exact ⟨p0, he, rfl⟩
        | succ k => simpa using argsOf_o (k := k) h1 (by simpa using q)
    · cases h
theorem isO_of {l : List Ar} {k i : Nat} (h : l[k]? = some (Ar.o i)) : isO l k = true := by unfold isO; rw [h]
/-- the callee's promise, from the mirror of the call -/
theorem def_go {n : Nat} {io : List Nat} {mf : List PV → Out PV} {ml : Mo (List Ar)} {E : XK} (hW : ∀ cls d σ H, F.W cls d σ H → E cls d H) {σ : L2.St} {H : Hp} {Q : VK} (h : rd F ow (mDef n io mf ml) σ H Q) :
    tCall (spM F.S n io mf) [] E (rdR F ow ml) σ H Q := by
  obtain ⟨e, R, p⟩ := h
  refine ⟨e, R, (Post.unbind p).mono fun l e1 H1 k1 R1 p1 vs A => ?_⟩
  show spM F.S n io mf (vs ++ []) H1 Q E
  rw [List.append_nil]
  split at p1
  · rename_i hc
    obtain ⟨hl, hio, hn⟩ := hc
    cases ha : argsOf e1 l with
    | none => simp only [ha] at p1; exact p1.elim
    | some ps =>
      simp only [ha] at p1
      have hw : ∀ k i : Nat, l[k]? = some (Ar.o i) → ∃ p, e1[i]? = some (some p) := fun k i hi => let ⟨p, h1, _⟩ := argsOf_o ha hi; ⟨p, h1⟩
      have hv : vs.length = n := by rw [A.length, hl]
      have lt : ∀ {k : Nat} {p : PV}, ps[k]? = some p → k < n := fun {k p} q => by
        have := (List.getElem?_eq_some_iff.mp q).1
        rw [argsOf_length ha, hl] at this
        exact this
      have vlt : ∀ {k : Nat} {a : Addr}, vs[k]? = some (.ref a) → k < n := fun {k a} q => by
        have := (List.getElem?_eq_some_iff.mp q).1
        rw [hv] at this
        exact this
      have nof : ∀ {k : Nat}, isO l k = true → k < n := fun {k} q => by
        obtain ⟨i, hi⟩ := isO_some q
        have := (List.getElem?_eq_some_iff.mp hi).1
        omega
      refine ⟨Gd F.G ow σ, ps, hv, by rw [argsOf_length ha, hl], R1.tracked, R1.tb, fun k p q nk => ?_, fun k p q ik => ?_, fun k k' a ik ik' q q' => ?_, ?_⟩
      · rcases argsOf_get ha q with z | ⟨i, z, _⟩
        · exact A.getV z
        · exact absurd ((hio k (lt q)).mpr (isO_of z)) nk
      · rcases argsOf_get ha q with z | ⟨i, z, he⟩
        · have := (hio k (lt q)).mp ik
          obtain ⟨i, hi⟩ := isO_some this
          rw [z] at hi; cases hi
        · obtain ⟨x, h1, h2, h3⟩ := A.getO z
          obtain ⟨v, h4, h5⟩ := R1.own i p he h3
          rw [h2] at h4; cases h4
          obtain ⟨a, h6, h7⟩ := h5.ref
          subst h6
          exact ⟨a, h1, .inr ⟨i, h3, h2⟩, h5⟩
      · obtain ⟨i, hi⟩ := isO_some ((hio k (vlt q)).mp ik)
        obtain ⟨i', hi'⟩ := isO_some ((hio k' (vlt q')).mp ik')
        obtain ⟨x, h1, h2, h3⟩ := A.getO hi
        obtain ⟨x', h1', h2', h3'⟩ := A.getO hi'
        rw [q] at h1; cases h1
        rw [q'] at h1'; cases h1'
        have := R1.sep i i' a h3 h3' h2 h2'
        subst this
        exact slots_inj hn hi hi'
      · have keepO : ∀ {H' : Hp}, Keep (fun a => ∃ k, k ∈ io ∧ vs[k]? = some (.ref a)) H1 H' → Keep (fun a => ∃ k, isO l k = true ∧ vs[k]? = some (.ref a)) H1 H' := fun {H'} kp => ⟨fun a o e1 z nt => kp.kp a o e1 (fun ⟨k, ik, q⟩ => z ⟨k, (hio k (vlt q)).mp ik, q⟩) nt⟩
        cases hm : mf ps with
        | bad => simp only [hm] at p1; exact p1.elim
        | ok p f =>
          simp only [hm] at p1 ⊢
          cases hp : putO f 0 l e1 with
          | none => simp only [hp] at p1; exact p1.elim
          | some e2 =>
            simp only [hp] at p1
            intro v H' kp tbs rv bk
            obtain ⟨ks, R2⟩ := R1.called A hw hn hp (keepO kp) tbs fun k p' ik q => bk k p' ((hio k (nof ik)).mpr ik) q
            exact p1 H' ks R2 v rv
        | exc x f =>
          simp only [hm] at p1 ⊢
          cases hp : putO f 0 l e1 with
          | none => simp only [hp] at p1; exact p1.elim
          | some e2 =>
            simp only [hp] at p1
            intro cls d H' kp tbs rv bk
            obtain ⟨ks, R2⟩ := R1.called A hw hn hp (keepO kp) tbs fun k p' ik q => bk k p' ((hio k (nof ik)).mpr ik) q
            exact hW _ _ _ _ (p1 H' cls d ks R2 rv)
  · exact p1.elim
theorem pm_def {CX : CXT} {x : Str} {k n : Nat} {io : List Nat} {mf : List PV → Out PV} {ml : Mo (List Ar)} {E : XK} {p pos : Pos} {a : Expr} {es : List Expr} (D : Dn X.prog X.w X.K X.mg F.S.T X.base CX x k n io mf) (hr : Room k X.A) (hg : Gl X x) (hx : Passes CX X E) (hW : ∀ cls d σ H, F.W cls d σ H → E cls d H)
    (ha : PA X (a :: es) (rdR F ow ml)) (hS : F.S = ⟨X.K, X.mg, F.S.T⟩ := by rfl) (hd : (x == ("__debug__" : Str)) = false := by decide) (hs : starEach (a :: es) X.env = (false, eval a X.env) :: starEach es X.env := by rfl)
    (hs2 : ((backTo pos (starEach es X.env)).any fun x => x.1) = false := by rfl) : PE X (.Call (.Name x p) (a :: es) [] pos) (rd F ow (mDef n io mf ml)) := by
  obtain ⟨f, fd, ps, G, hm, hk, hb⟩ := D.ex
  exact (pe_call G hr hg hm hk hb .nil hx ha hd hs hs2).imp fun σ H Q h => by
    have z := def_go hW h
    rw [hS] at z
    exact z
end

/-! ### statements -/
theorem At.rv {S : Se} {H : Hp} {O O' : Addr → Prop} {v : V} {p : PV} (h : At S H O v p) (q : Less H O O') (no : ∀ a, v = .ref a → ¬ O' a) : RV S H O' v p := by
  cases p with
  | lst l => obtain ⟨a, vs, rfl, e1, t⟩ := h; exact .lst (no a rfl) e1 (t.mono Keep.refl q)
  | dK l => obtain ⟨a, vs, rfl, e1, t⟩ := h; exact .dK (no a rfl) e1 (t.mono Keep.refl q)
  | dT l => obtain ⟨a, vs, rfl, e1, t⟩ := h; exact .dT (no a rfl) e1 (t.mono Keep.refl q)
  | _ => exact h.elim
inductive SOut where
  | nxt (e : En) | ret (p : PV) (e : En) | brk (e : En) | cnt (e : En) | exc (x : Ex) (e : En) | bad
abbrev Ms := En → SOut
structure KeepS (ow : List Nat) (σ : L2.St) (H : Hp) (ow' : List Nat) (σ' : L2.St) (H' : Hp) : Prop where
  kp : ∀ a o, H a = some o → ¬ Own ow σ a → NT o → H' a = some o ∧ ¬ Own ow' σ' a
def Stay (io : List Nat) (σ σ' : L2.St) : Prop := ∀ k, k ∈ io → σ'[k]? = σ[k]?
def IoAt (F : Fm) (σ : L2.St) (H : Hp) (e : En) : Prop := ∀ k p, k ∈ F.io → e[k]? = some (some p) → ∃ v, σ[k]? = some (some v) ∧ At F.S H (Gd F.G F.io σ) v p
def PostS (F : Fm) (ow ow' ob : List Nat) (σ : L2.St) (H : Hp) (D : Ends) (o : SOut) : Prop := match o with
  | .nxt e => ∀ σ' H', KeepS ow σ H ow' σ' H' → Stay F.io σ σ' → ER F.S F.G ow' σ' H' e → D.nx σ' H'
  | .brk e => ∀ σ' H', KeepS ow σ H ob σ' H' → Stay F.io σ σ' → ER F.S F.G ob σ' H' e → D.bk σ' H'
  | .cnt e => ∀ σ' H', KeepS ow σ H ob σ' H' → Stay F.io σ σ' → ER F.S F.G ob σ' H' e → D.ct σ' H'
  | .ret p e => ∀ v H', Keep (Own ow σ) H H' → LamX.Tabs F.S.T.l H' → IoAt F σ H' e → RV F.S H' (Gd F.G F.io σ) v p → D.rt v H'
  | .exc x e => ∀ σ' oz H' cls d, KeepS ow σ H oz σ' H' → Stay F.io σ σ' → ER F.S F.G oz σ' H' e → ExAt F.S H' (Gd F.G oz σ') cls d x → F.W cls d σ' H'
  | .bad => False
def rdS (F : Fm) (ow ow' ob : List Nat) (m : Ms) : TS := fun D σ H => ∃ e, ER F.S F.G ow σ H e ∧ PostS F ow ow' ob σ H D (m e)
section
variable {X : Cx} {F : Fm} {ow ow' ow1 ow2 ob : List Nat} {σ σ1 σ2 : L2.St} {H H1 H2 : Hp}
theorem KeepS.refl : KeepS ow σ H ow σ H := ⟨fun a o e n _ => ⟨e, n⟩⟩
theorem KeepS.trans (a : KeepS ow σ H ow1 σ1 H1) (b : KeepS ow1 σ1 H1 ow2 σ2 H2) : KeepS ow σ H ow2 σ2 H2 := ⟨fun z o e n t => let ⟨e1, n1⟩ := a.kp z o e n t; b.kp z o e1 n1 t⟩
theorem KeepS.of (k : Keep (Own ow σ) H H1) : KeepS ow σ H ow σ H1 := ⟨fun a o e n t => ⟨k.kp a o e n t, n⟩⟩
theorem KeepS.less (a : KeepS ow σ H ow1 σ1 H1) (h : ∀ i ∈ ow2, i ∈ ow1) : KeepS ow σ H ow2 σ1 H1 := ⟨fun z o e n t => let ⟨e1, n1⟩ := a.kp z o e n t; ⟨e1, fun q => n1 (q.less h)⟩⟩
theorem KeepS.keep (a : KeepS ow σ H ow1 σ1 H1) : Keep (Own ow σ) H H1 := ⟨fun z o e n t => (a.kp z o e n t).1⟩
theorem Stay.refl {io : List Nat} : Stay io σ σ := fun _ _ => rfl
theorem Stay.trans {io : List Nat} (a : Stay io σ σ1) (b : Stay io σ1 σ2) : Stay io σ σ2 := fun k h => (b k h).trans (a k h)
theorem Stay.own {io : List Nat} (a : Stay io σ σ1) {z : Addr} (h : Own io σ z) : Own io σ1 z := let ⟨i, hi, e⟩ := h; ⟨i, hi, (a i hi).trans e⟩
theorem Stay.own' {io : List Nat} (a : Stay io σ σ1) {z : Addr} (h : Own io σ1 z) : Own io σ z := let ⟨i, hi, e⟩ := h; ⟨i, hi, (a i hi).symm.trans e⟩
theorem Stay.gd {io : List Nat} {G : Addr → Prop} (a : Stay io σ σ1) : Gd G io σ = Gd G io σ1 := funext fun z => propext ⟨Or.imp id a.own, Or.imp id a.own'⟩
theorem PostS.from {D : Ends} {o : SOut} (p : PostS F ow ow' ob σ H D o) (k : KeepS ow σ H ow1 σ1 H1) (st : Stay F.io σ σ1) : PostS F ow1 ow' ob σ1 H1 D o := by
  cases o with
  | nxt e => exact fun σ2 H2 k2 s2 R => p σ2 H2 (k.trans k2) (st.trans s2) R
  | brk e => exact fun σ2 H2 k2 s2 R => p σ2 H2 (k.trans k2) (st.trans s2) R
  | cnt e => exact fun σ2 H2 k2 s2 R => p σ2 H2 (k.trans k2) (st.trans s2) R
  | exc x e => exact fun σ2 oz H2 c d k2 s2 R => p σ2 oz H2 c d (k.trans k2) (st.trans s2) R
  | bad => exact p
  | ret q e =>
    intro v H' k2 tbs io rv
    refine p v H' ⟨fun a o e n t => let ⟨e1, n1⟩ := k.kp a o e n t; k2.kp a o e1 n1 t⟩ tbs (fun j p hj he => ?_) ?_
    · obtain ⟨v, h1, h2⟩ := io j p hj he
      exact ⟨v, (st j hj).symm.trans h1, by rw [st.gd]; exact h2⟩
    · rw [st.gd]; exact rv
/-- from the expression's end to the statement's -/
theorem Post.stmt {α : Type} {D : Ends} {o : Out α} {f : α → En → SOut} (p : PostS F ow ow' ob σ H D (match o with | .ok a e => f a e | .exc x e => .exc x e | .bad => .bad)) :
    Post F ow σ H o fun a e H1 => PostS F ow ow' ob σ H1 D (f a e) := by
  cases o with
  | ok a e => exact fun H1 k R => PostS.from p (KeepS.of k) Stay.refl
  | exc x e => exact fun H1 c d k R x1 => p σ ow H1 c d (KeepS.of k) Stay.refl R x1
  | bad => exact p
def SOut.of {α : Type} (o : Out α) (f : α → En → SOut) : SOut := match o with
  | .ok a e => f a e
  | .exc x e => .exc x e
  | .bad => .bad
def mSeq (a b : Ms) : Ms := fun e => match a e with
  | .nxt e1 => b e1
  | o => o
def mNext : Ms := fun e => .nxt e
theorem pms_nil (h : ∀ i ∈ ow', i ∈ ow := by decide) : PSs X [] (rdS F ow ow' ob mNext) := pss_nil.imp fun D σ H ⟨e, R, p⟩ => p σ H (KeepS.refl.less h) Stay.refl (R.less h)
theorem pms_cons {st : Stmt} {rest : List Stmt} {a b : Ms} (h1 : PS X st (rdS F ow ow1 ob a)) (h2 : PSs X rest (rdS F ow2 ow' ob b)) (h : ∀ i ∈ ow2, i ∈ ow1 := by decide) : PSs X (st :: rest) (rdS F ow ow' ob (mSeq a b)) :=
  (pss_cons h1 h2).imp fun D σ H ⟨e, R, p⟩ => by
    refine ⟨e, R, ?_⟩
    unfold mSeq at p
    cases q : a e with
    | nxt e1 =>
      rw [q] at p
      exact fun σ1 H1 k st R1 => ⟨e1, R1.less h, PostS.from p (k.less h) st⟩
    | ret v e1 => rw [q] at p; exact p
    | brk e1 => rw [q] at p; exact p
    | cnt e1 => rw [q] at p; exact p
    | exc x e1 => rw [q] at p; exact p
    | bad => rw [q] at p; exact p
theorem pms_one {st : Stmt} {a : Ms} (h1 : PS X st (rdS F ow ow1 ob a)) (h : ∀ i ∈ ow', i ∈ ow1 := by decide) : PSs X [st] (rdS F ow ow' ob a) :=
  (pss_one h1).imp fun D σ H ⟨e, R, p⟩ => by
    refine ⟨e, R, ?_⟩
    cases q : a e with
    | nxt e1 => rw [q] at p; exact fun σ1 H1 k st R1 => p σ1 H1 (k.less h) st (R1.less h)
    | ret v e1 => rw [q] at p; exact p
    | brk e1 => rw [q] at p; exact p
    | cnt e1 => rw [q] at p; exact p
    | exc x e1 => rw [q] at p; exact p
    | bad => rw [q] at p; exact p
/-- fewer names are ahead: those that are let go -/
theorem pms_less {sts : List Stmt} {a : Ms} (h1 : PSs X sts (rdS F ow1 ow' ob a)) (h : ∀ i ∈ ow1, i ∈ ow := by decide) : PSs X sts (rdS F ow ow' ob a) :=
  h1.imp fun D σ H ⟨e, R, p⟩ => ⟨e, R.less h, PostS.from p (KeepS.refl.less h) Stay.refl⟩
def mBrk : Ms := fun e => .brk e
def mCnt : Ms := fun e => .cnt e
/-- a statement that is never reached -/
def mBad : Ms := fun _ => .bad
theorem pmt_never {st : Stmt} : PS X st (rdS F ow ow' ob mBad) := ps_never.imp fun D σ H ⟨e, R, p⟩ => p
def mExpr (m : Mo PV) : Ms := fun e => SOut.of (m e) fun _ e1 => .nxt e1
theorem pmt_expr {a : Expr} {m : Mo PV} {pos : Pos} (ha : PE X a (rd F ow m)) (hs : swapsWith a none pos.line X.env = pure false := by rfl) : PS X (.Expr a pos) (rdS F ow ow ob (mExpr m)) :=
  (ps_expr ha hs).imp fun D σ H ⟨e, R, p⟩ => ⟨e, R, (Post.stmt p).mono fun a e1 H1 k1 R1 p1 v rv => p1 σ H1 KeepS.refl Stay.refl R1⟩
theorem ER.ioAt (R : ER F.S F.G ow σ H e) (h : ∀ i ∈ F.io, i ∈ ow) : IoAt F σ H e := fun k p hk he => by
  obtain ⟨v, h1, h2⟩ := R.own k p he (h k hk)
  exact ⟨v, h1, h2.mono Keep.refl (fun a _ z => z.less h) fun _ _ => rfl⟩
def mRet (m : Mo PV) : Ms := fun e => SOut.of (m e) fun p e1 => .ret p e1
theorem pmt_ret {a : Expr} {m : Mo PV} {pos : Pos} (ha : PE X a (rd F ow m)) (h : ∀ i ∈ F.io, i ∈ ow := by first | decide | exact of_decide_eq_true rfl) : PS X (.Return (some a) pos) (rdS F ow ow' ob (mRet m)) :=
  (ps_ret ha).imp fun D σ H ⟨e, R, p⟩ => ⟨e, R, (Post.stmt p).mono fun a e1 H1 k1 R1 p1 v rv => p1 v H1 Keep.refl R1.tb (R1.ioAt h) (rv.mono Keep.refl fun a _ z => z.less h)⟩
def mRetN : Ms := fun e => .ret .non e
/-- a name of a cell of the frame's own is handed back -/
def mRetO (i : Nat) : Ms := fun e => match e[i]? with
  | some (some p) => .ret p e
  | _ => .bad
end
end M

namespace M
open PySem PySem.Spec PyProof.Rows L2

section
variable {X : Cx} {F : Fm} {ow ow' ow1 ow2 ob : List Nat} {σ σ1 σ2 : L2.St} {H H1 H2 : Hp}
/-! ### a name is stored -/
theorem own_set {i : Nat} {v : Option V} (hi : i ∉ ow) : Own ow (σ.set i v) = Own ow σ := by
  funext a
  apply propext
  constructor
  · rintro ⟨j, hj, e⟩
    have : i ≠ j := fun z => hi (z ▸ hj)
    rw [List.getElem?_set_ne this] at e
    exact ⟨j, hj, e⟩
  · rintro ⟨j, hj, e⟩
    have : i ≠ j := fun z => hi (z ▸ hj)
    exact ⟨j, hj, by rw [List.getElem?_set_ne this]; exact e⟩
theorem ER.set {S : Se} {G : Addr → Prop} {e : En} (R : ER S G ow σ H e) {i : Nat} {v : V} {p : PV} (hi : i ∉ ow) (rv : RV S H (Gd G ow σ) v p) : ER S G ow (σ.set i (some v)) H (e.set i (some p)) := by
  have og := own_set (σ := σ) (v := some v) hi
  have gg : Gd G ow (σ.set i (some v)) = Gd G ow σ := by unfold Gd; rw [og]
  have ne : ∀ j, j ∈ ow → i ≠ j := fun j hj z => hi (z ▸ hj)
  refine ⟨fun j q h1 h2 => ?_, fun j q h1 h2 => ?_, fun j hj h1 a => ?_, fun j k a hj hk h1 h2 => ?_, fun j a hj h1 => ?_, R.gt, R.tb, by rw [List.length_set, List.length_set]; exact R.len⟩
  · rw [gg]
    by_cases z : i = j
    · subst z
      have hl : i < e.length := by
        have := (List.getElem?_eq_some_iff.mp h1).1
        rw [List.length_set] at this
        exact this
      rw [List.getElem?_set_self hl] at h1
      cases h1
      exact ⟨v, List.getElem?_set_self (by rw [← R.len]; exact hl), rv⟩
    · rw [List.getElem?_set_ne z] at h1
      obtain ⟨w, h3, h4⟩ := R.val j q h1 h2
      exact ⟨w, by rw [List.getElem?_set_ne z]; exact h3, h4⟩
  · rw [gg]
    rw [List.getElem?_set_ne (ne j h2)] at h1
    obtain ⟨w, h3, h4⟩ := R.own j q h1 h2
    exact ⟨w, by rw [List.getElem?_set_ne (ne j h2)]; exact h3, h4⟩
  · rw [List.getElem?_set_ne (ne j hj)]
    exact R.off j hj (fun p z => h1 p (by rw [List.getElem?_set_ne (ne j hj)]; exact z)) a
  · rw [List.getElem?_set_ne (ne j hj)] at h1
    rw [List.getElem?_set_ne (ne k hk)] at h2
    exact R.sep j k a hj hk h1 h2
  · rw [List.getElem?_set_ne (ne j hj)] at h1
    exact R.ng j a hj h1
theorem KeepS.set {i : Nat} {v : Option V} (hi : i ∉ ow) : KeepS ow σ H ow (σ.set i v) H := ⟨fun a o e n _ => ⟨e, by rw [own_set hi]; exact n⟩⟩
theorem Stay.set {io : List Nat} {i : Nat} {v : Option V} (hi : i ∉ io) : Stay io σ (σ.set i v) := fun k hk => by
  have : i ≠ k := fun z => hi (z ▸ hk)
  rw [List.getElem?_set_ne this]
def mSet (i : Nat) (m : Mo PV) : Ms := fun e => SOut.of (m e) fun p e1 => .nxt (e1.set i (some p))
theorem pmt_set (i : Nat) {x : Str} {a : Expr} {m : Mo PV} {pos pos' : Pos} (hN : X.N.Nodup) (ha : PE X a (rd F ow m)) (hi : i ∉ ow := by decide) (hio : i ∉ F.io := by first | decide | exact of_decide_eq_true rfl) (hx : X.N[i]? = some x := by rfl) (hl : L2.Loc X.env.scope x := by first | exact .inl rfl | exact .inr rfl)
    (hs : swapsWith a (some (.Name x pos')) pos.line X.env = pure false := by rfl) (hf : X.fn x = true ∨ X.env.scope.names.lookup x = some .local := by first | exact .inl rfl | exact .inr rfl) : PS X (.Assign [.Name x pos'] a pos) (rdS F ow ow ob (mSet i m)) :=
  (ps_set hN hx hl ha hs hf).imp fun D σ H ⟨e, R, p⟩ => ⟨e, R, (Post.stmt p).mono fun a e1 H1 k1 R1 p1 v rv => p1 _ H1 (KeepS.set hi) (Stay.set hio) (R1.set hi rv)⟩
/-- x op= e, of ints -/
def mAug (g : PV → PV → Option PV) (i : Nat) (m : Mo PV) : Ms := fun e => match e[i]? with
  | some (some p) => SOut.of ((m e).bind fun q e1 => lift (g p q) e1) fun r e2 => .nxt (e2.set i (some r))
  | _ => .bad
/-! ### if -/
def mIfS (t : Mo Bool) (a b : Ms) : Ms := fun e => SOut.of (t e) fun k e1 => if k = true then a e1 else b e1
theorem pmt_if {c : Expr} {p q : List Stmt} {t : Mo Bool} {a b : Ms} {pos : Pos} (hc : PT X c (rdT F ow t)) (ha : PSs X p (rdS F ow ow' ob a)) (hb : PSs X q (rdS F ow ow' ob b)) : PS X (.If c p q pos) (rdS F ow ow' ob (mIfS t a b)) :=
  (ps_if hc ha hb).imp fun D σ H ⟨e, R, p⟩ => ⟨e, R, (Post.stmt p).mono fun k e1 H1 k1 R1 p1 => by
    cases k with
    | true => exact ⟨e1, R1, p1⟩
    | false => exact ⟨e1, R1, p1⟩⟩
/-! ### several names at once -/
/-- the names' stores, from the left -/
def setAll : List Nat → List PV → En → Option En
  | [], [], e => some e
  | i :: is, p :: ps, e => setAll is ps (e.set i (some p))
  | _, _, _ => none
def gNms : List Nat → TGs
  | [] => gNil
  | i :: is => gCons (gName i) (gNms is)
theorem setAll_go {S : Se} {G : Addr → Prop} {io : List Nat} : ∀ {is : List Nat} {ps : List PV} {vs : List V} {e e' : En} {σ : L2.St}, setAll is ps e = some e' → (∀ i ∈ is, i ∉ ow) → (∀ i ∈ is, i ∉ io) → RVs S H (Gd G ow σ) vs ps → ER S G ow σ H e →
    ∀ Q : L2.St → Hp → Prop, (∀ σ', KeepS ow σ H ow σ' H → Stay io σ σ' → ER S G ow σ' H e' → Q σ' H) → gNms is vs σ H Q
  | [], [], vs, e, e', σ, h, _, _, r, R, Q, q => by
    cases h
    cases r
    exact ⟨rfl, q σ KeepS.refl Stay.refl R⟩
  | i :: is, p :: ps, vs, e, e', σ, h, h1, h2, r, R, Q, q => by
    cases r with
    | cons r t =>
      rename_i v vs
      refine ⟨v, vs, rfl, ?_⟩
      have ni := h1 i List.mem_cons_self
      have og : Gd G ow (σ.set i (some v)) = Gd G ow σ := by unfold Gd; rw [own_set ni]
      refine setAll_go (is := is) (io := io) h (fun j hj => h1 j (List.mem_cons_of_mem _ hj)) (fun j hj => h2 j (List.mem_cons_of_mem _ hj)) (by rw [og]; exact t) (R.set ni r) Q fun σ' k s R' => ?_
      exact q σ' ((KeepS.set ni).trans k) ((Stay.set (h2 i List.mem_cons_self)).trans s) R'
  | [], _ :: _, _, _, _, _, h, _, _, _, _, _, _ => by cases h
  | _ :: _, [], _, _, _, _, h, _, _, _, _, _, _ => by cases h
def mUnp (is : List Nat) (m : Mo PV) : Ms := fun e => SOut.of (m e) fun p e1 => match p with
  | .tup l => match setAll is l e1 with
    | some e2 => .nxt e2
    | none => .bad
  | _ => .bad
theorem setAll_len : ∀ {is : List Nat} {ps : List PV} {e e' : En}, setAll is ps e = some e' → ps.length = is.length
  | [], [], e, e', h => rfl
  | i :: is, p :: ps, e, e', h => congrArg Nat.succ (setAll_len (is := is) (ps := ps) h)
  | [], _ :: _, _, _, h => by cases h
  | _ :: _, [], _, _, h => by cases h
/-- a, b, .. = a tuple -/
theorem pmt_unp (is : List Nat) {es : List Expr} {a : Expr} {m : Mo PV} {k : Nat} {pos pos' : Pos} (ha : PE X a (rd F ow m)) (hg : PGs X es (gNms is)) (hi : ∀ i ∈ is, i ∉ ow := by decide) (hio : ∀ i ∈ is, i ∉ F.io := by first | decide | exact of_decide_eq_true rfl) (hS : F.S = ⟨X.K, X.mg, F.S.T⟩ := by rfl) (hc : X.calm = true := by rfl)
    (hn : (assignEach es X.env).length = is.length := by rfl) (hst : (assignEach es X.env).findIdx? (·.1) = none := by rfl)
    (hs : swapsWithSole [.Tuple es k pos'] a pos.line X.env = pure false := by rfl) (hw : swappedStores [.Tuple es k pos'] a X.env = pure none := by rfl)
    (h1 : (assignEach [.Tuple es k pos'] X.env).map (·.2) = [assign (.Tuple es k pos') X.env] := by rfl) : PS X (.Assign [.Tuple es k pos'] a pos) (rdS F ow ow ob (mUnp is m)) :=
  (ps_asg ha (pg_tup (n := is.length) hc hg hn hst) hs hw h1).imp fun D σ H ⟨e, R, p⟩ => ⟨e, R, (Post.stmt p).mono fun a e1 H1 k1 R1 p1 v rv => by
    have hK : F.S.K = X.K := by rw [hS]
    cases a with
    | tup l =>
      simp only [] at p1
      cases q : setAll is l e1 with
      | none => simp only [q] at p1; exact p1.elim
      | some e2 =>
        simp only [q] at p1
        obtain ⟨a, vs, rfl, h3, t⟩ := rv.isT
        exact ⟨a, vs, rfl, hK ▸ h3, by rw [t.length, setAll_len q], setAll_go q hi hio t R1 _ fun σ' k s R' => p1 σ' H1 k s R'⟩
    | _ => exact p1.elim⟩

/-! ### lists of one's own -/
def Fm.ext (F : Fm) (a : Addr) : Fm := { F with G := fun z => F.G z ∨ z = a }
/-- an expression that makes a list of its own: no one else has it -/
def rdF (F : Fm) (ow : List Nat) (m : Mo PV) : TE := fun σ H Q => ∃ e, ER F.S F.G ow σ H e ∧ match m e with
  | .ok p e1 => ∀ a H', ¬ Hd H a → Keep (Own ow σ) H H' → ER F.S (F.ext a).G ow σ H' e1 → At F.S H' (Gd (F.ext a).G ow σ) (.ref a) p → Q (.ref a) H'
  | .exc x e1 => ∀ H' cls d, Keep (Own ow σ) H H' → ER F.S F.G ow σ H' e1 → ExAt F.S H' (Gd F.G ow σ) cls d x → F.W cls d σ H'
  | .bad => False
theorem fresh_of {S : Se} {G : Addr → Prop} {e e1 : En} (R : ER S G ow σ H e) (k : Keep (Own ow σ) H H1) (R1 : ER S G ow σ H1 e1) {p : Addr} (hn : ¬ Hd H1 p) : ¬ Hd H p := fun ⟨o, q, nt⟩ => by
  by_cases z : Own ow σ p
  · exact hn (R1.ownT z)
  · exact hn ⟨o, k.kp p o q z nt, nt⟩
theorem no_hd {p : Addr} (hn : H p = none) : ¬ Hd H p := fun h => h.ne hn
theorem ER.ext {S : Se} {G : Addr → Prop} {e : En} (R : ER S G ow σ H e) {p : Addr} {o : HO} (hn : H p = none) (nt : NTE o := by exact ⟨fun _ z => (by cases z), fun _ z => (by cases z)⟩) : ER S (fun z => G z ∨ z = p) ow σ (upd H p o) e := by
  have q : Less H (Gd G ow σ) (Gd (fun z => G z ∨ z = p) ow σ) := fun a h z => by
    rcases z with (z | z) | z
    · exact .inl z
    · subst z; exact absurd hn h.ne
    · exact .inr z
  refine ⟨fun i p1 h1 h2 => ?_, fun i p1 h1 h2 => ?_, R.off, R.sep, fun i a hi h z => ?_, fun a g => ?_, fun p hp => (R.tb p hp).ext fun z u e => (by rw [upd_ne (ne_of_none e hn)]; exact e), R.len⟩
  · obtain ⟨v, h3, h4⟩ := R.val i p1 h1 h2
    exact ⟨v, h3, h4.mono (Keep.upd hn) q⟩
  · obtain ⟨v, h3, h4⟩ := R.own i p1 h1 h2
    refine ⟨v, h3, h4.mono (Keep.upd hn) q fun a z => ?_⟩
    subst z
    obtain ⟨b, e3, e4⟩ := h4.ref
    cases e3
    rw [upd_ne fun z => e4.ne (by rw [z]; exact hn)]
  · rcases z with z | z
    · exact R.ng i a hi h z
    · subst z; exact (R.ownT ⟨i, hi, h⟩).ne hn
  · rcases g with g | g
    · obtain ⟨u, q1, q2⟩ := R.gt a g
      exact ⟨u, by rw [upd_ne (ne_of_none q1 hn)]; exact q1, q2⟩
    · subst g; exact ⟨_, upd_same, nt⟩
theorem RVs.ext {S : Se} {G : Addr → Prop} {e : En} (R : ER S G ow σ H e) {vs : List V} {l : List PV} {p : Addr} {o : HO} (r : RVs S H (Gd G ow σ) vs l) (hn : H p = none) : RVs S (upd H p o) (Gd (fun z => G z ∨ z = p) ow σ) vs l :=
  r.mono (Keep.upd hn) fun a h z => by
    rcases z with (z | z) | z
    · exact .inl z
    · subst z; exact absurd hn h.ne
    · exact .inr z
theorem pmf_lst {es : List Expr} {ml : Mo (List PV)} {pos : Pos} (h : PA X es (rdA F ow ml)) : PE X (.List es pos) (rdF F ow (mLst ml)) :=
  (pe_lst h).imp fun σ H Q ⟨e, R, p⟩ => by
    refine ⟨e, R, ?_⟩
    unfold mLst at p
    cases q : ml e with
    | bad => simp only [q, Out.bind] at p
    | exc x e1 => simp only [q, Out.bind] at p; exact p
    | ok l e1 =>
      simp only [q, Out.bind] at p
      intro H1 k1 R1 vs rs
      by_cases hl : l.length ≤ 1000
      · rw [if_pos hl] at p
        refine ⟨by rw [rs.length]; exact Nat.le_trans hl line1000, fun a hn => p a _ (fresh_of R k1 R1 (no_hd hn)) (k1.trans (Keep.upd hn)) (R1.ext hn) ⟨a, vs, rfl, upd_same, rs.ext R1 hn⟩⟩
      · rw [if_neg hl] at p; exact p.elim
/-- a name is given a list of its own -/
theorem ER.setO {S : Se} {G : Addr → Prop} {e : En} {i : Nat} {a : Addr} {p : PV} (R : ER S (fun z => G z ∨ z = a) ow σ H e) (h0 : ∀ z, G z → z ≠ a) (ra : At S H (Gd (fun z => G z ∨ z = a) ow σ) (.ref a) p) (h1 : ∀ j ∈ ow', j = i ∨ j ∈ ow) (h2 : ∀ j ∈ ow, j ∈ ow') (h3 : i ∈ ow') (hl : i < σ.length) :
    ER S G ow' (σ.set i (some (.ref a))) H (e.set i (some p)) := by
  have sub : ∀ z, Gd G ow' (σ.set i (some (.ref a))) z → Gd (fun z => G z ∨ z = a) ow σ z := fun z g => by
    rcases g with g | ⟨j, hj, e1⟩
    · exact .inl (.inl g)
    · by_cases q : i = j
      · subst q
        rw [List.getElem?_set_self hl] at e1
        cases e1
        exact .inl (.inr rfl)
      · rw [List.getElem?_set_ne q] at e1
        rcases h1 j hj with z | z
        · exact absurd z.symm q
        · exact .inr ⟨j, z, e1⟩
  have less : Less H (Gd (fun z => G z ∨ z = a) ow σ) (Gd G ow' (σ.set i (some (.ref a)))) := fun z _ g => sub z g
  have hle : i < e.length := by rw [R.len]; exact hl
  refine ⟨fun j q g1 g2 => ?_, fun j q g1 g2 => ?_, fun j hj g1 b => ?_, fun j k b hj hk g1 g2 => ?_, fun j b hj g1 => ?_, fun z g => R.gt z (.inl g), R.tb, by rw [List.length_set, List.length_set]; exact R.len⟩
  · have nj : i ≠ j := fun z => g2 (z ▸ h3)
    rw [List.getElem?_set_ne nj] at g1
    obtain ⟨v, g3, g4⟩ := R.val j q g1 fun z => g2 (h2 j z)
    exact ⟨v, by rw [List.getElem?_set_ne nj]; exact g3, g4.mono Keep.refl less⟩
  · by_cases nj : i = j
    · subst nj
      rw [List.getElem?_set_self hle] at g1
      cases g1
      exact ⟨.ref a, List.getElem?_set_self hl, ra.mono Keep.refl less fun _ _ => rfl⟩
    · rw [List.getElem?_set_ne nj] at g1
      obtain ⟨v, g3, g4⟩ := R.own j q g1 ((h1 j g2).elim (fun z => absurd z.symm nj) id)
      exact ⟨v, by rw [List.getElem?_set_ne nj]; exact g3, g4.mono Keep.refl less fun _ _ => rfl⟩
  · by_cases nj : i = j
    · subst nj
      exact absurd (List.getElem?_set_self hle) (g1 p)
    · rw [List.getElem?_set_ne nj]
      exact R.off j ((h1 j hj).elim (fun z => absurd z.symm nj) id) (fun q z => g1 q (by rw [List.getElem?_set_ne nj]; exact z)) b
  · have key : ∀ {j k : Nat}, i = j → k ∈ ow' → ¬ i = k → (σ.set i (some (V.ref a)))[j]? = some (some (.ref b)) → (σ.set i (some (V.ref a)))[k]? = some (some (.ref b)) → False := fun {j k} e1 hk nk g1 g2 => by
      subst e1
      rw [List.getElem?_set_self hl] at g1
      cases g1
      rw [List.getElem?_set_ne nk] at g2
      exact R.ng k a ((h1 k hk).elim (fun z => absurd z.symm nk) id) g2 (.inr rfl)
    by_cases nj : i = j
    · by_cases nk : i = k
      · exact nj.symm.trans nk
      · exact (key nj hk nk g1 g2).elim
    · by_cases nk : i = k
      · exact (key nk hj nj g2 g1).elim
      · rw [List.getElem?_set_ne nj] at g1
        rw [List.getElem?_set_ne nk] at g2
        exact R.sep j k b ((h1 j hj).elim (fun z => absurd z.symm nj) id) ((h1 k hk).elim (fun z => absurd z.symm nk) id) g1 g2
  · intro g
    by_cases nj : i = j
    · subst nj
      rw [List.getElem?_set_self hl] at g1
      cases g1
      exact h0 _ g rfl
    · rw [List.getElem?_set_ne nj] at g1
      exact R.ng j b ((h1 j hj).elim (fun z => absurd z.symm nj) id) g1 (.inl g)
theorem KeepS.setO {i : Nat} {a : Addr} (k : Keep (Own ow σ) H H1) (hn : ¬ Hd H a) (h1 : ∀ j ∈ ow', j = i ∨ j ∈ ow) (hl : i < σ.length) : KeepS ow σ H ow' (σ.set i (some (.ref a))) H1 := ⟨fun z o e n nt => by
  refine ⟨k.kp z o e n nt, fun ⟨j, hj, e1⟩ => ?_⟩
  by_cases q : i = j
  · subst q
    rw [List.getElem?_set_self hl] at e1
    cases e1
    exact hn ⟨o, e, nt⟩
  · rw [List.getElem?_set_ne q] at e1
    exact n ⟨j, (h1 j hj).elim (fun z => absurd z.symm q) id, e1⟩⟩
/-- x = a new list, whose cell is x's own from here on -/
def mSetO (i : Nat) (m : Mo PV) : Ms := fun e => SOut.of (m e) fun p e1 => if i < e1.length then .nxt (e1.set i (some p)) else .bad
theorem pmt_setO (i : Nat) {x : Str} {a : Expr} {m : Mo PV} {pos pos' : Pos} (hN : X.N.Nodup) (ha : PE X a (rdF F ow m)) (h1 : ∀ j ∈ ow', j = i ∨ j ∈ ow := by decide) (h2 : ∀ j ∈ ow, j ∈ ow' := by decide) (h3 : i ∈ ow' := by decide) (hio : i ∉ F.io := by first | decide | exact of_decide_eq_true rfl) (hx : X.N[i]? = some x := by rfl) (hl : L2.Loc X.env.scope x := by first | exact .inl rfl | exact .inr rfl)
    (hs : swapsWith a (some (.Name x pos')) pos.line X.env = pure false := by rfl) (hf : X.fn x = true ∨ X.env.scope.names.lookup x = some .local := by first | exact .inl rfl | exact .inr rfl) : PS X (.Assign [.Name x pos'] a pos) (rdS F ow ow' ob (mSetO i m)) :=
  (ps_set hN hx hl ha hs hf).imp fun D σ H ⟨e, R, p⟩ => by
    refine ⟨e, R, ?_⟩
    unfold mSetO at p
    cases q : m e with
    | bad => simp only [q, SOut.of] at p; exact p.elim
    | exc x e1 => simp only [q, SOut.of] at p; exact fun H1 c d k R1 x1 => p σ ow H1 c d (KeepS.of k) Stay.refl R1 x1
    | ok pv e1 =>
      simp only [q, SOut.of] at p
      intro a H1 hn k R1 ra
      split at p
      · rename_i hle
        have hl : i < σ.length := by rw [← R1.len]; exact hle
        have h0 : ∀ z, F.G z → z ≠ a := fun z g e1 => by subst e1; exact hn (R.gt z g)
        exact p _ H1 (KeepS.setO k hn h1 hl) (Stay.set hio) (R1.setO h0 ra h1 h2 h3 hl)
      · exact p.elim

/-! ### several values at once, some of them lists of one's own -/
inductive GV (S : Se) (H : Hp) (O : Addr → Prop) : List Bool → List V → List PV → List Addr → Prop
  | nil : GV S H O [] [] [] []
  | v {v : V} {p : PV} {fl : List Bool} {vs : List V} {l : List PV} {as : List Addr} : RV S H O v p → GV S H O fl vs l as → GV S H O (false :: fl) (v :: vs) (p :: l) as
  | o {a : Addr} {p : PV} {fl : List Bool} {vs : List V} {l : List PV} {as : List Addr} : At S H O (.ref a) p → GV S H O fl vs l as → GV S H O (true :: fl) (.ref a :: vs) (p :: l) (a :: as)
def Fm.exts (F : Fm) (as : List Addr) : Fm := { F with G := fun z => F.G z ∨ z ∈ as }
def rdG (F : Fm) (ow : List Nat) (fl : List Bool) (m : Mo (List PV)) : TA := fun σ H Q => ∃ e, ER F.S F.G ow σ H e ∧ match m e with
  | .ok l e1 => ∀ vs as H', Keep (Own ow σ) H H' → (∀ a ∈ as, ¬ Hd H a) → as.Nodup → ER F.S (F.exts as).G ow σ H' e1 → GV F.S H' (Gd (F.exts as).G ow σ) fl vs l as → Q vs H'
  | .exc x e1 => ∀ H' cls d, Keep (Own ow σ) H H' → ER F.S F.G ow σ H' e1 → ExAt F.S H' (Gd F.G ow σ) cls d x → F.W cls d σ H'
  | .bad => False
theorem exts_nil : (F.exts []).G = F.G := funext fun z => propext ⟨fun h => h.elim id fun q => (by cases q), .inl⟩
theorem pmg_nil : PA X [] (rdG F ow [] mNil) := pa_nil.imp fun σ H Q ⟨e, R, p⟩ => p [] [] H Keep.refl (fun a h => by cases h) List.nodup_nil (by rw [exts_nil]; exact R) .nil
theorem GV.mono {S : Se} {O O' : Addr → Prop} (k : Keep O H H1) (q : Less H O O') (s : ∀ a, H a ≠ none → O a → H1 a = H a ∨ True) : ∀ {fl : List Bool} {vs : List V} {l : List PV} {as : List Addr}, (∀ a ∈ as, H1 a = H a) → GV S H O fl vs l as → GV S H1 O' fl vs l as
  | _, _, _, _, _, .nil => .nil
  | _, _, _, _, h, .v r t => .v (r.mono k q) (GV.mono k q s h t)
  | _, _, _, _, h, .o r t => .o (r.mono k q fun a z => by cases z; exact h _ List.mem_cons_self) (GV.mono k q s (fun a ha => h a (List.mem_cons_of_mem _ ha)) t)
theorem pmg_v {a : Expr} {es : List Expr} {m : Mo PV} {ml : Mo (List PV)} {fl : List Bool} (ha : PE X a (rd F ow m)) (hr : PA X es (rdG F ow fl ml)) (hs : starEach (a :: es) X.env = (false, eval a X.env) :: starEach es X.env := by rfl) : PA X (a :: es) (rdG F ow (false :: fl) (mCons m ml)) :=
  (pa_cons ha hr hs).imp fun σ H Q ⟨e, R, p⟩ => by
    refine ⟨e, R, ?_⟩
    unfold mCons at p
    cases q : m e with
    | bad => simp only [q, Out.bind] at p
    | exc x e1 => simp only [q, Out.bind] at p; exact p
    | ok pv e1 =>
      simp only [q, Out.bind] at p
      intro H1 k1 R1 v rv
      refine ⟨e1, R1, ?_⟩
      cases q2 : ml e1 with
      | bad => simp only [q2] at p
      | exc x e2 => simp only [q2] at p; exact fun H' cls d k2 => p H' cls d (k1.trans k2)
      | ok l e2 =>
        simp only [q2] at p
        intro vs as H2 k2 fr nd R2 gv
        have less : Less H1 (Gd F.G ow σ) (Gd (F.exts as).G ow σ) := fun z h g => by
          rcases g with (g | g) | g
          · exact .inl g
          · exact absurd h (fr z g)
          · exact .inr g
        exact p (v :: vs) as H2 (k1.trans k2) (fun z hz => fresh_of R k1 R1 (fr z hz)) nd R2 (.v (rv.mono k2.gd less) gv)
theorem pmg_o {a : Expr} {es : List Expr} {m : Mo PV} {ml : Mo (List PV)} {fl : List Bool} (ha : PE X a (rdF F ow m)) (hr : ∀ z, PA X es (rdG (F.ext z) ow fl ml)) (hs : starEach (a :: es) X.env = (false, eval a X.env) :: starEach es X.env := by rfl) : PA X (a :: es) (rdG F ow (true :: fl) (mCons m ml)) := by
  have hr' : PA X es fun σ H Q => ∃ z, rdG (F.ext z) ow fl ml σ H Q := ⟨fun pos pins s σ H Q I ⟨z, q⟩ => (hr z).run pos pins s σ H Q I q⟩
  exact (pa_cons ha hr' hs).imp fun σ H Q ⟨e, R, p⟩ => by
    refine ⟨e, R, ?_⟩
    unfold mCons at p
    cases q : m e with
    | bad => simp only [q, Out.bind] at p
    | exc x e1 => simp only [q, Out.bind] at p; exact p
    | ok pv e1 =>
      simp only [q, Out.bind] at p
      intro a H1 hn k1 R1 ra
      refine ⟨a, e1, R1, ?_⟩
      cases q2 : ml e1 with
      | bad => simp only [q2] at p
      | exc x e2 =>
        simp only [q2] at p
        intro H' cls d k2 R2 xa
        refine p H' cls d (k1.trans k2) ?_ ?_
        · have less : Less H' (Gd (F.ext a).G ow σ) (Gd F.G ow σ) := fun z _ g => g.imp .inl id
          exact ⟨fun i p h1 h2 => let ⟨v, h3, h4⟩ := R2.val i p h1 h2; ⟨v, h3, h4.mono Keep.refl less⟩, fun i p h1 h2 => let ⟨v, h3, h4⟩ := R2.own i p h1 h2; ⟨v, h3, h4.mono Keep.refl less fun _ _ => rfl⟩, R2.off, R2.sep, fun i b hi h g => R2.ng i b hi h (.inl g), fun z g => R2.gt z (.inl g), R2.tb, R2.len⟩
        · obtain ⟨h1, h2⟩ := xa
          refine ⟨h1, ?_⟩
          cases d with
          | none => exact h2
          | some d =>
            obtain ⟨h3, fs, h4, h5⟩ := h2
            exact ⟨fun g => h3 (g.imp .inl id), fs, h4, h5.mono Keep.refl fun z _ g => g.imp .inl id⟩
      | ok l e2 =>
        simp only [q2] at p
        intro vs as H2 k2 fr nd R2 gv
        obtain ⟨b, ea, hna⟩ := ra.ref
        cases ea
        have na : ¬ Own ow σ a := fun ⟨i, hi, z⟩ => R1.ng i a hi z (.inr rfl)
        have ha2 : H2 a = H1 a := by
          obtain ⟨o, z, nt⟩ := hna
          rw [z]; exact k2.kp a o z na nt
        have eG : ((F.ext a).exts as).G = (F.exts (a :: as)).G := funext fun z => propext ⟨fun h => by
          rcases h with (h | h) | h
          · exact .inl h
          · exact .inr (h ▸ List.mem_cons_self)
          · exact .inr (List.mem_cons_of_mem _ h), fun h => by
          rcases h with h | h
          · exact .inl (.inl h)
          · rcases List.mem_cons.mp h with h | h
            · exact .inl (.inr h)
            · exact .inr h⟩
        rw [eG] at R2 gv
        have less : Less H1 (Gd (F.ext a).G ow σ) (Gd (F.exts (a :: as)).G ow σ) := fun z h g => by
          rcases g with (g | g) | g
          · exact .inl (.inl g)
          · rcases List.mem_cons.mp g with g | g
            · exact .inl (.inr g)
            · exact absurd h (fr z g)
          · exact .inr g
        refine p (.ref a :: vs) (a :: as) H2 (k1.trans k2) (fun z hz => ?_) (List.nodup_cons.mpr ⟨fun z => absurd hna.hd (fr a z), nd⟩) R2 (.o (ra.mono k2.gd less fun z e1 => by cases e1; exact ha2) gv)
        rcases List.mem_cons.mp hz with rfl | hz
        · exact hn
        · have := fr z hz
          intro ⟨o, q3, nt⟩
          by_cases oz : Own ow σ z
          · exact this (R1.ownT oz)
          · exact this ⟨o, k1.kp z o q3 oz nt, nt⟩
end
end M

namespace M
open PySem PySem.Spec PyProof.Rows L2

section
variable {X : Cx} {F : Fm} {ow ow' ow1 ow2 ob : List Nat} {σ σ1 σ2 : L2.St} {H H1 H2 : Hp}
/-! ### a cell of one's own, read -/
/-- a call of one argument, a name of such a cell -/
def mCallO (g : List PV → Option PV) (i : Nat) : Mo PV := fun e => match e[i]? with
  | some (some p) => lift (g [p]) e
  | _ => .bad
/-- x[b] -/
def mIxO (i : Nat) (mb : Mo PV) : Mo PV := fun e => match e[i]? with
  | some (some _) => (mb e).bind fun b e1 => match e1[i]? with
    | some (some (.lst l)) => match b with
      | .int j => lift (atI l j) e1
      | _ => .bad
    | _ => .bad
  | _ => .bad
theorem pm_ixO (i : Nat) {x : Str} {b : Expr} {mb : Mo PV} {p pos : Pos} (hb : PE X b (rd F ow mb)) (hi : i ∈ ow := by decide) (hN : X.N[i]? = some x := by rfl) (hv : Vis X.env.scope x := by first | exact .inl rfl | exact .inr (.inl rfl) | exact .inr (.inr rfl))
    (hd : (x == ("__debug__" : Str)) = false := by decide) (hcd : (x == ("__classdict__" : Str)) = false := by decide) (hs : PlainIx b := by exact fun _ _ => rfl) : PE X (.Subscript (.Name x p) b pos) (rd F ow (mIxO i mb)) :=
  (pe_ix ix_seq (pe_var hN hv hd hcd) hb hs).imp fun σ H Q ⟨e, R, p⟩ => by
    unfold mIxO at p
    split at p
    · rename_i q he
      obtain ⟨v, h1, h2⟩ := R.own i q he hi
      refine ⟨v, h1, e, R, (Post.unbind p).mono fun b e1 H1 k1 R1 p1 y ry => ?_⟩
      split at p1
      · rename_i l he1
        split at p1
        · rename_i j
          obtain ⟨c, hc, q⟩ := p1.of_lift R1
          obtain ⟨v', h3, a, vs, h4, h5, h6⟩ := R1.own i _ he1 hi
          rw [h1] at h3; cases h3
          subst h4
          cases ry
          obtain ⟨w, h7, h8⟩ := h6.atI hc
          exact .inl ⟨a, vs, j, w, rfl, rfl, .inl (.inl h5), h7, q H1 (fun _ _ z => z) w h8⟩
        · exact p1.elim
      · exact p1.elim
    · exact p.elim
/-- the truth of such a list -/
def mTrO (i : Nat) : Mo Bool := fun e => match e[i]? with
  | some (some p) => lift (truth p) e
  | _ => .bad
theorem At.tru {S : Se} {O : Addr → Prop} {v : V} {p : PV} {k : Bool} (r : At S H O v p) (h : truth p = some k) : TruV S.K v H k := by
  cases p with
  | lst l => obtain ⟨a, vs, rfl, h1, t⟩ := r; cases h; exact .inl ⟨_, .inl (.inl h1), (emp_of t.length).symm⟩
  | dK l => obtain ⟨a, vs, rfl, h1, t⟩ := r; cases h; exact .inr (.inr ⟨_, h1, (emp_of t.length).symm⟩)
  | dT l => cases h
  | _ => exact r.elim

/-! ### .. written -/
theorem ER.upd {S : Se} {G : Addr → Prop} {e : En} (R : ER S G ow σ H e) {i : Nat} {a : Addr} {o u : HO} {p : PV} (hb : H a = some u) (hi : i ∈ ow) (hs : σ[i]? = some (some (.ref a))) (hl : i < e.length) (ra : At S (upd H a o) (Gd G ow σ) (.ref a) p) (nt : NT u := by exact fun _ z => by cases z) (ne : ∀ φ, u ≠ .ext φ := by exact fun _ z => by cases z) : Keep (Own ow σ) H (upd H a o) ∧ ER S G ow σ (upd H a o) (e.set i (some p)) := by
  have k : Keep (Own ow σ) H (L2.upd H a o) := Keep.own hb ⟨i, hi, hs⟩ nt ne
  refine ⟨k, ⟨fun j q g1 g2 => ?_, fun j q g1 g2 => ?_, fun j hj g1 b => ?_, R.sep, R.ng, fun z g => ?_, fun p hp => tab_own hb nt ne (R.tb p hp), by rw [List.length_set]; exact R.len⟩⟩
  · have nj : i ≠ j := fun z => g2 (z ▸ hi)
    rw [List.getElem?_set_ne nj] at g1
    obtain ⟨v, g3, g4⟩ := R.val j q g1 g2
    exact ⟨v, g3, g4.mono k.gd Less.refl⟩
  · by_cases nj : i = j
    · subst nj
      rw [List.getElem?_set_self hl] at g1
      cases g1
      exact ⟨_, hs, ra⟩
    · rw [List.getElem?_set_ne nj] at g1
      obtain ⟨v, g3, g4⟩ := R.own j q g1 g2
      refine ⟨v, g3, g4.mono k.gd Less.refl fun b z => ?_⟩
      subst z
      rw [upd_ne (show b ≠ a from fun z => nj (R.sep i j a hi g2 hs (z ▸ g3)))]
  · by_cases nj : i = j
    · subst nj
      exact absurd (List.getElem?_set_self hl) (g1 p)
    · exact R.off j hj (fun q z => g1 q (by rw [List.getElem?_set_ne nj]; exact z)) b
  · obtain ⟨w, q1, q2⟩ := R.gt z g
    exact ⟨w, by rw [upd_ne (show z ≠ a from fun q => R.ng i a hi hs (q ▸ g))]; exact q1, q2⟩
/-- x.append(e) -/
def mApp (i : Nat) (m : Mo PV) : Mo PV := fun e => match e[i]? with
  | some (some (.lst _)) => (m e).bind fun p e1 => match e1[i]? with
    | some (some (.lst l)) => if l.length < sizeLine then .ok .non (e1.set i (some (.lst (l ++ [p])))) else .bad
    | _ => .bad
  | _ => .bad
theorem pm_app (i : Nat) {x : Str} {a : Expr} {m : Mo PV} {p apos cpos : Pos} (ha : PE X a (rd F ow m)) (hi : i ∈ ow := by decide) (hN : X.N[i]? = some x := by rfl) (hv : Vis X.env.scope x := by first | exact .inl rfl | exact .inr (.inl rfl) | exact .inr (.inr rfl))
    (hd : (x == ("__debug__" : Str)) = false := by decide) (hcd : (x == ("__classdict__" : Str)) = false := by decide)
    (h1 : attributeBase (.Name x p) "append" X.env (eval (.Name x p) X.env) = eval (.Name x p) X.env := by rfl)
    (h2 : (((backTo cpos (starEach [a] X.env)).all fun x => !x.1) && (backToKw cpos (keywordEach [] X.env)).all (fun x => x.1.isSome) && decide ((([a] : List Expr).length + ([] : List Keyword).length + if ([] : List Keyword).isEmpty = true then 0 else 1) < 30)) = true := by rfl)
    (h3 : (apos.endLine == cpos.line) = true := by rfl) (h4 : starEach [a] X.env = (false, eval a X.env) :: starEach [] X.env := by rfl) (h5 : ((backTo cpos (starEach [] X.env)).any fun x => x.1) = false := by rfl) : PE X (.Call (.Attribute (.Name x p) "append" apos) [a] [] cpos) (rd F ow (mApp i m)) :=
  (pe_bm PySem.F.plainAttrs_list PySem.F.slot_list_append PySem.F.type_list_append mt_append (pe_var hN hv hd hcd) (pa_cons ha pa_nil h4) h1 h2 h3 h4 h5).imp fun σ H Q ⟨e, R, p⟩ => by
    unfold mApp at p
    split at p
    · rename_i l0 he
      obtain ⟨v, g1, b, ws, g2, g3, g4⟩ := R.own i _ he hi
      subst g2
      refine ⟨_, g1, .inl ⟨rfl, _, .inl (.inl g3)⟩, e, R, (Post.unbind p).mono fun q e1 H1 k1 R1 p1 y ry => ?_⟩
      split at p1
      · rename_i l he1
        obtain ⟨v', g5, a', vs, g6, g7, g8⟩ := R1.own i _ he1 hi
        rw [g1] at g5; cases g5
        cases g6
        split at p1
        · rename_i hl
          refine ⟨_, vs, y, rfl, rfl, g7, by rw [g8.length]; exact hl, ?_⟩
          have gu : H1 b ≠ none := by rw [g7]; simp
          have ob : Own ow σ b := ⟨i, hi, g1⟩
          have kk : Keep (Own ow σ) H1 (upd H1 b (.lst (vs ++ [y]))) := Keep.own g7 ob
          obtain ⟨k, R2⟩ := R1.upd g7 hi g1 (List.getElem?_eq_some_iff.mp he1).1 (o := .lst (vs ++ [y])) (p := .lst (l ++ [q])) ⟨b, vs ++ [y], rfl, upd_same, (g8.append (.cons ry .nil)).mono kk.gd Less.refl⟩
          exact p1 _ k R2 .non .non
        · exact p1.elim
      · exact p1.elim
    · exact p.elim
/-- x[j] = e -/
def mSetIx (i : Nat) (mj me : Mo PV) : Ms := fun e => SOut.of (me e) fun p e1 => match e1[i]? with
  | some (some (.lst _)) => SOut.of (mj e1) fun j e2 => match e2[i]? with
    | some (some (.lst l)) => match j with
      | .int j => match ixN l.length j with
        | some n => .nxt (e2.set i (some (.lst (l.set n p))))
        | none => .bad
      | _ => .bad
    | _ => .bad
  | _ => .bad
theorem pmt_setIx (i : Nat) {x : Str} {b a : Expr} {mj me : Mo PV} {p p2 pos : Pos} (ha : PE X a (rd F ow me)) (hb : PE X b (rd F ow mj)) (hi : i ∈ ow := by decide) (hN : X.N[i]? = some x := by rfl) (hv : Vis X.env.scope x := by first | exact .inl rfl | exact .inr (.inl rfl) | exact .inr (.inr rfl))
    (hd : (x == ("__debug__" : Str)) = false := by decide) (hcd : (x == ("__classdict__" : Str)) = false := by decide)
    (h1 : ∀ v, assign (.Subscript (.Name x p) b p2) X.env v = (do
      let ov ← holding [v] (eval (.Name x p) X.env)
      let iv ← holding [v, ov] (eval b X.env)
      standAt p2
      holding [v, ov, iv] (setItem ov iv v)
      release [v, ov, iv] []) := by intro _; rfl)
    (hs : swapsWithSole [.Subscript (.Name x p) b p2] a pos.line X.env = pure false := by rfl) (hw : swappedStores [.Subscript (.Name x p) b p2] a X.env = pure none := by rfl)
    (h2 : (assignEach [.Subscript (.Name x p) b p2] X.env).map (·.2) = [assign (.Subscript (.Name x p) b p2) X.env] := by rfl) : PS X (.Assign [.Subscript (.Name x p) b p2] a pos) (rdS F ow ow ob (mSetIx i mj me)) :=
  (ps_asg ha (pg_sub (pe_var hN hv hd hcd) hb set_list h1) hs hw h2).imp fun D σ H ⟨e, R, p⟩ => ⟨e, R, (Post.stmt p).mono fun q e1 H1 k1 R1 p1 y ry => by
    split at p1
    · rename_i l0 he
      obtain ⟨v, g1, b, ws, g2, g3, g4⟩ := R1.own i _ he hi
      subst g2
      refine ⟨_, g1, e1, R1, (Post.stmt p1).mono fun j e2 H2 k2 R2 p2 z rz => ?_⟩
      split at p2
      · rename_i l he1
        obtain ⟨v', g5, a', vs, g6, g7, g8⟩ := R2.own i _ he1 hi
        rw [g1] at g5; cases g5
        cases g6
        split at p2
        · rename_i j
          split at p2
          · rename_i n hn
            cases rz
            refine ⟨_, vs, j, n, rfl, rfl, g7, by rw [g8.length]; exact hn, ?_⟩
            have ob : Own ow σ b := ⟨i, hi, g1⟩
            have kk : Keep (Own ow σ) H2 (upd H2 b (.lst (vs.set n y))) := Keep.own g7 ob
            obtain ⟨k, R3⟩ := R2.upd g7 hi g1 (List.getElem?_eq_some_iff.mp he1).1 (o := .lst (vs.set n y)) (p := .lst (l.set n q)) ⟨b, vs.set n y, rfl, upd_same, (g8.set (ry.mono k2.gd Less.refl) n).mono kk.gd Less.refl⟩
            exact p2 σ _ (KeepS.of k) Stay.refl R3
          · exact p2.elim
        · exact p2.elim
      · exact p2.elim
    · exact p1.elim⟩
/-! ### several values at once -/
def parOw : List Bool → List Nat → List Nat → List Nat
  | false :: fl, _ :: is, ow => parOw fl is ow
  | true :: fl, i :: is, ow => parOw fl is (i :: ow)
  | _, _, ow => ow
def setAllV : List Nat → List V → L2.St → L2.St
  | i :: is, v :: vs, σ => setAllV is vs (σ.set i (some v))
  | _, _, σ => σ
theorem par_go {S : Se} {G : Addr → Prop} {io : List Nat} : ∀ {fl : List Bool} {is : List Nat} {vs : List V} {l : List PV} {as : List Addr} {ow : List Nat} {σ : L2.St} {e e' : En}, setAll is l e = some e' → (∀ i ∈ is, i ∉ io ∧ i < e.length) → is.Nodup → (∀ i ∈ is, i ∉ ow) →
    ER S (fun z => G z ∨ z ∈ as) ow σ H e → GV S H (Gd (fun z => G z ∨ z ∈ as) ow σ) fl vs l as → as.Nodup → (∀ a ∈ as, ¬ G a) →
    ER S G (parOw fl is ow) (setAllV is vs σ) H e' ∧ Stay io σ (setAllV is vs σ) ∧ ∀ z, Own (parOw fl is ow) (setAllV is vs σ) z → Own ow σ z ∨ z ∈ as
  | [], [], _, _, _, ow, σ, e, e', h, _, _, _, R, g, _, _ => by
    cases g
    cases h
    refine ⟨?_, Stay.refl, fun z q => .inl q⟩
    have : (fun z => G z ∨ z ∈ ([] : List Addr)) = G := funext fun z => propext ⟨fun h => h.elim id fun q => (by cases q), .inl⟩
    rw [this] at R
    exact R
  | false :: fl, i :: is, _, _, as, ow, σ, e, e', h, h1, hn, h2, R, g, na, ng => by
    cases g with
    | v r t =>
      rename_i v p vs l
      have ni := h2 i List.mem_cons_self
      rw [List.nodup_cons] at hn
      have og : Gd (fun z => G z ∨ z ∈ as) ow (σ.set i (some v)) = Gd (fun z => G z ∨ z ∈ as) ow σ := by unfold Gd; rw [own_set ni]
      obtain ⟨a1, a2, a3⟩ := par_go (fl := fl) (is := is) (io := io) (ow := ow) (σ := σ.set i (some v)) (e := e.set i (some p)) h (fun j hj => by rw [List.length_set]; exact h1 j (List.mem_cons_of_mem _ hj)) hn.2 (fun j hj => h2 j (List.mem_cons_of_mem _ hj)) (R.set ni r) (by rw [og]; exact t) na ng
      exact ⟨a1, (Stay.set (h1 i List.mem_cons_self).1).trans a2, fun z q => by have := a3 z q; rw [own_set ni] at this; exact this⟩
  | true :: fl, i :: is, _, _, _, ow, σ, e, e', h, h1, hn, h2, R, g, na, ng => by
    cases g with
    | o r t =>
      rename_i a p vs l as
      have ni := h2 i List.mem_cons_self
      rw [List.nodup_cons] at hn na
      have hl : i < σ.length := by rw [← R.len]; exact (h1 i List.mem_cons_self).2
      have eG : (fun z => G z ∨ z ∈ a :: as) = fun z => (fun z => G z ∨ z ∈ as) z ∨ z = a := funext fun z => propext ⟨fun h => by
        rcases h with h | h
        · exact .inl (.inl h)
        · rcases List.mem_cons.mp h with h | h
          · exact .inr h
          · exact .inl (.inr h), fun h => by
        rcases h with (h | h) | h
        · exact .inl h
        · exact .inr (List.mem_cons_of_mem _ h)
        · exact .inr (h ▸ List.mem_cons_self)⟩
      rw [eG] at R r t
      have R2 := R.setO (ow' := i :: ow) (i := i) (p := p) (fun z g q => by
        subst q
        rcases g with g | g
        · exact ng _ List.mem_cons_self g
        · exact na.1 g) r (fun j hj => (List.mem_cons.mp hj)) (fun j hj => List.mem_cons_of_mem _ hj) List.mem_cons_self hl
      have less : Less H (Gd (fun z => (fun z => G z ∨ z ∈ as) z ∨ z = a) ow σ) (Gd (fun z => G z ∨ z ∈ as) (i :: ow) (σ.set i (some (.ref a)))) := fun z _ g => by
        rcases g with g | ⟨j, hj, e1⟩
        · exact .inl (.inl g)
        · by_cases q : i = j
          · subst q
            rw [List.getElem?_set_self hl] at e1
            cases e1
            exact .inl (.inr rfl)
          · rw [List.getElem?_set_ne q] at e1
            rcases List.mem_cons.mp hj with z | z
            · exact absurd z.symm q
            · exact .inr ⟨j, z, e1⟩
      obtain ⟨a1, a2, a3⟩ := par_go (fl := fl) (is := is) (io := io) (ow := i :: ow) (σ := σ.set i (some (.ref a))) (e := e.set i (some p)) h (fun j hj => by rw [List.length_set]; exact h1 j (List.mem_cons_of_mem _ hj)) hn.2
        (fun j hj q => by
          rcases List.mem_cons.mp q with q | q
          · subst q; exact hn.1 hj
          · exact h2 j (List.mem_cons_of_mem _ hj) q) R2 (GV.mono Keep.refl less (fun _ _ _ => .inr trivial) (fun _ _ => rfl) t) na.2 fun b hb => ng b (List.mem_cons_of_mem _ hb)
      refine ⟨a1, (Stay.set (h1 i List.mem_cons_self).1).trans a2, fun z q => ?_⟩
      rcases a3 z q with ⟨j, hj, e1⟩ | q
      · by_cases q : i = j
        · subst q
          rw [List.getElem?_set_self hl] at e1
          cases e1
          exact .inr List.mem_cons_self
        · rw [List.getElem?_set_ne q] at e1
          rcases List.mem_cons.mp hj with z | z
          · exact absurd z.symm q
          · exact .inl ⟨j, z, e1⟩
      · exact .inr (List.mem_cons_of_mem _ q)
  | [], _ :: _, _, _, _, _, _, _, _, h, _, _, _, _, g, _, _ => by cases g; cases h
  | _ :: _, [], _, _, _, _, _, _, _, h, _, _, _, _, g, _, _ => by cases g <;> cases h
def mPar (is : List Nat) (ml : Mo (List PV)) : Ms := fun e => SOut.of (ml e) fun l e1 => if ∀ i ∈ is, i < e1.length then match setAll is l e1 with
  | some e2 => .nxt e2
  | none => .bad
  else .bad
theorem par_end {fl : List Bool} {is : List Nat} {ml : Mo (List PV)} {D : Ends} {σ : L2.St} {H : Hp} (h : rdS F ow (parOw fl is ow) ob (mPar is ml) D σ H) (hi : ∀ i ∈ is, i ∉ ow) (hio : ∀ i ∈ is, i ∉ F.io) (hn : is.Nodup) : rdG F ow fl ml σ H fun vs H1 => vs.length = is.length ∧ D.nx (setAllV is vs σ) H1 := by
  obtain ⟨e, R, p⟩ := h
  refine ⟨e, R, ?_⟩
  unfold mPar at p
  cases q : ml e with
  | bad => simp only [q, SOut.of] at p; exact p.elim
  | exc x e1 => simp only [q, SOut.of] at p; exact fun H1 c d k R1 x1 => p σ ow H1 c d (KeepS.of k) Stay.refl R1 x1
  | ok l e1 =>
    simp only [q, SOut.of] at p
    intro vs as H1 k1 fr nd R1 gv
    split at p
    · rename_i hl
      cases q2 : setAll is l e1 with
      | none => simp only [q2] at p; exact p.elim
      | some e2 =>
        simp only [q2] at p
        have gl : vs.length = l.length := by
          clear q q2 hl p R1 nd fr k1
          revert gv
          have : ∀ {fl : List Bool} {vs : List V} {l : List PV} {as : List Addr}, GV F.S H1 (Gd (F.exts as).G ow σ) fl vs l as → vs.length = l.length := fun {fl vs l as} g => by
            have gen : ∀ {O : Addr → Prop} {fl : List Bool} {vs : List V} {l : List PV} {as : List Addr}, GV F.S H1 O fl vs l as → vs.length = l.length := fun g => by
              induction g with
              | nil => rfl
              | v _ _ ih => exact congrArg Nat.succ ih
              | o _ _ ih => exact congrArg Nat.succ ih
            exact gen g
          exact this
        have nG : ∀ a ∈ as, ¬ F.G a := fun a ha g => fr a ha (R.gt a g)
        obtain ⟨a1, a2, a3⟩ := par_go (S := F.S) (G := F.G) (io := F.io) q2 (fun i h => ⟨hio i h, hl i h⟩) hn hi R1 gv nd nG
        refine ⟨by rw [gl, setAll_len q2], p _ H1 ⟨fun a o e n nt => ⟨k1.kp a o e n nt, fun z => ?_⟩⟩ a2 a1⟩
        rcases a3 a z with z | z
        · exact n z
        · exact fr a z ⟨o, e, nt⟩
    · exact p.elim
theorem rdG.mono {fl : List Bool} {ml : Mo (List PV)} {σ : L2.St} {H : Hp} {Q Q' : List V → Hp → Prop} (h : rdG F ow fl ml σ H Q) (q : ∀ vs H1, Q vs H1 → Q' vs H1) : rdG F ow fl ml σ H Q' := by
  obtain ⟨e, R, p⟩ := h
  refine ⟨e, R, ?_⟩
  cases z : ml e with
  | bad => rw [z] at p; exact p
  | exc x e1 => rw [z] at p; exact p
  | ok l e1 => rw [z] at p; exact fun vs as H' k1 fr nd R1 gv => q _ _ (p vs as H' k1 fr nd R1 gv)
theorem pmt_par2 (fl : List Bool) (i j : Nat) {x y : Str} {a b : Expr} {ml : Mo (List PV)} {px py pt pos : Pos} {kt k2 : Nat} {pt2 : Pos} (hN : X.N.Nodup) (ha : PA X [a, b] (rdG F ow fl ml)) (how : ow' = parOw fl [i, j] ow := by rfl) (hi : ∀ k ∈ [i, j], k ∉ ow := by decide) (hio : ∀ k ∈ [i, j], k ∉ F.io := by first | decide | exact of_decide_eq_true rfl) (hij : i ≠ j := by decide)
    (h1 : X.N[i]? = some x := by rfl) (h2 : X.N[j]? = some y := by rfl) (h3 : X.env.scope.names.lookup x = some .local := by rfl) (h4 : X.env.scope.names.lookup y = some .local := by rfl) (hc : X.calm = true := by rfl)
    (hw : swappedStores [.Tuple [.Name x px, .Name y py] kt pt] (.Tuple [a, b] k2 pt2) X.env = pure (some [x, y]) := by rfl)
    (hs : swapsWithSole [.Tuple [.Name x px, .Name y py] kt pt] (.Tuple [a, b] k2 pt2) pos.line X.env = pure false := by rfl) : PS X (.Assign [.Tuple [.Name x px, .Name y py] kt pt] (.Tuple [a, b] k2 pt2) pos) (rdS F ow ow' ob (mPar [i, j] ml)) := by
  subst how
  exact (ps_par hc hN h1 h2 hij h3 h4 ha hw hs).imp fun D σ H h => (par_end h hi hio (by simp [hij])).mono fun vs H1 ⟨h5, h6⟩ => by
    match vs, h5 with
    | [v, w], _ => exact ⟨v, w, rfl, h6⟩
theorem pmt_par3 (fl : List Bool) (i j k : Nat) {x y z : Str} {a b c : Expr} {ml : Mo (List PV)} {px py pz pt pos : Pos} {kt k2 : Nat} {pt2 : Pos} (hN : X.N.Nodup) (ha : PA X [a, b, c] (rdG F ow fl ml)) (how : ow' = parOw fl [i, j, k] ow := by rfl) (hi : ∀ m ∈ [i, j, k], m ∉ ow := by decide) (hio : ∀ m ∈ [i, j, k], m ∉ F.io := by first | decide | exact of_decide_eq_true rfl) (hij : i ≠ j := by decide) (hik : i ≠ k := by decide) (hjk : j ≠ k := by decide)
    (h1 : X.N[i]? = some x := by rfl) (h2 : X.N[j]? = some y := by rfl) (h3 : X.N[k]? = some z := by rfl) (h4 : X.env.scope.names.lookup x = some .local := by rfl) (h5 : X.env.scope.names.lookup y = some .local := by rfl) (h6 : X.env.scope.names.lookup z = some .local := by rfl) (hc : X.calm = true := by rfl)
    (hw : swappedStores [.Tuple [.Name x px, .Name y py, .Name z pz] kt pt] (.Tuple [a, b, c] k2 pt2) X.env = pure (some [x, y, z]) := by rfl)
    (hs : swapsWithSole [.Tuple [.Name x px, .Name y py, .Name z pz] kt pt] (.Tuple [a, b, c] k2 pt2) pos.line X.env = pure false := by rfl) : PS X (.Assign [.Tuple [.Name x px, .Name y py, .Name z pz] kt pt] (.Tuple [a, b, c] k2 pt2) pos) (rdS F ow ow' ob (mPar [i, j, k] ml)) := by
  subst how
  exact (ps_par3 hc hN h1 h2 h3 hij hik hjk h4 h5 h6 ha hw hs).imp fun D σ H h => (par_end h hi hio (by simp [hij, hik, hjk])).mono fun vs H1 ⟨g5, g6⟩ => by
    match vs, g5 with
    | [u, v, w], _ => exact ⟨u, v, w, rfl, g6⟩
end
end M

namespace M
open PySem PySem.Spec PyProof.Rows L2

/-! ### what is walked -/
def ItOk (S : Se) (J : It) (items : List PV) (H0 : Hp) (O0 : Addr → Prop) : Prop := ∃ T : Hp → (Addr → Prop) → Prop, T H0 O0 ∧ (∀ H H' O O', T H O → Keep O H H' → Less H O O' → T H' O') ∧
  ∀ (i : Nat) H O, Pre H O → T H O → (∀ p, items[i]? = some p → J.go i H ∧ ∀ x H', J.yld i H x H' → (∀ a o, H a = some o → H' a = some o) ∧ RV S H' O x p) ∧ (items.length ≤ i → J.stop i H)
section
variable {X : Cx} {F : Fm} {ow ow' ow1 ow2 ob : List Nat} {σ σ1 σ2 : L2.St} {H H1 H2 : Hp}
theorem it_tup {S : Se} {H : Hp} {O : Addr → Prop} {a : Addr} {l : List PV} (r : RV S H O (.ref a) (.tup l)) : ItOk S (Itt S.K a) l H O := by
  refine ⟨fun H O => RV S H O (.ref a) (.tup l), r, fun _ _ _ _ r k q => r.mono k q, fun i H O _ r => ⟨fun p hp => ?_, fun hl => ?_⟩⟩
  · obtain ⟨vs, h1, h2⟩ := r.sqT
    obtain ⟨v, h3, h4⟩ := h2.get hp
    refine ⟨⟨vs, v, h1, h3⟩, fun x H' ⟨e, y⟩ => ?_⟩
    subst e
    rw [y vs h1] at h3; cases h3
    exact ⟨fun _ _ z => z, h4⟩
  · obtain ⟨vs, h1, h2⟩ := r.sqT
    exact ⟨vs, h1, by rw [h2.length]; exact hl⟩
theorem it_lst {S : Se} {H : Hp} {O : Addr → Prop} {a : Addr} {l : List PV} (r : RV S H O (.ref a) (.lst l)) : ItOk S (Itl S.K a) l H O := by
  refine ⟨fun H O => RV S H O (.ref a) (.lst l), r, fun _ _ _ _ r k q => r.mono k q, fun i H O _ r => ⟨fun p hp => ?_, fun hl => ?_⟩⟩
  · obtain ⟨b, vs, e, h1, h2⟩ := r.isL
    cases e
    obtain ⟨v, h3, h4⟩ := h2.get hp
    refine ⟨⟨vs, v, .inl (.inl h1), h3⟩, fun x H' ⟨e, y⟩ => ?_⟩
    subst e
    rw [y vs (.inl (.inl h1))] at h3; cases h3
    exact ⟨fun _ _ z => z, h4⟩
  · obtain ⟨b, vs, e, h1, h2⟩ := r.isL
    cases e
    exact ⟨vs, .inl (.inl h1), by rw [h2.length]; exact hl⟩
theorem it_fz {S : Se} {H : Hp} {O : Addr → Prop} {a : Addr} {l : List PV} (r : RV S H O (.ref a) (.fz l)) : ItOk S (Itl S.K a) l H O := by
  refine ⟨fun H O => RV S H O (.ref a) (.fz l), r, fun _ _ _ _ r k q => r.mono k q, fun i H O _ r => ⟨fun p hp => ?_, fun hl => ?_⟩⟩
  · obtain ⟨b, vs, e, h1, h2⟩ := r.isF
    cases e
    obtain ⟨v, h3, h4⟩ := h2.get hp
    refine ⟨⟨vs, v, h1, h3⟩, fun x H' ⟨e, y⟩ => ?_⟩
    subst e
    rw [y vs h1] at h3; cases h3
    exact ⟨fun _ _ z => z, h4⟩
  · obtain ⟨b, vs, e, h1, h2⟩ := r.isF
    cases e
    exact ⟨vs, h1, by rw [h2.length]; exact hl⟩
def rangeP (lo : Int) (n : Nat) : List PV := (List.range n).map fun i : Nat => PV.int (lo + (i : Int))
theorem it_rng {S : Se} {H : Hp} {O : Addr → Prop} (lo : Int) (n : Nat) : ItOk S (Itr lo n) (rangeP lo n) H O := by
  refine ⟨fun _ _ => True, trivial, fun _ _ _ _ _ _ _ => trivial, fun i H O _ _ => ⟨fun p hp => ?_, fun hl => ?_⟩⟩
  · unfold rangeP at hp
    rw [List.getElem?_map] at hp
    cases q : (List.range n)[i]? with
    | none => rw [q] at hp; cases hp
    | some j =>
      rw [q] at hp
      cases hp
      obtain ⟨h1, h2⟩ := List.getElem?_eq_some_iff.mp q
      rw [List.length_range] at h1
      rw [List.getElem_range] at h2
      subst h2
      refine ⟨h1, fun x H' ⟨e, y⟩ => ?_⟩
      subst e y
      exact ⟨fun _ _ z => z, .int _⟩
  · show n ≤ i
    unfold rangeP at hl
    rw [List.length_map, List.length_range] at hl
    exact hl
def zipP : List PV → List PV → List PV
  | a :: l, b :: m => .tup [a, b] :: zipP l m
  | _, _ => []
theorem zipP_get : ∀ {l m : List PV} {i : Nat} {p : PV}, (zipP l m)[i]? = some p → ∃ a b, l[i]? = some a ∧ m[i]? = some b ∧ p = .tup [a, b]
  | [], m, i, p, h => by cases m <;> simp [zipP] at h
  | a :: l, [], i, p, h => by simp [zipP] at h
  | a :: l, b :: m, 0, p, h => by simp [zipP] at h; exact ⟨a, b, rfl, rfl, h.symm⟩
  | a :: l, b :: m, i + 1, p, h => by
    simp only [zipP, List.getElem?_cons_succ] at h
    obtain ⟨a', b', h1, h2, h3⟩ := zipP_get h
    exact ⟨a', b', by simpa using h1, by simpa using h2, h3⟩
theorem zipP_len : ∀ {l m : List PV} {i : Nat}, (zipP l m).length ≤ i → l.length ≤ i ∨ m.length ≤ i
  | [], m, i, h => .inl (Nat.zero_le _)
  | a :: l, [], i, h => .inr (Nat.zero_le _)
  | a :: l, b :: m, 0, h => by simp [zipP] at h
  | a :: l, b :: m, i + 1, h => by
    simp only [zipP, List.length_cons] at h
    rcases zipP_len (l := l) (m := m) (i := i) (by omega) with h | h
    · exact .inl (by simp; exact h)
    · exact .inr (by simp; exact h)
theorem it_zipL {S : Se} {H : Hp} {O : Addr → Prop} {a b : Addr} {l m : List PV} (r : RV S H O (.ref a) (.lst l)) (r' : RV S H O (.ref b) (.lst m)) : ItOk S (Itz S.K a b) (zipP l m) H O := by
  refine ⟨fun H O => RV S H O (.ref a) (.lst l) ∧ RV S H O (.ref b) (.lst m), ⟨r, r'⟩, fun _ _ _ _ r k q => ⟨r.1.mono k q, r.2.mono k q⟩, fun i H O pre r => ?_⟩
  obtain ⟨c, vs, e, h1, h2⟩ := r.1.isL
  cases e
  obtain ⟨d, ws, e, h3, h4⟩ := r.2.isL
  cases e
  refine ⟨fun p hp => ?_, fun hl => ?_⟩
  · obtain ⟨x, y, g1, g2, rfl⟩ := zipP_get hp
    obtain ⟨v, g3, g4⟩ := h2.get g1
    obtain ⟨w, g5, g6⟩ := h4.get g2
    refine ⟨⟨vs, ws, v, w, .inl (.inl h1), .inl (.inl h3), g3, g5⟩, fun z H' ⟨T, x', y', e1, e2, e3, e4, e5⟩ => ?_⟩
    subst e1 e3
    rw [e4 vs (.inl (.inl h1))] at g3; cases g3
    rw [e5 ws (.inl (.inl h3))] at g5; cases g5
    exact ⟨upd_keep e2, (RVs.cons g4 (.cons g6 .nil)).newT e2 pre⟩
  · refine ⟨vs, ws, .inl (.inl h1), .inl (.inl h3), ?_⟩
    rw [h2.length, h4.length]
    exact zipP_len hl
theorem it_zipT {S : Se} {H : Hp} {O : Addr → Prop} {a b : Addr} {l m : List PV} (r : RV S H O (.ref a) (.tup l)) (r' : RV S H O (.ref b) (.tup m)) : ItOk S (RZ.ItzT S.K a b) (zipP l m) H O := by
  refine ⟨fun H O => RV S H O (.ref a) (.tup l) ∧ RV S H O (.ref b) (.tup m), ⟨r, r'⟩, fun _ _ _ _ r k q => ⟨r.1.mono k q, r.2.mono k q⟩, fun i H O pre r => ?_⟩
  obtain ⟨vs, h1, h2⟩ := r.1.sqT
  obtain ⟨ws, h3, h4⟩ := r.2.sqT
  refine ⟨fun p hp => ?_, fun hl => ?_⟩
  · obtain ⟨x, y, g1, g2, rfl⟩ := zipP_get hp
    obtain ⟨v, g3, g4⟩ := h2.get g1
    obtain ⟨w, g5, g6⟩ := h4.get g2
    refine ⟨⟨vs, ws, v, w, h1, h3, g3, g5⟩, fun z H' ⟨T, x', y', e1, e2, e3, e4, e5⟩ => ?_⟩
    subst e1 e3
    rw [e4 vs h1] at g3; cases g3
    rw [e5 ws h3] at g5; cases g5
    exact ⟨upd_keep e2, (RVs.cons g4 (.cons g6 .nil)).newT e2 pre⟩
  · refine ⟨vs, ws, h1, h3, ?_⟩
    rw [h2.length, h4.length]
    exact zipP_len hl
/-- an iterable's reading: the items -/
def rdI (F : Fm) (ow : List Nat) (m : Mo (List PV)) : TI := fun σ H R => ∃ e, ER F.S F.G ow σ H e ∧ Post F ow σ H (m e) fun l _ H' => ∀ J, ItOk F.S J l H' (Gd F.G ow σ) → R J H'
theorem _root_.L2.PI.imp {tg e : Expr} {t t' : TI} (h : PI X tg e t) (i : ∀ σ H Q, t' σ H Q → t σ H Q) : PI X tg e t' := ⟨fun pins s σ H Q I q => h.run pins s σ H Q I (i σ H Q q)⟩
theorem pi_or {tg e : Expr} {t : TE} (h : PE X e t) : PI X tg e fun σ H R => t σ H fun x H1 => ∃ a, x = .ref a ∧ ((∃ xs, SqL X.K H1 a xs) ∧ R (Itl X.K a) H1 ∨ (∃ xs, SqT X.K H1 a xs) ∧ R (Itt X.K a) H1) := by
  refine ⟨fun pins s σ H R I q => ?_⟩
  refine thn (h.run pins s σ H _ I q) fun v s1 ⟨x, H1, I1, r1, q1⟩ => ?_
  obtain ⟨a, e, q1⟩ := q1
  subst e
  cases r1
  have own : ∀ c ∈ [s1.heap.objs.size], FpOk X pins H1 c := fun c hc => by
    rw [List.mem_singleton.mp hc]
    exact I1.fpOk (Nat.le_refl _) (HOk.fresh I1.hok (Nat.le_refl _))
  rcases q1 with ⟨⟨xs, hq⟩, q⟩ | ⟨⟨xs, hq⟩, q⟩
  · obtain ⟨ys, _, pl, _⟩ := I1.list hq
    exact wpAny_pyIter_list pl.isList
      ⟨_, [s1.heap.objs.size], _, _, H1, rfl, I1.kept fun _ _ z => Heap.get?_push_of_some _ z,
        turn_list a _, ⟨_, Heap.get?_push_size _ rfl, rfl, rfl⟩, own, q⟩
  · obtain ⟨ys, _, pt, _⟩ := I1.tuple hq
    exact wpAny_pyIter_tuple (items := ys.toArray) pt
      ⟨_, [s1.heap.objs.size], _, _, H1, rfl, I1.kept fun _ _ z => Heap.get?_push_of_some _ z,
        turn_tuple a _, ⟨_, Heap.get?_push_size _ rfl, rfl, rfl⟩, own, q⟩
def itemsOf : PV → Option (List PV)
  | .tup l => some l
  | .lst l => some l
  | .fz l => some l
  | _ => none
def mIt (m : Mo PV) : Mo (List PV) := fun e => (m e).bind fun p e1 => lift (itemsOf p) e1
theorem pmi_seq {tg a : Expr} {m : Mo PV} (ha : PE X a (rd F ow m)) (hS : F.S = ⟨X.K, X.mg, F.S.T⟩ := by rfl) : PI X tg a (rdI F ow (mIt m)) :=
  (pi_or ha).imp fun σ H Q ⟨e, R, p⟩ => by
    have hK : F.S.K = X.K := by rw [hS]
    refine ⟨e, R, (Post.unbind p).mono fun q e1 H1 k1 R1 p1 v rv => ?_⟩
    obtain ⟨c, hc, q⟩ := p1.of_lift R1
    unfold itemsOf at hc
    split at hc
    · cases hc
      obtain ⟨a, vs, rfl, h1, t⟩ := rv.isT
      exact ⟨a, rfl, .inr ⟨⟨vs, hK ▸ h1⟩, hK ▸ q H1 (fun _ _ z => z) _ (it_tup rv)⟩⟩
    · cases hc
      obtain ⟨a, vs, rfl, h1, t⟩ := rv.isL
      exact ⟨a, rfl, .inl ⟨⟨vs, .inl (.inl h1)⟩, hK ▸ q H1 (fun _ _ z => z) _ (it_lst rv)⟩⟩
    · cases hc
      obtain ⟨a, vs, rfl, h1, t⟩ := rv.isF
      exact ⟨a, rfl, .inl ⟨⟨vs, hK ▸ h1⟩, hK ▸ q H1 (fun _ _ z => z) _ (it_fz rv)⟩⟩
    · cases hc
def iRange1 : List PV → Option (List PV)
  | [.int j] => if -(2 ^ 62) ≤ j ∧ j < 2 ^ 62 then some (rangeP 0 j.toNat) else none
  | _ => none
def mItA (g : List PV → Option (List PV)) (m : Mo (List PV)) : Mo (List PV) := fun e => (m e).bind fun l e1 => lift (g l) e1
theorem pmi_range1 {tg a : Expr} {ml : Mo (List PV)} {p pos : Pos} (hg : Gl X "range") (hm : X.mg "range" = none) (ha : PA X [a] (rdA F ow ml)) (hs : starEach [a] X.env = [(false, eval a X.env)] := by rfl) : PI X tg (.Call (.Name "range" p) [a] [] pos) (rdI F ow (mItA iRange1 ml)) :=
  (pi_range1 hg hm ha hs).imp fun σ H Q ⟨e, R, p⟩ => by
    refine ⟨e, R, (Post.unbind p).mono fun l e1 H1 k1 R1 p1 vs rs => ?_⟩
    obtain ⟨c, hc, q⟩ := p1.of_lift R1
    unfold iRange1 at hc
    split at hc
    · split at hc
      · rename_i h
        cases hc
        obtain ⟨x, rfl, rx⟩ := rs.one
        cases rx
        exact ⟨_, rfl, h.1, h.2, q H1 (fun _ _ z => z) _ (it_rng _ _)⟩
      · cases hc
    · cases hc
def iZipM : List PV → Option (List PV)
  | [.lst l, .lst m] => some (zipP l m)
  | [.tup l, .tup m] => some (zipP l m)
  | _ => none
theorem pmi_zip {a b : Expr} {ml : Mo (List PV)} {p pos tpos : Pos} {elts : List Expr} {kk : Nat} (hg : Gl X "zip") (hm : X.mg "zip" = none) (ha : PA X [a, b] (rdA F ow ml)) (hS : F.S = ⟨X.K, X.mg, F.S.T⟩ := by rfl)
    (hs : starEach [a, b] X.env = (false, eval a X.env) :: starEach [b] X.env := by rfl) (hpl : (backTo pos (starEach [b] X.env)).any (·.1) = false := by rfl) : PI X (.Tuple elts kk tpos) (.Call (.Name "zip" p) [a, b] [] pos) (rdI F ow (mItA iZipM ml)) :=
  (RZ.pi_zipA hg hm ha hs hpl).imp fun σ H Q ⟨e, R, p⟩ => by
    have hK : F.S.K = X.K := by rw [hS]
    refine ⟨e, R, (Post.unbind p).mono fun l e1 H1 k1 R1 p1 vs rs => ?_⟩
    obtain ⟨c, hc, q⟩ := p1.of_lift R1
    unfold iZipM at hc
    split at hc
    · cases hc
      obtain ⟨x, y, rfl, rx, ry⟩ := rs.two
      obtain ⟨a, vs, rfl, h1, t⟩ := rx.isL
      obtain ⟨b, ws, rfl, h2, u⟩ := ry.isL
      exact ⟨a, b, vs, ws, rfl, .inl ⟨.inl (.inl h1), .inl (.inl h2), hK ▸ q H1 (fun _ _ z => z) _ (it_zipL rx ry)⟩⟩
    · cases hc
      obtain ⟨x, y, rfl, rx, ry⟩ := rs.two
      obtain ⟨a, vs, rfl, h1, t⟩ := rx.isT
      obtain ⟨b, ws, rfl, h2, u⟩ := ry.isT
      exact ⟨a, b, vs, ws, rfl, .inr ⟨hK ▸ h1, hK ▸ h2, hK ▸ q H1 (fun _ _ z => z) _ (it_zipT rx ry)⟩⟩
    · cases hc

/-! ### what a loop's target takes -/
theorem wipe_get {σ : L2.St} {j : Nat} : ∀ {own : List Nat}, j ∈ own → j < σ.length → (L2.wipe σ own)[j]? = some none
  | [], h, _ => by cases h
  | v :: vs, h, hl => by
    unfold L2.wipe
    by_cases z : v = j
    · subst z
      rw [List.getElem?_set_self (by rw [wipe_length]; exact hl)]
    · rw [List.getElem?_set_ne z]
      exact wipe_get ((List.mem_cons.mp h).elim (fun q => absurd q.symm z) id) hl
theorem wipe_eq {σ σ' : L2.St} {own : List Nat} (hl : σ'.length = σ.length) (h : ∀ j, j ∉ own → σ'[j]? = σ[j]?) : L2.wipe σ' own = L2.wipe σ own := by
  apply List.ext_getElem?
  intro j
  by_cases z : j ∈ own
  · by_cases q : j < σ.length
    · rw [wipe_get z (by rw [hl]; exact q), wipe_get z q]
    · rw [List.getElem?_eq_none (by rw [wipe_length, hl]; omega), List.getElem?_eq_none (by rw [wipe_length]; omega)]
  · rw [wipe_out z, wipe_out z, h j z]
/-- the slots of is alone have changed -/
def Off (is : List Nat) (σ σ' : L2.St) : Prop := σ'.length = σ.length ∧ ∀ j, j ∉ is → σ'[j]? = σ[j]?
def TgOk (F : Fm) (ow is : List Nat) (g : TG) (f : PV → En → Option En) : Prop := ∀ {σ : L2.St} {H : Hp} {e e' : En} {v : V} {p : PV}, ER F.S F.G ow σ H e → RV F.S H (Gd F.G ow σ) v p → f p e = some e' →
  ∀ Q : L2.St → Hp → Prop, (∀ σ', KeepS ow σ H ow σ' H → Stay F.io σ σ' → Off is σ σ' → ER F.S F.G ow σ' H e' → Q σ' H) → g v σ H Q
def tN (i : Nat) : PV → En → Option En := fun p e => some (e.set i (some p))
def tT (is : List Nat) : PV → En → Option En := fun p e => match p with
  | .tup l => setAll is l e
  | _ => none
theorem tg_name (i : Nat) (hi : i ∉ ow := by decide) (hio : i ∉ F.io := by first | decide | exact of_decide_eq_true rfl) : TgOk F ow [i] (gName i) (tN i) := fun R rv h Q q => by
  cases h
  exact q _ (KeepS.set hi) (Stay.set hio) ⟨List.length_set, fun j hj => List.getElem?_set_ne fun z => hj (by simp [z])⟩ (R.set hi rv)
theorem setAll_goO {S : Se} {G : Addr → Prop} {io : List Nat} : ∀ {is : List Nat} {ps : List PV} {vs : List V} {e e' : En} {σ : L2.St}, setAll is ps e = some e' → (∀ i ∈ is, i ∉ ow) → (∀ i ∈ is, i ∉ io) → RVs S H (Gd G ow σ) vs ps → ER S G ow σ H e →
    ∀ Q : L2.St → Hp → Prop, (∀ σ', KeepS ow σ H ow σ' H → Stay io σ σ' → Off is σ σ' → ER S G ow σ' H e' → Q σ' H) → gNms is vs σ H Q
  | [], [], vs, e, e', σ, h, _, _, r, R, Q, q => by
    cases h
    cases r
    exact ⟨rfl, q σ KeepS.refl Stay.refl ⟨rfl, fun _ _ => rfl⟩ R⟩
  | i :: is, p :: ps, vs, e, e', σ, h, h1, h2, r, R, Q, q => by
    cases r with
    | cons r t =>
      rename_i v vs
      refine ⟨v, vs, rfl, ?_⟩
      have ni := h1 i List.mem_cons_self
      have og : Gd G ow (σ.set i (some v)) = Gd G ow σ := by unfold Gd; rw [own_set ni]
      refine setAll_goO (is := is) (io := io) h (fun j hj => h1 j (List.mem_cons_of_mem _ hj)) (fun j hj => h2 j (List.mem_cons_of_mem _ hj)) (by rw [og]; exact t) (R.set ni r) Q fun σ' k s o R' => ?_
      refine q σ' ((KeepS.set ni).trans k) ((Stay.set (h2 i List.mem_cons_self)).trans s) ⟨by rw [o.1, List.length_set], fun j hj => ?_⟩ R'
      rw [o.2 j fun z => hj (List.mem_cons_of_mem _ z)]
      exact List.getElem?_set_ne fun z => hj (by simp [z])
  | [], _ :: _, _, _, _, _, h, _, _, _, _, _, _ => by cases h
  | _ :: _, [], _, _, _, _, h, _, _, _, _, _, _ => by cases h
theorem tg_tup (is : List Nat) {K : PySem.W.Frag} (hi : ∀ i ∈ is, i ∉ ow := by decide) (hio : ∀ i ∈ is, i ∉ F.io := by first | decide | exact of_decide_eq_true rfl) (hK : F.S.K = K := by rfl) : TgOk F ow is (gTup K is.length (gNms is)) (tT is) := fun {σ H e e' v p} R rv h Q q => by
  cases p with
  | tup l =>
    obtain ⟨a, vs, rfl, h3, t⟩ := rv.isT
    have h' : setAll is l e = some e' := h
    exact ⟨a, vs, rfl, hK ▸ h3, by rw [t.length, setAll_len h'], setAll_goO h' hi hio t R _ q⟩
  | _ => cases h

/-! ### for -/
def loopM (f : PV → En → Option En) (b : Ms) : List PV → Ms
  | [], e => .nxt e
  | p :: l, e => match f p e with
    | none => .bad
    | some e1 => match b e1 with
      | .nxt e2 => loopM f b l e2
      | .cnt e2 => loopM f b l e2
      | .brk e2 => .nxt e2
      | .ret q e2 => .ret q e2
      | .exc x e2 => .exc x e2
      | .bad => .bad
def mFor (mi : Mo (List PV)) (f : PV → En → Option En) (b : Ms) : Ms := fun e => SOut.of (mi e) fun l e1 => loopM f b l e1
theorem less_of (k : KeepS ow σ H ow1 σ1 H1) {G : Addr → Prop} : Less H (Gd G ow σ) (Gd G ow1 σ1) := fun a h g => by
  rcases g with g | g
  · exact .inl g
  · by_cases z : Own ow σ a
    · exact .inr z
    · obtain ⟨o, q, nt⟩ := h
      exact absurd g (k.kp a o q z nt).2
theorem pmt_for {is : List Nat} {tg iter : Expr} {body : List Stmt} {g : TG} {f : PV → En → Option En} {mi : Mo (List PV)} {b : Ms} {pos : Pos} (hp : PassesOwn (model X.prog X.w) X.A X.env X.xe) (hi : PI X tg iter (rdI F ow mi)) (hg : PG X tg g) (ht : TgOk F ow is g f) (hb : PSs X body (rdS F ow ow ow b)) (hc : X.calm = true := by rfl)
    (hs : ∀ x, foldedSetIterable iter X.env x = pure x := by intro _; rfl) : PS X (.For tg iter body [] pos) (rdS F ow ow ob (mFor mi f b)) :=
  (ps_for hp hc hi hg hb hs).imp fun D σ0 H0 ⟨e, R, p⟩ => by
    refine ⟨e, R, (Post.stmt p).mono fun l e1 H1 k1 R1 p1 J ⟨T, T0, Ts, Tg⟩ => ?_⟩
    refine ⟨fun i m σ H => m = l.length - i ∧ i ≤ l.length ∧ T H (Gd F.G ow σ) ∧ ∃ e, ER F.S F.G ow σ H e ∧ PostS F ow ow ob σ H D (loopM f b (l.drop i) e), ⟨l.length, by simp, Nat.zero_le _, T0, e1, R1, by simpa using p1⟩, ?_⟩
    rintro i m σ H ⟨rfl, hl, t, e2, R2, p2⟩
    obtain ⟨hgo, hstop⟩ := Tg i H _ R2.tracked t
    by_cases hlt : i < l.length
    · have hd : l.drop i = l[i] :: l.drop (i + 1) := List.drop_eq_getElem_cons hlt
      rw [hd] at p2
      obtain ⟨go, yld⟩ := hgo l[i] (by simp [hlt])
      refine .inr ⟨go, fun σ' H' => T H' (Gd F.G ow σ') ∧ ∃ e, ER F.S F.G ow σ' H' e ∧ PostS F ow ow ob σ' H' D (loopM f b (l.drop (i + 1)) e), fun σ' H' ⟨t', e', R', p'⟩ => ⟨l.length - (i + 1), by omega, rfl, hlt, t', e', R', p'⟩, fun x H' y => ?_⟩
      obtain ⟨kk, rx⟩ := yld x H' y
      have R3 := R2.keep kk
      have t3 := Ts _ _ _ _ t (Keep.all kk) (Less.refl (O := Gd F.G ow σ))
      cases hf : f l[i] e2 with
      | none => simp only [loopM, hf] at p2; exact p2.elim
      | some e3 =>
        simp only [loopM, hf] at p2
        refine ht R3 rx hf _ fun σ' ks st _ R4 => ⟨e3, R4, ?_⟩
        have ks0 : KeepS ow σ H ow σ' H' := (KeepS.of (Keep.all kk)).trans ks
        have t4 := Ts _ _ _ _ t3 (Keep.gd (G := F.G) ks.keep) (less_of ks)
        have again : ∀ {e5 : En}, PostS F ow ow ob σ H D (loopM f b (l.drop (i + 1)) e5) → ∀ σ5 H5, KeepS ow σ' H' ow σ5 H5 → Stay F.io σ' σ5 → ER F.S F.G ow σ5 H5 e5 → T H5 (Gd F.G ow σ5) ∧ ∃ e, ER F.S F.G ow σ5 H5 e ∧ PostS F ow ow ob σ5 H5 D (loopM f b (l.drop (i + 1)) e) := fun {e5} p5 σ5 H5 k5 s5 R5 =>
          ⟨Ts _ _ _ _ t4 (Keep.gd (G := F.G) k5.keep) (less_of k5), e5, R5, PostS.from p5 (ks0.trans k5) (st.trans s5)⟩
        cases hbd : b e3 with
        | nxt e5 => simp only [hbd] at p2; exact fun σ5 H5 k5 s5 R5 => again p2 σ5 H5 k5 s5 R5
        | cnt e5 => simp only [hbd] at p2; exact fun σ5 H5 k5 s5 R5 => again p2 σ5 H5 k5 s5 R5
        | brk e5 => simp only [hbd] at p2; exact fun σ5 H5 k5 s5 R5 => p2 σ5 H5 (ks0.trans k5) (st.trans s5) R5
        | ret q e5 => simp only [hbd] at p2; exact (PostS.from (ow' := ow) (ob := ob) (o := .ret q e5) p2 ks0 st : PostS F ow ow ob σ' H' D (.ret q e5))
        | exc q e5 => simp only [hbd] at p2; exact (PostS.from (ow' := ow) (ob := ob) (o := .exc q e5) p2 ks0 st : PostS F ow ow ob σ' H' D (.exc q e5))
        | bad => simp only [hbd] at p2; exact p2.elim
    · have hd : l.drop i = [] := List.drop_eq_nil_of_le (by omega)
      rw [hd] at p2
      exact .inl ⟨hstop (by omega), p2 σ H KeepS.refl Stay.refl R2⟩
/-! ### while -/
def wloop (c : Mo Bool) (b : Ms) : Nat → Ms
  | 0, _ => .bad
  | n + 1, e => SOut.of (c e) fun k e1 => if k = true then match b e1 with
      | .nxt e2 => wloop c b n e2
      | .cnt e2 => wloop c b n e2
      | .brk e2 => .nxt e2
      | .ret q e2 => .ret q e2
      | .exc x e2 => .exc x e2
      | .bad => .bad
    else .nxt e1
theorem pmt_while (n : Nat) {c : Expr} {body : List Stmt} {t : Mo Bool} {b : Ms} {pos : Pos} (hp : PassesOwn (model X.prog X.w) X.A X.env X.xe) (hc : PT X c (rdT F ow t)) (hb : PSs X body (rdS F ow ow ow b)) : PS X (.While c body [] pos) (rdS F ow ow ob (wloop t b n)) :=
  (ps_while hp hc hb).imp fun D σ0 H0 ⟨e, R, p⟩ => by
    refine ⟨fun m σ H => ∃ e, ER F.S F.G ow σ H e ∧ PostS F ow ow ob σ H D (wloop t b m e), ⟨n, e, R, p⟩, ?_⟩
    rintro m σ H ⟨e1, R1, p1⟩
    cases m with
    | zero => exact p1.elim
    | succ m =>
      refine ⟨e1, R1, (Post.stmt p1).mono fun k e2 H2 k2 R2 p2 => ?_⟩
      cases k with
      | false => exact p2 σ H2 KeepS.refl Stay.refl R2
      | true =>
        simp only [if_true] at p2 ⊢
        refine ⟨fun σ' H' => ∃ e, ER F.S F.G ow σ' H' e ∧ PostS F ow ow ob σ' H' D (wloop t b m e), fun σ' H' z => ⟨m, Nat.lt_succ_self _, z⟩, e2, R2, ?_⟩
        cases hbd : b e2 with
        | nxt e5 => simp only [hbd] at p2; exact fun σ5 H5 k5 s5 R5 => ⟨e5, R5, PostS.from p2 k5 s5⟩
        | cnt e5 => simp only [hbd] at p2; exact fun σ5 H5 k5 s5 R5 => ⟨e5, R5, PostS.from p2 k5 s5⟩
        | brk e5 => simp only [hbd] at p2; exact p2
        | ret q e5 => simp only [hbd] at p2; exact p2
        | exc q e5 => simp only [hbd] at p2; exact p2
        | bad => simp only [hbd] at p2; exact p2.elim
end
end M

namespace M
open PySem PySem.Spec PyProof.Rows L2

def wipeE (e : En) : List Nat → En
  | [] => e
  | v :: vs => (wipeE e vs).set v none
def restE (own : List Nat) (e e3 : En) : En := match own with
  | [] => e3
  | v :: vs => (restE vs e e3).set v (e[v]?.getD none)
def lcLoop (own : List Nat) (f : PV → En → Option En) (mt : Mo Bool) (me : Mo PV) : List PV → List PV → En → Out PV
  | [], acc, e => .ok (.lst acc) e
  | p :: l, acc, e => match f p (wipeE e own) with
    | none => .bad
    | some e1 => match mt e1 with
      | .ok true e2 => match me e2 with
        | .ok q e3 => if acc.length < sizeLine then lcLoop own f mt me l (acc ++ [q]) (restE own e e3) else .bad
        | _ => .bad
      | .ok false e2 => lcLoop own f mt me l acc (restE own e e2)
      | _ => .bad
def mLc (own : List Nat) (f : PV → En → Option En) (mt : Mo Bool) (me : Mo PV) (mi : Mo (List PV)) : Mo PV := fun e => (mi e).bind fun l e1 => lcLoop own f mt me l [] e1
def Fm.cmp (F : Fm) (z : Addr) : Fm := ⟨F.S, fun y => F.G y ∨ y = z, F.io, fun _ _ _ _ => False⟩
def mYes : Mo Bool := fun e => .ok true e

section
variable {X : Cx} {F : Fm} {ow ow' ow1 ow2 ob : List Nat} {σ σ1 σ2 : L2.St} {H H1 H2 : Hp}
theorem pmts_nil : PTs X [] (rdT F ow mYes) := ⟨fun pins s σ H Q I ⟨e, R, p⟩ => pts_nil.run pins s σ H Q I (p H Keep.refl R)⟩
theorem pmts_one {c : Expr} {t : Mo Bool} (h : PT X c (rdT F ow t)) : PTs X [c] (rdT F ow t) := pts_one h
theorem ER.unset {S : Se} {G : Addr → Prop} {e : En} (R : ER S G ow σ H e) {i : Nat} (hi : i ∉ ow) : ER S G ow (σ.set i none) H (e.set i none) := by
  have og := own_set (σ := σ) (v := none) hi
  have gg : Gd G ow (σ.set i none) = Gd G ow σ := by unfold Gd; rw [og]
  have ne : ∀ j, j ∈ ow → i ≠ j := fun j hj z => hi (z ▸ hj)
  refine ⟨fun j q h1 h2 => ?_, fun j q h1 h2 => ?_, fun j hj h1 a => ?_, fun j k a hj hk h1 h2 => ?_, fun j a hj h1 => ?_, R.gt, R.tb, by rw [List.length_set, List.length_set]; exact R.len⟩
  · rw [gg]
    by_cases z : i = j
    · subst z
      have hl : i < e.length := by
        have := (List.getElem?_eq_some_iff.mp h1).1
        rw [List.length_set] at this
        exact this
      rw [List.getElem?_set_self hl] at h1
      cases h1
    · rw [List.getElem?_set_ne z] at h1
      obtain ⟨w, h3, h4⟩ := R.val j q h1 h2
      exact ⟨w, by rw [List.getElem?_set_ne z]; exact h3, h4⟩
  · rw [gg]
    rw [List.getElem?_set_ne (ne j h2)] at h1
    obtain ⟨w, h3, h4⟩ := R.own j q h1 h2
    exact ⟨w, by rw [List.getElem?_set_ne (ne j h2)]; exact h3, h4⟩
  · rw [List.getElem?_set_ne (ne j hj)]
    exact R.off j hj (fun p z => h1 p (by rw [List.getElem?_set_ne (ne j hj)]; exact z)) a
  · rw [List.getElem?_set_ne (ne j hj)] at h1
    rw [List.getElem?_set_ne (ne k hk)] at h2
    exact R.sep j k a hj hk h1 h2
  · rw [List.getElem?_set_ne (ne j hj)] at h1
    exact R.ng j a hj h1
theorem ER.wipe {S : Se} {G : Addr → Prop} {e : En} (R : ER S G ow σ H e) : ∀ {own : List Nat}, (∀ i ∈ own, i ∉ ow) → ER S G ow (L2.wipe σ own) H (wipeE e own)
  | [], _ => R
  | v :: vs, h => (ER.wipe R fun i hi => h i (List.mem_cons_of_mem _ hi)).unset (h v List.mem_cons_self)
theorem restE_len {e e3 : En} : ∀ {own : List Nat}, (restE own e e3).length = e3.length
  | [] => rfl
  | v :: vs => by unfold restE; rw [List.length_set, restE_len]
theorem restE_out {e e3 : En} {j : Nat} : ∀ {own : List Nat}, j ∉ own → (restE own e e3)[j]? = e3[j]?
  | [], _ => rfl
  | v :: vs, h => by
    unfold restE
    rw [List.getElem?_set_ne (show v ≠ j from fun z => h (z ▸ List.mem_cons_self))]
    exact restE_out fun z => h (List.mem_cons_of_mem _ z)
theorem restE_in {e e3 : En} {j : Nat} (hl : j < e3.length) : ∀ {own : List Nat}, j ∈ own → (restE own e e3)[j]? = some (e[j]?.getD none)
  | [], h => by cases h
  | v :: vs, h => by
    unfold restE
    by_cases z : v = j
    · subst z
      rw [List.getElem?_set_self (by rw [restE_len]; exact hl)]
    · rw [List.getElem?_set_ne z]
      exact restE_in hl ((List.mem_cons.mp h).elim (fun q => absurd q.symm z) id)
theorem ER.rest {S : Se} {G : Addr → Prop} {e e3 : En} {own : List Nat} (R : ER S G ow σ H e) (R2 : ER S G ow σ2 H2 e3) (k : Keep (Own ow σ) H H2) (hw : L2.wipe σ2 own = L2.wipe σ own) (h : ∀ i ∈ own, i ∉ ow) : ER S G ow σ H2 (restE own e e3) := by
  have same : ∀ j, j ∉ own → σ2[j]? = σ[j]? := fun j hj => by rw [← wipe_out (σ := σ2) hj, hw, wipe_out hj]
  have notown : ∀ j, j ∈ ow → j ∉ own := fun j hj z => h j z hj
  have oe : Own ow σ2 = Own ow σ := funext fun a => propext ⟨fun ⟨i, hi, z⟩ => ⟨i, hi, by rw [← same i (notown i hi)]; exact z⟩, fun ⟨i, hi, z⟩ => ⟨i, hi, by rw [same i (notown i hi)]; exact z⟩⟩
  have ge : Gd G ow σ2 = Gd G ow σ := by unfold Gd; rw [oe]
  have hlen : σ2.length = σ.length := by
    have := congrArg List.length hw
    rw [wipe_length, wipe_length] at this
    exact this
  refine ⟨fun j q h1 h2 => ?_, fun j q h1 h2 => ?_, fun j hj h1 a => ?_, R.sep, R.ng, R2.gt, R2.tb, by rw [restE_len, R2.len, hlen]⟩
  · by_cases z : j ∈ own
    · have hl : j < e3.length := by
        have := (List.getElem?_eq_some_iff.mp h1).1
        rw [restE_len] at this
        exact this
      rw [restE_in hl z] at h1
      cases h5 : e[j]? with
      | none => rw [h5] at h1; cases h1
      | some x =>
        rw [h5] at h1
        have h1' : x = some q := by simpa using h1
        subst h1'
        obtain ⟨v, h3, h4⟩ := R.val j q h5 h2
        exact ⟨v, h3, h4.mono k.gd Less.refl⟩
    · rw [restE_out z] at h1
      obtain ⟨v, h3, h4⟩ := R2.val j q h1 h2
      exact ⟨v, by rw [← same j z]; exact h3, by rw [← ge]; exact h4⟩
  · have z := notown j h2
    rw [restE_out z] at h1
    obtain ⟨v, h3, h4⟩ := R2.own j q h1 h2
    exact ⟨v, by rw [← same j z]; exact h3, by rw [← ge]; exact h4⟩
  · have z := notown j hj
    rw [← same j z]
    exact R2.off j hj (fun p q => h1 p (by rw [restE_out z]; exact q)) a
theorem ER.unext {S : Se} {G : Addr → Prop} {e : En} {D : Addr} (R : ER S (fun y => G y ∨ y = D) ow σ H e) : ER S G ow σ H e := by
  have q : Less H (Gd (fun y => G y ∨ y = D) ow σ) (Gd G ow σ) := fun a _ z => z.imp .inl id
  exact ⟨fun i p h1 h2 => let ⟨v, h3, h4⟩ := R.val i p h1 h2; ⟨v, h3, h4.mono Keep.refl q⟩, fun i p h1 h2 => let ⟨v, h3, h4⟩ := R.own i p h1 h2; ⟨v, h3, h4.mono Keep.refl q fun _ _ => rfl⟩, R.off, R.sep, fun i a hi h g => R.ng i a hi h (.inl g), fun a g => R.gt a (.inl g), R.tb, R.len⟩

theorem lc_core {wi : TI} {g : TG} {tt : TT} {te : TE} {is own : List Nat} {f : PV → En → Option En} {mt : Mo Bool} {me : Mo PV} {l : List PV} {e1 : En} {J : It} {D : Addr} {Q : VK} {pf : PV} {ef : En}
    (hJ : ItOk F.S J l H1 (Gd F.G ow σ)) (hD : H1 D = none) (R1 : ER F.S F.G ow σ H1 e1)
    (hg : ∀ z, TgOk (F.cmp z) ow is g f) (htt : ∀ z σ H Q, rdT (F.cmp z) ow mt σ H Q → tt σ H Q) (hte : ∀ z σ H Q, rd (F.cmp z) ow me σ H Q → te σ H Q) (ho : ∀ i ∈ own, i ∉ ow) (his : ∀ i ∈ is, i ∈ own)
    (hok : lcLoop own f mt me l [] e1 = .ok pf ef)
    (hfin : ∀ H acc vs, pf = .lst acc → Keep (Own ow σ) H1 H → ER F.S (F.cmp D).G ow σ H ef → H D = some (.lst vs) → RVs F.S H (Gd (F.cmp D).G ow σ) vs acc → Q (.ref D) H) :
    ∃ W : Nat → Nat → Hp → Prop, (∃ m, W 0 m (upd H1 D (.lst []))) ∧ ∀ (i m : Nat) (H : Hp), W i m H →
      (J.stop i H ∧ Q (.ref D) H) ∨ (J.go i H ∧ ∃ Nx : Hp → Prop, (∀ H', Nx H' → ∃ m', m' < m ∧ W (i + 1) m' H') ∧ ∀ x H', J.yld i H x H' →
        g x (L2.wipe σ own) H' fun σ2 H2 => L2.wipe σ2 own = L2.wipe σ own ∧ tt σ2 H2 fun b H3 => if b = true then te σ2 H3 fun y H4 => ∃ acc, H4 D = some (.lst acc) ∧ acc.length < sizeLine ∧ Nx (upd H4 D (.lst (acc ++ [y]))) else Nx H3) := by
  obtain ⟨T, T0, Ts, Tg⟩ := hJ
  have nOwn : ¬ Own ow σ D := fun z => (R1.ownT z).ne hD
  have lessD : Less H1 (Gd F.G ow σ) (Gd (F.cmp D).G ow σ) := fun a h z => by
    rcases z with (z | z) | z
    · exact .inl z
    · subst z; exact absurd hD h.ne
    · exact .inr z
  refine ⟨fun i m H => m = l.length - i ∧ i ≤ l.length ∧ T H (Gd (F.cmp D).G ow σ) ∧ ∃ e acc vs, ER F.S (F.cmp D).G ow σ H e ∧ H D = some (.lst vs) ∧ RVs F.S H (Gd (F.cmp D).G ow σ) vs acc ∧ Keep (Own ow σ) H1 H ∧ lcLoop own f mt me (l.drop i) acc e = .ok pf ef,
    ⟨l.length, by simp, Nat.zero_le _, Ts _ _ _ _ T0 (Keep.upd hD) lessD, e1, [], [], R1.ext hD, upd_same, .nil, Keep.upd hD, by simpa using hok⟩, ?_⟩
  rintro i m H ⟨rfl, hl, t, e2, acc, vs, R2, hv, ra, k2, p2⟩
  obtain ⟨hgo2, hstop⟩ := Tg i H _ R2.tracked t
  by_cases hlt : i < l.length
  · have hd : l.drop i = l[i] :: l.drop (i + 1) := List.drop_eq_getElem_cons hlt
    rw [hd] at p2
    obtain ⟨go, yld⟩ := hgo2 l[i] (by simp [hlt])
    refine .inr ⟨go, fun H' => T H' (Gd (F.cmp D).G ow σ) ∧ ∃ e acc vs, ER F.S (F.cmp D).G ow σ H' e ∧ H' D = some (.lst vs) ∧ RVs F.S H' (Gd (F.cmp D).G ow σ) vs acc ∧ Keep (Own ow σ) H1 H' ∧ lcLoop own f mt me (l.drop (i + 1)) acc e = .ok pf ef,
      fun H' ⟨t', z⟩ => ⟨l.length - (i + 1), by omega, rfl, hlt, t', z⟩, fun x H' y => ?_⟩
    obtain ⟨kk, rx⟩ := yld x H' y
    have R3 := R2.keep kk
    have Rw := R3.wipe ho
    have sameW : ∀ j, j ∈ ow → (L2.wipe σ own)[j]? = σ[j]? := fun j hj => wipe_out fun z => ho j z hj
    have ow_w : Own ow (L2.wipe σ own) = Own ow σ := funext fun a => propext ⟨fun ⟨i, hi, z⟩ => ⟨i, hi, by rw [← sameW i hi]; exact z⟩, fun ⟨i, hi, z⟩ => ⟨i, hi, by rw [sameW i hi]; exact z⟩⟩
    have gd_w : Gd (F.cmp D).G ow (L2.wipe σ own) = Gd (F.cmp D).G ow σ := by unfold Gd; rw [ow_w]
    cases hf : f l[i] (wipeE e2 own) with
    | none => simp only [lcLoop, hf] at p2; cases p2
    | some e3 =>
      simp only [lcLoop, hf] at p2
      refine hg D Rw (by rw [gd_w]; exact rx) hf _ fun σ' ks st off R4 => ?_
      have hw : L2.wipe σ' own = L2.wipe σ own := by
        have h1 : L2.wipe σ' own = L2.wipe (L2.wipe σ own) own := wipe_eq off.1 fun j hj => off.2 j fun z => hj (his j z)
        rw [h1]
        exact wipe_eq (wipe_length _ _) fun j hj => wipe_out hj
      have same : ∀ j, j ∉ own → σ'[j]? = σ[j]? := fun j hj => by rw [← wipe_out (σ := σ') hj, hw, wipe_out hj]
      have notown : ∀ j, j ∈ ow → j ∉ own := fun j hj z => ho j z hj
      have oe : Own ow σ' = Own ow σ := funext fun a => propext ⟨fun ⟨i, hi, z⟩ => ⟨i, hi, by rw [← same i (notown i hi)]; exact z⟩, fun ⟨i, hi, z⟩ => ⟨i, hi, by rw [same i (notown i hi)]; exact z⟩⟩
      have ge : Gd (F.cmp D).G ow σ' = Gd (F.cmp D).G ow σ := by unfold Gd; rw [oe]
      refine ⟨hw, htt D _ _ _ ⟨e3, R4, ?_⟩⟩
      have vk : ∀ {H5 : Hp}, Keep (Own ow σ) H' H5 → H5 D = some (.lst vs) := fun {H5} k => k.kp D _ (kk D _ hv) nOwn nt_lst
      have rak : ∀ {H5 : Hp}, Keep (Own ow σ) H' H5 → RVs F.S H5 (Gd (F.cmp D).G ow σ) vs acc := fun {H5} k => (ra.mono (Keep.all kk) Less.refl).mono k.gd Less.refl
      have tk : ∀ {H5 : Hp}, Keep (Own ow σ) H' H5 → T H5 (Gd (F.cmp D).G ow σ) := fun {H5} k => Ts _ _ _ _ (Ts _ _ _ _ t (Keep.all kk) Less.refl) k.gd Less.refl
      have k2k : ∀ {H5 : Hp}, Keep (Own ow σ) H' H5 → Keep (Own ow σ) H1 H5 := fun {H5} k => (k2.trans (Keep.all kk)).trans k
      cases hmt : mt e3 with
      | bad => simp only [hmt] at p2; cases p2
      | exc x e4 => simp only [hmt] at p2; cases p2
      | ok b e4 =>
        intro H3 k3 R5
        rw [oe] at k3
        cases b with
        | false =>
          simp only [hmt] at p2
          rw [if_neg (by decide)]
          exact ⟨tk k3, _, acc, vs, ER.rest R3 R5 k3 hw ho, vk k3, rak k3, k2k k3, p2⟩
        | true =>
          simp only [hmt] at p2
          rw [if_pos rfl]
          refine hte D _ _ _ ⟨e4, R5, ?_⟩
          cases hme : me e4 with
          | bad => simp only [hme] at p2; cases p2
          | exc x e5 => simp only [hme] at p2; cases p2
          | ok q e5 =>
            simp only [hme] at p2
            intro H4 k4 R6 y ry
            rw [oe] at k4
            rw [ge] at ry
            split at p2
            · rename_i hsz
              have k34 := k3.trans k4
              refine ⟨vs, vk k34, by rw [(rak k34).length]; exact hsz, ?_⟩
              have kD : Keep (Gd (F.cmp D).G ow σ) H4 (upd H4 D (.lst (vs ++ [y]))) := Keep.own (vk k34) (.inl (.inr rfl))
              have kU : Keep (Own ow σ) H1 (upd H4 D (.lst (vs ++ [y]))) := ⟨fun z u e n nt => by
                have hz : z ≠ D := fun q => by subst q; rw [e] at hD; cases hD
                rw [upd_ne hz]; exact (k2k k34).kp z u e n nt⟩
              have R7 := ER.rest R3 R6 k34 hw ho
              refine ⟨Ts _ _ _ _ (tk k34) kD Less.refl, _, acc ++ [q], vs ++ [y], ?_, upd_same, ((rak k34).append (.cons ry .nil)).mono kD Less.refl, kU, p2⟩
              refine ⟨fun j p h1 h2 => ?_, fun j p h1 h2 => ?_, R7.off, R7.sep, R7.ng, fun a g => ?_, fun p hp => tab_own (vk k34) nt_lst (fun _ z => by cases z) (R7.tb p hp), R7.len⟩
              · obtain ⟨v, h3, h4⟩ := R7.val j p h1 h2
                exact ⟨v, h3, h4.mono kD Less.refl⟩
              · obtain ⟨v, h3, h4⟩ := R7.own j p h1 h2
                refine ⟨v, h3, h4.mono kD Less.refl fun a z => ?_⟩
                subst z
                exact upd_ne fun q => nOwn (q ▸ ⟨j, h2, h3⟩)
              · by_cases z : a = D
                · subst z; exact ⟨_, upd_same, nte_lst⟩
                · obtain ⟨w, q1, q2⟩ := R7.gt a g
                  exact ⟨w, by rw [upd_ne z]; exact q1, q2⟩
            · cases p2
  · have hd : l.drop i = [] := List.drop_eq_nil_of_le (by omega)
    rw [hd] at p2
    simp only [lcLoop] at p2
    cases p2
    exact .inl ⟨hstop (by omega), hfin H acc vs rfl k2 R2 hv ra⟩
theorem lcLoop_noexc {own : List Nat} {f : PV → En → Option En} {mt : Mo Bool} {me : Mo PV} : ∀ {l acc : List PV} {e e' : En} {x : Ex}, lcLoop own f mt me l acc e ≠ .exc x e'
  | [], acc, e, e', x => by simp [lcLoop]
  | p :: l, acc, e, e', x => by
    unfold lcLoop
    split
    · simp
    · split
      · split
        · split
          · exact lcLoop_noexc
          · simp
        · simp
      · exact lcLoop_noexc
      · simp
theorem lc_go {wi : TI} {g : TG} {tt : TT} {te : TE} {is own : List Nat} {f : PV → En → Option En} {mt : Mo Bool} {me : Mo PV} {mi : Mo (List PV)} {σ : L2.St} {H : Hp} {Q : VK}
    (hg : ∀ z, TgOk (F.cmp z) ow is g f) (htt : ∀ z σ H Q, rdT (F.cmp z) ow mt σ H Q → tt σ H Q) (hte : ∀ z σ H Q, rd (F.cmp z) ow me σ H Q → te σ H Q) (ho : ∀ i ∈ own, i ∉ ow) (his : ∀ i ∈ is, i ∈ own)
    (h : rd F ow (mLc own f mt me mi) σ H Q) : tLc (rdI F ow mi) g tt te own σ H Q := by
  obtain ⟨e, R, p⟩ := h
  refine ⟨e, R, (Post.unbind p).mono fun l e1 H1 k1 R1 p1 J hJ D hD => ?_⟩
  cases hok : lcLoop own f mt me l [] e1 with
  | bad => rw [hok] at p1; exact p1.elim
  | exc x e2 => exact absurd hok lcLoop_noexc
  | ok pf ef =>
    rw [hok] at p1
    refine lc_core (wi := wi) (e1 := e1) (is := is) (f := f) hJ hD R1 hg htt hte ho his hok fun H2 acc vs e3 k2 R2 hv ra => ?_
    subst e3
    have nG : ¬ Gd F.G ow σ D := fun z => (R1.tracked D z).ne hD
    exact p1 H2 k2 R2.unext _ (.lst nG hv (ra.mono Keep.refl fun a _ z => z.imp .inl id))
/-- the block's expressions, whatever stands guarded -/
theorem pe_all {e : Expr} {m : Mo PV} (h : ∀ z, PE X e (rd (F.cmp z) ow m)) : PE X e fun σ H Q => ∃ z, rd (F.cmp z) ow m σ H Q := ⟨fun pins s σ H Q I ⟨z, q⟩ => (h z).run pins s σ H Q I q⟩
theorem pts_all {es : List Expr} {m : Mo Bool} (h : ∀ z, PTs X es (rdT (F.cmp z) ow m)) : PTs X es fun σ H Q => ∃ z, rdT (F.cmp z) ow m σ H Q := ⟨fun pins s σ H Q I ⟨z, q⟩ => (h z).run pins s σ H Q I q⟩
theorem pm_lc {elt tg iter : Expr} {ifs : List Expr} {scope : Scope} {own : List (Str × Nat)} {pos : Pos} {g : TG} {is : List Nat} {f : PV → En → Option En} {mt : Mo Bool} {me : Mo PV} {mi : Mo (List PV)}
    (hN : X.N.Nodup) (hi : PI X tg iter (rdI F ow mi)) (hb : BlkOk X.N X.env.scope scope own) (hpg : ∀ (s : Shared) (H : Hp) (C : Addr) (cl : List (Str × Addr)) (fp : List Addr), PG (X.blk s H scope (compEnvC scope cl C X.env) fp) tg g)
    (hpt : ∀ (s : Shared) (H : Hp) (C : Addr) (cl : List (Str × Addr)) (fp : List Addr) z, PTs (X.blk s H scope (compEnvC scope cl C X.env) fp) ifs (rdT (F.cmp z) ow mt))
    (hpe : ∀ (s : Shared) (H : Hp) (C : Addr) (cl : List (Str × Addr)) (fp : List Addr) z, PE (X.blk s H scope (compEnvC scope cl C X.env) fp) elt (rd (F.cmp z) ow me))
    (hg : ∀ z, TgOk (F.cmp z) ow is g f) (ho : ∀ i ∈ own.map (·.2), i ∉ ow := by decide) (his : ∀ i ∈ is, i ∈ own.map (·.2) := by decide) (hc : X.calm = true := by rfl) (hs : ∀ x, foldedSetIterable iter X.env x = pure x := by intro _; rfl) :
    PE X (.ListComp elt [{ target := tg, iter := iter, ifs := ifs, is_async := 0 }] scope pos) (rd F ow (mLc (own.map (·.2)) f mt me mi)) :=
  (pe_lc hc hN hi hb hpg (fun s H C cl fp => pts_all (hpt s H C cl fp)) (fun s H C cl fp => pe_all (hpe s H C cl fp)) hs).imp fun σ H Q h => lc_go (wi := rdI F ow mi) hg (fun z _ _ _ q => ⟨z, q⟩) (fun z _ _ _ q => ⟨z, q⟩) ho his h
/-- y = [.. for ..] -/
theorem pmt_setLc (i : Nat) {y : Str} {py : Pos} {elt tg iter : Expr} {ifs : List Expr} {scope : Scope} {own : List (Str × Nat)} {pos spos : Pos} {g : TG} {is : List Nat} {f : PV → En → Option En} {mt : Mo Bool} {me : Mo PV} {mi : Mo (List PV)}
    (hN : X.N.Nodup) (hI : PI X tg iter (rdI F ow mi)) (hb : BlkOk X.N X.env.scope scope own) (hpg : ∀ (s : Shared) (H : Hp) (C : Addr) (cl : List (Str × Addr)) (fp : List Addr), PG (X.blk s H scope (compEnvC scope cl C X.env) fp) tg g)
    (hpt : ∀ (s : Shared) (H : Hp) (C : Addr) (cl : List (Str × Addr)) (fp : List Addr) z, PTs (X.blk s H scope (compEnvC scope cl C X.env) fp) ifs (rdT (F.cmp z) ow mt))
    (hpe : ∀ (s : Shared) (H : Hp) (C : Addr) (cl : List (Str × Addr)) (fp : List Addr) z, PE (X.blk s H scope (compEnvC scope cl C X.env) fp) elt (rd (F.cmp z) ow me))
    (hg : ∀ z, TgOk (F.cmp z) ow is g f) (hsw : swapsWith (.ListComp elt [{ target := tg, iter := iter, ifs := ifs, is_async := 0 }] scope pos) (some (.Name y py)) spos.line X.env = pure true)
    (hi : i ∉ ow := by decide) (hio : i ∉ F.io := by first | decide | exact of_decide_eq_true rfl) (hx : X.N[i]? = some y := by rfl) (hl : X.env.scope.names.lookup y = some .local := by rfl)
    (ho : ∀ i ∈ own.map (·.2), i ∉ ow := by decide) (his : ∀ i ∈ is, i ∈ own.map (·.2) := by decide) (hc : X.calm = true := by rfl) (hs : ∀ x, foldedSetIterable iter X.env x = pure x := by intro _; rfl) :
    PS X (.Assign [.Name y py] (.ListComp elt [{ target := tg, iter := iter, ifs := ifs, is_async := 0 }] scope pos) spos) (rdS F ow ow ob (mSet i (mLc (own.map (·.2)) f mt me mi))) :=
  (ps_setLc hc hN hx hl hsw hI hb hpg (fun s H C cl fp => pts_all (hpt s H C cl fp)) (fun s H C cl fp => pe_all (hpe s H C cl fp)) hs).imp fun D σ H ⟨e, R, p⟩ =>
    lc_go (wi := rdI F ow mi) hg (fun z _ _ _ q => ⟨z, q⟩) (fun z _ _ _ q => ⟨z, q⟩) ho his ⟨e, R, (Post.stmt p).mono fun a e1 H1 k1 R1 p1 v rv => p1 _ H1 (KeepS.set hi) (Stay.set hio) (R1.set hi rv)⟩

/-! ### a def, by its body -/
def startE (L : Nat) (ps : List PV) : En := ps.map some ++ List.replicate (L - ps.length) none
/-- nothing is raised -/
def runN (L : Nat) (ms : Ms) (ps : List PV) : Out PV := match ms (startE L ps) with
  | .nxt e => .ok .non e
  | .ret p e => .ok p e
  | _ => .bad
theorem start_get {N : List Str} {vs : List V} {k : Nat} {v : V} (h : (L2.start N vs)[k]? = some (some v)) : vs[k]? = some v := by
  unfold L2.start at h
  by_cases q : k < vs.length
  · rw [List.getElem?_append_left (by rw [List.length_map]; exact q), List.getElem?_map] at h
    cases z : vs[k]? with
    | none => rw [z] at h; cases h
    | some x => rw [z] at h; simp at h; rw [h]
  · rw [List.getElem?_append_right (by rw [List.length_map]; omega)] at h
    have := List.mem_of_getElem? h
    rw [List.mem_replicate] at this
    cases this.2
theorem start_of {N : List Str} {vs : List V} {k : Nat} {v : V} (h : vs[k]? = some v) : (L2.start N vs)[k]? = some (some v) := by
  unfold L2.start
  have q := (List.getElem?_eq_some_iff.mp h).1
  rw [List.getElem?_append_left (by rw [List.length_map]; exact q), List.getElem?_map, h]
  rfl
theorem startE_get {L : Nat} {ps : List PV} {k : Nat} {p : PV} (h : (startE L ps)[k]? = some (some p)) : ps[k]? = some p := by
  unfold startE at h
  by_cases q : k < ps.length
  · rw [List.getElem?_append_left (by rw [List.length_map]; exact q), List.getElem?_map] at h
    cases z : ps[k]? with
    | none => rw [z] at h; cases h
    | some x => rw [z] at h; simp at h; rw [h]
  · rw [List.getElem?_append_right (by rw [List.length_map]; omega)] at h
    have := List.mem_of_getElem? h
    rw [List.mem_replicate] at this
    cases this.2
theorem startE_of {L : Nat} {ps : List PV} {k : Nat} {p : PV} (h : ps[k]? = some p) : (startE L ps)[k]? = some (some p) := by
  unfold startE
  have q := (List.getElem?_eq_some_iff.mp h).1
  rw [List.getElem?_append_left (by rw [List.length_map]; exact q), List.getElem?_map, h]
  rfl
end
/-- the entry of a def -/
theorem er_start {S : Se} {N : List Str} {n : Nat} {io : List Nat} {O : Addr → Prop} {vs : List V} {ps : List PV} {H : Hp} (hv : vs.length = n) (hp : ps.length = n) (hN : n ≤ N.length) (pre : Pre H O) (htb : ∀ p ∈ S.T.l, LamX.TabS H p.1 p.2)
    (h1 : ∀ k p, ps[k]? = some p → k ∉ io → ∃ v, vs[k]? = some v ∧ RV S H O v p) (h2 : ∀ k p, ps[k]? = some p → k ∈ io → ∃ a, vs[k]? = some (.ref a) ∧ O a ∧ At S H O (.ref a) p)
    (h3 : ∀ k k' a, k ∈ io → k' ∈ io → vs[k]? = some (.ref a) → vs[k']? = some (.ref a) → k = k') :
    ER S (fun a => O a ∧ ∀ k, k ∈ io → vs[k]? ≠ some (.ref a)) io (L2.start N vs) H (startE N.length ps) := by
  have less : Less H O (Gd (fun a => O a ∧ ∀ k, k ∈ io → vs[k]? ≠ some (.ref a)) io (L2.start N vs)) := fun a _ g => by
    rcases g with g | ⟨i, hi, e⟩
    · exact g.1
    · have e1 := start_get e
      have hl := (List.getElem?_eq_some_iff.mp e1).1
      have : ps[i]? = some (ps[i]'(by omega)) := List.getElem?_eq_getElem _
      obtain ⟨b, e2, ob, _⟩ := h2 i _ this hi
      rw [e1] at e2; cases e2
      exact ob
  refine ⟨fun i p e hi => ?_, fun i p e hi => ?_, fun i hi q a e => ?_, fun i j a hi hj e e' => h3 i j a hi hj (start_get e) (start_get e'), fun i a hi e g => g.2 i hi (start_get e), fun a g => pre a g.1, htb, ?_⟩
  · obtain ⟨v, e1, r⟩ := h1 i p (startE_get e) hi
    exact ⟨v, start_of e1, r.mono Keep.refl less⟩
  · obtain ⟨a, e1, oa, r⟩ := h2 i p (startE_get e) hi
    exact ⟨.ref a, start_of e1, r.mono Keep.refl less fun _ _ => rfl⟩
  · have e1 := start_get e
    have hl := (List.getElem?_eq_some_iff.mp e1).1
    exact q (ps[i]'(by omega)) (startE_of (List.getElem?_eq_getElem _))
  · unfold startE L2.start
    simp [hv, hp]
theorem fnN {P : Program} {w : World} {K : PySem.W.Frag} {mg : Str → Option Value} {T : Tt} {base : Heap} {x qual : Str} {params : Arguments} {body : List Stmt} {scope : Scope} {f : Addr} {fd : FuncData} {N ps : List Str} {k n : Nat} {io oz : List Nat} {ms : Ms}
    (Fd : FunD K x qual params body scope [] [] f fd) (sc : FnScope N ps scope)
    (hb : ∀ (G : Addr → Prop) (cdv : Value) (A : Around) (outer : List Env) (s : Shared) (H : Hp) (E : XK), Room k (A.deeper (PyProof.Rows.envOfC qual scope s.heap.objs.size f cdv)) → PSs (cxOf CX0 P w K mg base N qual scope f cdv A outer s H E).nox body (rdS ⟨⟨K, mg, T⟩, G, io, fun _ _ _ _ => False⟩ io oz [] ms))
    (hn : ps.length = n := by rfl) (hN : n ≤ N.length := by decide) (hoz : ∀ i ∈ io, i ∈ oz := by decide) : FnOk P w K mg base CX0 (k + 1) f fd ps (spM ⟨K, mg, T⟩ n io (runN N.length ms)) := by
  refine Fd.ok sc (fun vs H Q E h => ?_) (fun cdv A outer s H vs Q E hr h => ?_)
  · obtain ⟨O, ps', hv, _⟩ := h
    rw [hv, hn]
  · obtain ⟨O, pv, hv, hp, pre, htb, h1, h2, h3, h4⟩ := h
    refine ⟨_, PSs.nox (hb (fun a => O a ∧ ∀ k, k ∈ io → vs[k]? ≠ some (.ref a)) cdv A outer s H E hr), startE N.length pv, er_start hv hp hN pre htb h1 h2 h3, ?_⟩
    have ioO : ∀ a, O a → Gd (fun a => O a ∧ ∀ k, k ∈ io → vs[k]? ≠ some (.ref a)) io (L2.start N vs) a := fun a oa => by
      by_cases q : ∃ k, k ∈ io ∧ vs[k]? = some (.ref a)
      · obtain ⟨k, hk, e⟩ := q
        exact .inr ⟨k, hk, start_of e⟩
      · exact .inl ⟨oa, fun k hk e => q ⟨k, hk, e⟩⟩
    have nown : ∀ a, (¬ ∃ k, k ∈ io ∧ vs[k]? = some (.ref a)) → ¬ Own io (L2.start N vs) a := fun a q ⟨i, hi, e⟩ => q ⟨i, hi, start_get e⟩
    unfold runN at h4
    cases q : ms (startE N.length pv) with
    | nxt e =>
      simp only [q] at h4
      intro σ' H' ks st R
      refine h4 .non H' ⟨fun a o e1 n nt => (ks.kp a o e1 (nown a n) nt).1⟩ R.tb .non fun k p' hk he => ?_
      obtain ⟨v, e1, r⟩ := R.own k p' he (hoz k hk)
      refine ⟨v, start_get (by rw [← st k hk]; exact e1), r.mono Keep.refl (fun a _ oa => ?_) fun _ _ => rfl⟩
      rcases ioO a oa with g | ⟨i, hi, z⟩
      · exact .inl g
      · exact .inr ⟨i, hoz i hi, (st i hi).trans z⟩
    | ret p e =>
      simp only [q] at h4
      intro v H' kk tbs ioat rv
      refine h4 v H' ⟨fun a o e1 n nt => kk.kp a o e1 (nown a n) nt⟩ tbs (rv.mono Keep.refl fun a _ oa => ioO a oa) fun k p' hk he => ?_
      obtain ⟨v, e1, r⟩ := ioat k p' hk he
      exact ⟨v, start_get e1, r.mono Keep.refl (fun a _ oa => ioO a oa) fun _ _ => rfl⟩
    | brk e => simp only [q] at h4
    | cnt e => simp only [q] at h4
    | exc z e => simp only [q] at h4
    | bad => simp only [q] at h4
end M

namespace M
open PySem PySem.Spec PyProof.Rows L2

/-! ### defs that hand back a list of their own making -/
section
variable {X : Cx} {F : Fm} {ow ow' ow1 ow2 ob : List Nat} {σ σ1 σ2 : L2.St} {H H1 H2 : Hp}
abbrev KeepA (H H' : Hp) : Prop := Keep (fun _ => False) H H'
theorem Keep.of_all {O : Addr → Prop} (k : KeepA H H1) : Keep O H H1 := ⟨fun a o e _ nt => k.kp a o e id nt⟩
theorem ER.ext' {S : Se} {G : Addr → Prop} {e : En} (R : ER S G ow σ H e) {p : Addr} (hn : ¬ Hd H p) (k : KeepA H H1) (htb : ∀ p ∈ S.T.l, LamX.TabS H1 p.1 p.2) (hs : HdE H1 p) : ER S (fun z => G z ∨ z = p) ow σ H1 e := by
  have q : Less H (Gd G ow σ) (Gd (fun z => G z ∨ z = p) ow σ) := fun a h z => by
    rcases z with (z | z) | z
    · exact .inl z
    · subst z; exact absurd h hn
    · exact .inr z
  have same : ∀ a, Hd H a → H1 a = H a := fun a ⟨o, z, nt⟩ => by rw [z]; exact k.kp a o z id nt
  refine ⟨fun i p1 h1 h2 => ?_, fun i p1 h1 h2 => ?_, R.off, R.sep, fun i a hi h z => ?_, fun a g => ?_, htb, R.len⟩
  · obtain ⟨v, h3, h4⟩ := R.val i p1 h1 h2
    exact ⟨v, h3, h4.mono k.of_all q⟩
  · obtain ⟨v, h3, h4⟩ := R.own i p1 h1 h2
    refine ⟨v, h3, h4.mono k.of_all q fun a z => ?_⟩
    subst z
    obtain ⟨b, e3, e4⟩ := h4.ref
    cases e3
    exact same _ e4
  · rcases z with z | z
    · exact R.ng i a hi h z
    · subst z; exact hn (R.ownT ⟨i, hi, h⟩)
  · rcases g with g | g
    · obtain ⟨o, q1, q2⟩ := R.gt a g
      exact ⟨o, k.kp a o q1 id q2, q2⟩
    · subst g; exact hs
def spMF (S : Se) (n : Nat) (mf : List PV → Out PV) : Sp := fun vs H Q E => ∃ (O : Addr → Prop) (ps : List PV), vs.length = n ∧ ps.length = n ∧ Pre H O ∧ (∀ p ∈ S.T.l, LamX.TabS H p.1 p.2) ∧
  (∀ (k : Nat) (p : PV), ps[k]? = some p → ∃ v, vs[k]? = some v ∧ RV S H O v p) ∧
  match mf ps with
  | .ok p f => ∀ a H', ¬ Hd H a → KeepA H H' → LamX.Tabs S.T.l H' → At S H' (fun z => O z ∨ z = a) (.ref a) p → Q (.ref a) H'
  | _ => False
theorem own_nil {a : Addr} : ¬ Own [] σ a := fun ⟨i, hi, _⟩ => by cases hi
def rdSF (F : Fm) (m : Ms) : TS := fun D σ H => ∃ e, ER F.S F.G [] σ H e ∧ match m e with
  | .ret p e1 => ∀ a H', ¬ Hd H a → KeepA H H' → LamX.Tabs F.S.T.l H' → At F.S H' (fun z => F.G z ∨ z = a) (.ref a) p → D.rt (.ref a) H'
  | _ => False
def mSeqN (a b : Ms) : Ms := fun e => match a e with
  | .nxt e1 => b e1
  | _ => .bad
theorem pmsF_cons {st : Stmt} {rest : List Stmt} {a b : Ms} (h1 : PS X st (rdS F [] [] [] a)) (h2 : PSs X rest (rdSF F b)) : PSs X (st :: rest) (rdSF F (mSeqN a b)) :=
  (pss_cons h1 h2).imp fun D σ H ⟨e, R, p⟩ => by
    refine ⟨e, R, ?_⟩
    unfold mSeqN at p
    cases q : a e with
    | nxt e1 =>
      simp only [q] at p
      refine fun σ1 H1 k st R1 => ⟨e1, R1, ?_⟩
      cases q2 : b e1 with
      | ret p2 e2 =>
        simp only [q2] at p
        intro z H' hn k2 tbs ra
        exact p z H' (fun ⟨o, q3, nt⟩ => hn ⟨o, (k.kp z o q3 own_nil nt).1, nt⟩) ⟨fun y o e3 _ nt => k2.kp y o (k.kp y o e3 own_nil nt).1 id nt⟩ tbs ra
      | _ => simp only [q2] at p
    | _ => simp only [q] at p
theorem pmsF_ret {a : Expr} {m : Mo PV} {pos : Pos} (ha : PE X a (rdF F [] m)) : PSs X [.Return (some a) pos] (rdSF F (mRet m)) :=
  (pss_one (ps_ret ha)).imp fun D σ H ⟨e, R, p⟩ => by
    refine ⟨e, R, ?_⟩
    unfold mRet SOut.of at p
    cases q : m e with
    | ok pv e1 =>
      simp only [q] at p
      exact fun z H' hn k R1 ra => p z H' hn ⟨fun y o e3 _ nt => k.kp y o e3 own_nil nt⟩ R1.tb (ra.mono Keep.refl (fun y _ g => .inl g) fun _ _ => rfl)
    | _ => simp only [q] at p
structure DnF (P : Program) (w : World) (K : PySem.W.Frag) (mg : Str → Option Value) (T : Tt) (base : Heap) (x : Str) (k n : Nat) (mf : List PV → Out PV) : Prop where
  ex : ∃ f fd ps, FnOk P w K mg base CX0 k f fd ps (spMF ⟨K, mg, T⟩ n mf) ∧ mg x = some (.ref f) ∧ PySem.W.keepIn K (.ref f) = true ∧ Binds K fd ps []
def mDefF (n : Nat) (mf : List PV → Out PV) (ml : Mo (List PV)) : Mo PV := fun e => (ml e).bind fun l e1 => if l.length = n then (match mf l with | .ok p _ => .ok p e1 | _ => .bad) else .bad
theorem pm_defF {x : Str} {k n : Nat} {mf : List PV → Out PV} {ml : Mo (List PV)} {p pos : Pos} {a : Expr} {es : List Expr} (D : DnF X.prog X.w X.K X.mg F.S.T X.base x k n mf)
    (hr : Room k X.A) (hg : Gl X x) (ha : PA X (a :: es) (rdA F ow ml)) (hS : F.S = ⟨X.K, X.mg, F.S.T⟩ := by rfl) (hd : (x == ("__debug__" : Str)) = false := by decide) (hs : starEach (a :: es) X.env = (false, eval a X.env) :: starEach es X.env := by rfl)
    (hs2 : ((backTo pos (starEach es X.env)).any fun x => x.1) = false := by rfl) : PE X (.Call (.Name x p) (a :: es) [] pos) (rdF F ow (mDefF n mf ml)) := by
  obtain ⟨f, fd, ps, G, hm, hk, hb⟩ := D.ex
  refine (pe_call G hr hg hm hk hb .nil pass0 ha hd hs hs2).imp fun σ H Q ⟨e, R, p⟩ => ⟨e, R, ?_⟩
  unfold mDefF at p
  cases q : ml e with
  | bad => simp only [q, Out.bind] at p
  | exc x e1 => simp only [q, Out.bind] at p; exact p
  | ok l e1 =>
    simp only [q, Out.bind] at p
    intro H1 k1 R1 vs rs
    show spMF _ n mf (vs ++ []) H1 Q E0
    rw [List.append_nil, ← hS]
    by_cases hl : l.length = n
    · rw [if_pos hl] at p
      refine ⟨Gd F.G ow σ, l, by rw [rs.length, hl], hl, R1.tracked, R1.tb, fun k p q => rs.get q, ?_⟩
      cases hm : mf l with
      | ok pv f =>
        simp only [hm] at p ⊢
        intro z H' hn kk tbs ra
        have hz : HdE H' z := by
          obtain ⟨b, e3, e4⟩ := ra.ref
          cases e3
          exact e4
        have less : Less H' (fun y => Gd F.G ow σ y ∨ y = z) (Gd (F.ext z).G ow σ) := fun y _ g => by
          rcases g with (g | g) | g
          · exact .inl (.inl g)
          · exact .inr g
          · exact .inl (.inr g)
        exact p z H' (fresh_of R k1 R1 hn) (k1.trans kk.of_all) (R1.ext' hn kk tbs hz) (ra.mono Keep.refl less fun _ _ => rfl)
      | exc x f => simp only [hm] at p
      | bad => simp only [hm] at p
    · rw [if_neg hl] at p; exact p.elim
end
def runF (L : Nat) (ms : Ms) (ps : List PV) : Out PV := match ms (startE L ps) with
  | .ret p e => .ok p e
  | _ => .bad
theorem fnF {P : Program} {w : World} {K : PySem.W.Frag} {mg : Str → Option Value} {T : Tt} {base : Heap} {x qual : Str} {params : Arguments} {body : List Stmt} {scope : Scope} {f : Addr} {fd : FuncData} {N ps : List Str} {k n : Nat} {ms : Ms}
    (Fd : FunD K x qual params body scope [] [] f fd) (sc : FnScope N ps scope)
    (hb : ∀ (G : Addr → Prop) (cdv : Value) (A : Around) (outer : List Env) (s : Shared) (H : Hp) (E : XK), Room k (A.deeper (PyProof.Rows.envOfC qual scope s.heap.objs.size f cdv)) → PSs (cxOf CX0 P w K mg base N qual scope f cdv A outer s H E).nox body (rdSF ⟨⟨K, mg, T⟩, G, [], fun _ _ _ _ => False⟩ ms))
    (hn : ps.length = n := by rfl) (hN : n ≤ N.length := by decide) : FnOk P w K mg base CX0 (k + 1) f fd ps (spMF ⟨K, mg, T⟩ n (runF N.length ms)) := by
  refine Fd.ok sc (fun vs H Q E h => ?_) (fun cdv A outer s H vs Q E hr h => ?_)
  · obtain ⟨O, ps', hv, _⟩ := h
    rw [hv, hn]
  · obtain ⟨O, pv, hv, hp, pre, htb, h1, h4⟩ := h
    have eO : (fun a => O a ∧ ∀ k, k ∈ ([] : List Nat) → vs[k]? ≠ some (.ref a)) = O := funext fun a => propext ⟨fun h => h.1, fun h => ⟨h, fun k hk => by cases hk⟩⟩
    have R := er_start (io := []) (N := N) (S := ⟨K, mg, T⟩) hv hp hN pre htb (fun k p q _ => h1 k p q) (fun k p q hk => by cases hk) (fun k k' a hk => by cases hk)
    rw [eO] at R
    refine ⟨_, PSs.nox (hb O cdv A outer s H E hr), startE N.length pv, R, ?_⟩
    unfold runF at h4
    cases q : ms (startE N.length pv) with
    | ret p e => simp only [q] at h4; exact h4
    | _ => simp only [q] at h4
/-- room for a comparison of data -/
theorem room64 {k : Nat} {A : Around} (r : Room k A) : A.units + 64 < cLine := r.units
theorem room65 {k : Nat} {A : Around} (r : Room k A) : A.units + 65 < cLine := by have := r.un; omega
end M

namespace M
open PySem PySem.Spec PyProof.Rows L2
section
variable {X : Cx} {F : Fm} {ow ow' ow1 ow2 ob : List Nat}
theorem pm_glE {x : Str} {i : Int} {pos : Pos} (hg : Gl X x) (hm : ∃ t, X.mg x = some (.int i t)) (hd : (x == ("__debug__" : Str)) = false := by decide) : PE X (.Name x pos) (rd F ow (mC (.int i))) :=
  let ⟨_, h⟩ := hm
  pm_glI hg h hd
def CPowB (i j : Int) : Prop := 0 ≤ j ∧ (Builtin.Int.intBits i : Int) * j ≤ 2 ^ 27
instance : DecidableRel CPowB := fun _ _ => by unfold CPowB; infer_instance
theorem op_powB : OpR X (binaryOp .Pow) (rI CPowB fun i j => .int (i ^ j.toNat)) := opI fun _ _ _ _ _ _ _ hc q => pow_int hc.1 hc.2 q
abbrev pPow : PV → PV → Option PV := pIc CPowB fun i j => i ^ j.toNat
theorem bin_powB : BinOk X F (binaryOp .Pow) pPow := bin_intsC op_powB
def mTIf (t a b : Mo Bool) : Mo Bool := fun e => (t e).bind fun k e1 => if k = true then a e1 else b e1
end
/-! ### t[::-1] -/
section
open PySem.SeqAt
open PySem.AutoSeq1 (wpAny_loadPart')
open PySem.MeetsSeq PySem.MeetsSeq2 PySem.MeetsSeq3
variable {prog : Program} {w : World} {A : Around} {E : Value → Shared → Prop} {s : Shared}
end
section
variable {X : Cx} {F : Fm} {ow ow' ow1 ow2 ob : List Nat}
def pRev : PV → Option PV
  | .tup l => some (.tup l.reverse)
  | .lst l => some (.lst l.reverse)
  | .fz l => some (.lst l.reverse)
  | _ => none
def mRev (m : Mo PV) : Mo PV := fun e => (m e).bind fun p e1 => lift (pRev p) e1
end
end M

namespace M
open PySem PySem.Spec PyProof.Rows L2
/-! ### evaluation of mirrors -/
section
variable {α β : Type} {e e1 : En}
@[simp] theorem bind_ok {a : α} {f : α → En → Out β} : (Out.ok a e).bind f = f a e := (rfl)
@[simp] theorem bind_bad {f : α → En → Out β} : (Out.bad (α := α)).bind f = .bad := (rfl)
@[simp] theorem lift_some {a : α} : lift (some a) e = .ok a e := (rfl)
@[simp] theorem lift_none : lift (none : Option α) e = .bad := (rfl)
@[simp] theorem of_ok {a : α} {f : α → En → SOut} : SOut.of (.ok a e) f = f a e := (rfl)
@[simp] theorem of_bad {f : α → En → SOut} : SOut.of (.bad : Out α) f = .bad := (rfl)
def SOut.seq (o : SOut) (b : Ms) : SOut := match o with
  | .nxt e1 => b e1
  | o => o
@[simp] theorem seq_nxt {b : Ms} : (SOut.nxt e).seq b = b e := (rfl)
@[simp] theorem seq_ret {b : Ms} {p : PV} : (SOut.ret p e).seq b = .ret p e := (rfl)
@[simp] theorem seq_brk {b : Ms} : (SOut.brk e).seq b = .brk e := (rfl)
@[simp] theorem seq_cnt {b : Ms} : (SOut.cnt e).seq b = .cnt e := (rfl)
@[simp] theorem seq_bad {b : Ms} : SOut.bad.seq b = .bad := (rfl)
@[simp] theorem mSeq_ap {a b : Ms} : mSeq a b e = (a e).seq b := (rfl)
def getE (o : Option (Option PV)) (f : PV → Out α) : Out α := match o with
  | some (some p) => f p
  | _ => .bad
@[simp] theorem getE_some {p : PV} {f : PV → Out α} : getE (some (some p)) f = f p := (rfl)
@[simp] theorem getE_none {f : PV → Out α} : getE (some none) f = .bad := (rfl)
@[simp] theorem mVar_ap {i : Nat} : mVar i e = getE e[i]? fun p => .ok p e := by
  unfold mVar getE; exact (rfl)
@[simp] theorem mC_ap {p : PV} : mC p e = .ok p e := (rfl)
@[simp] theorem mBin_ap {g : PV → PV → Option PV} {ma mb : Mo PV} : mBin g ma mb e = (ma e).bind fun a e1 => (mb e1).bind fun b e2 => lift (g a b) e2 := (rfl)
@[simp] theorem mTB_ap {m : Mo PV} : mTB m e = (m e).bind fun p e1 => lift (isB p) e1 := (rfl)
@[simp] theorem mTr_ap {m : Mo PV} : mTr m e = (m e).bind fun p e1 => lift (truth p) e1 := (rfl)
@[simp] theorem mAnd_ap {a b : Mo Bool} : mAnd a b e = (a e).bind fun k e1 => if k = true then b e1 else .ok false e1 := (rfl)
@[simp] theorem mOr_ap {a b : Mo Bool} : mOr a b e = (a e).bind fun k e1 => if k = true then .ok true e1 else b e1 := (rfl)
@[simp] theorem mNot_ap {a : Mo Bool} : mNot a e = (a e).bind fun k e1 => .ok (!k) e1 := (rfl)
@[simp] theorem mAndV_ap {a b : Mo PV} : mAndV a b e = (a e).bind fun p e1 => (lift (truth p) e1).bind fun k e2 => if k = true then b e2 else .ok p e2 := (rfl)
@[simp] theorem mOrV_ap {a b : Mo PV} : mOrV a b e = (a e).bind fun p e1 => (lift (truth p) e1).bind fun k e2 => if k = true then .ok p e2 else b e2 := (rfl)
@[simp] theorem mNotV_ap {a : Mo PV} : mNotV a e = (a e).bind fun p e1 => (lift (truth p) e1).bind fun k e2 => .ok (.bl (!k)) e2 := (rfl)
@[simp] theorem mIf_ap {t : Mo Bool} {a b : Mo PV} : mIf t a b e = (t e).bind fun k e1 => if k = true then a e1 else b e1 := (rfl)
@[simp] theorem mTIf_ap {t a b : Mo Bool} : mTIf t a b e = (t e).bind fun k e1 => if k = true then a e1 else b e1 := (rfl)
@[simp] theorem mChain_ap {g g' : PV → PV → Option PV} {ma mb mc : Mo PV} : mChain g g' ma mb mc e = (ma e).bind fun a e1 => (mb e1).bind fun b e2 => (lift ((g a b).bind isB) e2).bind fun k e3 => if k = true then (mc e3).bind fun c e4 => lift (g' b c) e4 else .ok (.bl false) e3 := (rfl)
@[simp] theorem mNil_ap : mNil e = .ok [] e := (rfl)
@[simp] theorem mCons_ap {m : Mo PV} {ml : Mo (List PV)} : mCons m ml e = (m e).bind fun p e1 => (ml e1).bind fun l e2 => .ok (p :: l) e2 := (rfl)
@[simp] theorem mTup_ap {ml : Mo (List PV)} : mTup ml e = (ml e).bind fun l e1 => lift (if l.length ≤ 1000 then some (.tup l) else none) e1 := (rfl)
@[simp] theorem mLst_ap {ml : Mo (List PV)} : mLst ml e = (ml e).bind fun l e1 => lift (if l.length ≤ 1000 then some (.lst l) else none) e1 := (rfl)
def negP : PV → Option PV
  | .int i => some (.int (-i))
  | _ => none
@[simp] theorem negP_int {i : Int} : negP (.int i) = some (.int (-i)) := (rfl)
@[simp] theorem mNeg_ap {m : Mo PV} : mNeg m e = (m e).bind fun p e1 => lift (negP p) e1 := by
  unfold mNeg negP; exact (rfl)
@[simp] theorem mNo_ap : mNo e = .ok none e := (rfl)
def partP : PV → Option (Option Int)
  | .int i => some (some i)
  | _ => none
@[simp] theorem partP_int {i : Int} : partP (.int i) = some (some i) := (rfl)
@[simp] theorem mPart_ap {m : Mo PV} : mPart m e = (m e).bind fun p e1 => lift (partP p) e1 := by
  unfold mPart partP; exact (rfl)
@[simp] theorem mSl_ap {m : Mo PV} {ml mh : Mo (Option Int)} : mSl m ml mh e = (m e).bind fun p e1 => (ml e1).bind fun lo e2 => (mh e2).bind fun hi e3 => lift (pSl p lo hi) e3 := (rfl)
@[simp] theorem mCall_ap {g : List PV → Option PV} {ml : Mo (List PV)} : mCall g ml e = (ml e).bind fun l e1 => lift (g l) e1 := (rfl)
@[simp] theorem mCallO_ap {g : List PV → Option PV} {i : Nat} : mCallO g i e = getE e[i]? fun p => lift (g [p]) e := by
  unfold mCallO getE; exact (rfl)
@[simp] theorem mTrO_ap {i : Nat} : mTrO i e = getE e[i]? fun p => lift (truth p) e := by
  unfold mTrO getE; exact (rfl)
def ixO (p b : PV) (e : En) : Out PV := match p with
  | .lst l => match b with
    | .int j => lift (atI l j) e
    | _ => .bad
  | _ => .bad
@[simp] theorem ixO_int {l : List PV} {j : Int} : ixO (.lst l) (.int j) e = lift (atI l j) e := (rfl)
@[simp] theorem mIxO_ap {i : Nat} {mb : Mo PV} : mIxO i mb e = getE e[i]? fun _ => (mb e).bind fun b e1 => getE e1[i]? fun p => ixO p b e1 := by
  unfold mIxO getE
  split <;> rename_i h <;> simp only [h]
  congr 1
  funext b e1
  split <;> rename_i h2
  · simp only [h2]; cases b <;> rfl
  · split
    · rename_i p h3
      cases p with
      | lst l => exact absurd h3 (h2 l)
      | _ => rfl
    · rfl
def appO (p q : PV) (i : Nat) (e : En) : Out PV := match p with
  | .lst l => if l.length < sizeLine then .ok .non (e.set i (some (.lst (l ++ [q])))) else .bad
  | _ => .bad
@[simp] theorem appO_lst {l : List PV} {q : PV} {i : Nat} : appO (.lst l) q i e = if l.length < sizeLine then .ok .non (e.set i (some (.lst (l ++ [q])))) else .bad := (rfl)
def isLst (p : PV) (k : Out PV) : Out PV := match p with
  | .lst _ => k
  | _ => .bad
@[simp] theorem isLst_lst {l : List PV} {k : Out PV} : isLst (.lst l) k = k := (rfl)
@[simp] theorem mApp_ap {i : Nat} {m : Mo PV} : mApp i m e = getE e[i]? fun p0 => isLst p0 ((m e).bind fun p e1 => getE e1[i]? fun q => appO q p i e1) := by
  unfold mApp getE
  split <;> rename_i h
  · simp only [h]
    show _ = (m e).bind _
    congr 1
    funext b e1
    split <;> rename_i h2
    · simp only [h2]; rfl
    · split
      · rename_i p h3
        cases p with
        | lst l => exact absurd h3 (h2 l)
        | _ => rfl
      · rfl
  · split
    · rename_i p h3
      cases p with
      | lst l => exact absurd h3 (h l)
      | _ => rfl
    · rfl
@[simp] theorem mNext_ap : mNext e = .nxt e := (rfl)
@[simp] theorem mBrk_ap : mBrk e = .brk e := (rfl)
@[simp] theorem mCnt_ap : mCnt e = .cnt e := (rfl)
@[simp] theorem mBad_ap : mBad e = .bad := (rfl)
@[simp] theorem mExpr_ap {m : Mo PV} : mExpr m e = SOut.of (m e) fun _ e1 => .nxt e1 := (rfl)
@[simp] theorem mRet_ap {m : Mo PV} : mRet m e = SOut.of (m e) fun p e1 => .ret p e1 := (rfl)
@[simp] theorem mRetN_ap : mRetN e = .ret .non e := (rfl)
def getS (o : Option (Option PV)) (f : PV → SOut) : SOut := match o with
  | some (some p) => f p
  | _ => .bad
@[simp] theorem getS_some {p : PV} {f : PV → SOut} : getS (some (some p)) f = f p := (rfl)
@[simp] theorem mRetO_ap {i : Nat} : mRetO i e = getS e[i]? fun p => .ret p e := by
  unfold mRetO getS; exact (rfl)
@[simp] theorem mSet_ap {i : Nat} {m : Mo PV} : mSet i m e = SOut.of (m e) fun p e1 => .nxt (e1.set i (some p)) := (rfl)
@[simp] theorem mSetO_ap {i : Nat} {m : Mo PV} : mSetO i m e = SOut.of (m e) fun p e1 => if i < e1.length then .nxt (e1.set i (some p)) else .bad := (rfl)
@[simp] theorem mAug_ap {g : PV → PV → Option PV} {i : Nat} {m : Mo PV} : mAug g i m e = getS e[i]? fun p => SOut.of ((m e).bind fun q e1 => lift (g p q) e1) fun r e2 => .nxt (e2.set i (some r)) := by
  unfold mAug getS; exact (rfl)
@[simp] theorem mIfS_ap {t : Mo Bool} {a b : Ms} : mIfS t a b e = SOut.of (t e) fun k e1 => if k = true then a e1 else b e1 := (rfl)
def unpO (is : List Nat) (p : PV) (e : En) : SOut := match p with
  | .tup l => match setAll is l e with
    | some e2 => .nxt e2
    | none => .bad
  | _ => .bad
def nxtO (o : Option En) : SOut := match o with
  | some e => .nxt e
  | none => .bad
@[simp] theorem nxtO_some : nxtO (some e) = .nxt e := (rfl)
@[simp] theorem nxtO_none : nxtO none = .bad := (rfl)
@[simp] theorem unpO_tup {is : List Nat} {l : List PV} : unpO is (.tup l) e = nxtO (setAll is l e) := by
  unfold unpO nxtO; exact (rfl)
@[simp] theorem mUnp_ap {is : List Nat} {m : Mo PV} : mUnp is m e = SOut.of (m e) fun p e1 => unpO is p e1 := by
  unfold mUnp unpO; exact (rfl)
@[simp] theorem setAll_nil : setAll [] [] e = some e := (rfl)
@[simp] theorem setAll_cons {i : Nat} {is : List Nat} {p : PV} {ps : List PV} : setAll (i :: is) (p :: ps) e = setAll is ps (e.set i (some p)) := (rfl)
@[simp] theorem mPar_ap {is : List Nat} {ml : Mo (List PV)} : mPar is ml e = SOut.of (ml e) fun l e1 => if ∀ i ∈ is, i < e1.length then nxtO (setAll is l e1) else .bad := by
  unfold mPar nxtO; exact (rfl)
def setIxO (q p j : PV) (i : Nat) (e : En) : SOut := match q with
  | .lst l => match j with
    | .int j => match ixN l.length j with
      | some n => .nxt (e.set i (some (.lst (l.set n p))))
      | none => .bad
    | _ => .bad
  | _ => .bad
def setN (o : Option Nat) (f : Nat → SOut) : SOut := match o with
  | some n => f n
  | none => .bad
@[simp] theorem setN_some {n : Nat} {f : Nat → SOut} : setN (some n) f = f n := (rfl)
@[simp] theorem setIxO_int {l : List PV} {p : PV} {j : Int} {i : Nat} : setIxO (.lst l) p (.int j) i e = setN (ixN l.length j) fun n => .nxt (e.set i (some (.lst (l.set n p)))) := by
  simp only [setIxO]; unfold setN; rfl
@[simp] theorem mSetIx_ap {i : Nat} {mj me : Mo PV} : mSetIx i mj me e = SOut.of (me e) fun p e1 => getS e1[i]? fun q => match q with
    | .lst _ => SOut.of (mj e1) fun j e2 => getS e2[i]? fun q => setIxO q p j i e2
    | _ => .bad := by
  unfold mSetIx
  congr 1
  funext p e1
  unfold getS
  split <;> rename_i h2
  · simp only [h2]
    congr 1
    funext j e2
    split <;> rename_i h3
    · simp only [h3]; cases j <;> rfl
    · split
      · rename_i p h4
        cases p with
        | lst l => exact absurd h4 (h3 l)
        | _ => rfl
      · rfl
  · split
    · rename_i p h3
      cases p with
      | lst l => exact absurd h3 (h2 l)
      | _ => rfl
    · rfl
@[simp] theorem mIt_ap {m : Mo PV} : mIt m e = (m e).bind fun p e1 => lift (itemsOf p) e1 := (rfl)
@[simp] theorem mItA_ap {g : List PV → Option (List PV)} {m : Mo (List PV)} : mItA g m e = (m e).bind fun l e1 => lift (g l) e1 := (rfl)
@[simp] theorem mFor_ap {mi : Mo (List PV)} {f : PV → En → Option En} {b : Ms} : mFor mi f b e = SOut.of (mi e) fun l e1 => loopM f b l e1 := (rfl)
@[simp] theorem mLc_ap {own : List Nat} {f : PV → En → Option En} {mt : Mo Bool} {me : Mo PV} {mi : Mo (List PV)} : mLc own f mt me mi e = (mi e).bind fun l e1 => lcLoop own f mt me l [] e1 := (rfl)
@[simp] theorem mYes_ap : mYes e = .ok true e := (rfl)
def SOut.seqN (o : SOut) (b : Ms) : SOut := match o with
  | .nxt e1 => b e1
  | _ => .bad
@[simp] theorem seqN_nxt {b : Ms} : (SOut.nxt e).seqN b = b e := (rfl)
@[simp] theorem mSeqN_ap {a b : Ms} : mSeqN a b e = (a e).seqN b := (rfl)
@[simp] theorem tN_ap {i : Nat} {p : PV} : tN i p e = some (e.set i (some p)) := (rfl)
@[simp] theorem tT_ap {is : List Nat} {l : List PV} : tT is (.tup l) e = setAll is l e := (rfl)
end
/-! ### own defs, as functions of values -/
class NoEx (mf : List PV → Out PV) : Prop where
  no : ∀ ps x f, mf ps ≠ .exc x f
theorem runN_noex (L : Nat) (ms : Ms) : NoEx (runN L ms) := ⟨fun ps x f h => by
  unfold runN at h
  split at h <;> cases h⟩
def outV (mf : List PV → Out PV) (ps : List PV) : Option PV := match mf ps with
  | .ok p _ => some p
  | _ => none
def out0 (mf : List PV → Out PV) (ps : List PV) : Option (PV × PV) := match mf ps with
  | .ok p f => match f[0]? with
    | some (some c) => some (p, c)
    | _ => none
  | _ => none
def putI (o : Option (PV × PV)) (i : Nat) (e : En) : Out PV := match o with
  | some (p, c) => .ok p (e.set i (some c))
  | none => .bad
@[simp] theorem putI_some {p c : PV} {i : Nat} {e : En} : putI (some (p, c)) i e = .ok p (e.set i (some c)) := (rfl)
@[simp] theorem mrNil_ap {e : En} : mrNil e = .ok [] e := (rfl)
@[simp] theorem mrV_ap {m : Mo PV} {ml : Mo (List Ar)} {e : En} : mrV m ml e = (m e).bind fun p e1 => (ml e1).bind fun l e2 => .ok (.v p :: l) e2 := (rfl)
@[simp] theorem mrO_ap {i : Nat} {ml : Mo (List Ar)} {e : En} : mrO i ml e = getE e[i]? fun _ => (ml e).bind fun l e2 => .ok (.o i :: l) e2 := by
  unfold mrO getE; exact (rfl)
/-- values alone -/
def valsOf : List Ar → Option (List PV)
  | [] => some []
  | .v p :: l => (valsOf l).map fun r => p :: r
  | .o _ :: _ => none
@[simp] theorem valsOf_nil : valsOf [] = some [] := (rfl)
@[simp] theorem valsOf_v {p : PV} {l : List Ar} : valsOf (.v p :: l) = (valsOf l).map fun r => p :: r := (rfl)
theorem vals_args {l : List Ar} {ps : List PV} {e : En} (h : valsOf l = some ps) : argsOf e l = some ps ∧ slots l = [] ∧ (∀ k, isO l k = false) ∧ ∀ f k, putO f k l e = some e := by
  induction l generalizing ps with
  | nil => cases h; exact ⟨rfl, rfl, fun k => rfl, fun f k => rfl⟩
  | cons a l ih =>
    cases a with
    | o i => cases h
    | v p =>
      rw [valsOf_v] at h
      cases h1 : valsOf l with
      | none => rw [h1] at h; cases h
      | some r =>
        rw [h1] at h; cases h
        obtain ⟨a, b, c, d⟩ := ih h1
        refine ⟨by simp only [argsOf, a]; rfl, by simpa [slots] using b, fun k => ?_, fun f k => d f (k + 1)⟩
        cases k with
        | zero => rfl
        | succ k => exact c k
def dcall (n : Nat) (mf : List PV → Out PV) (l : List Ar) (e : En) : Out PV := match valsOf l with
  | some ps => if ps.length = n then lift (outV mf ps) e else .bad
  | none => .bad
theorem vals_len {l : List Ar} {ps : List PV} (h : valsOf l = some ps) : ps.length = l.length := by
  induction l generalizing ps with
  | nil => cases h; rfl
  | cons a l ih =>
    cases a with
    | o i => cases h
    | v p =>
      rw [valsOf_v] at h
      cases h1 : valsOf l with
      | none => rw [h1] at h; cases h
      | some r => rw [h1] at h; cases h; simp [ih h1]
theorem vals_isO {l : List Ar} (h : valsOf l = none) : ∃ k, k < l.length ∧ isO l k = true := by
  induction l with
  | nil => cases h
  | cons a l ih =>
    cases a with
    | o i => exact ⟨0, by simp, rfl⟩
    | v p =>
      rw [valsOf_v] at h
      cases h1 : valsOf l with
      | some r => rw [h1] at h; cases h
      | none =>
        obtain ⟨k, a, b⟩ := ih h1
        exact ⟨k + 1, by simpa using a, b⟩
@[simp] theorem mDef_ap {n : Nat} {mf : List PV → Out PV} [N : NoEx mf] {ml : Mo (List Ar)} {e : En} : mDef n [] mf ml e = (ml e).bind fun l e1 => dcall n mf l e1 := by
  unfold mDef
  congr 1
  funext l e1
  unfold dcall
  cases h : valsOf l with
  | none =>
    obtain ⟨k, a, b⟩ := vals_isO h
    rw [if_neg]
    rintro ⟨h1, h2, _⟩
    have := (h2 k (by omega)).2 b
    cases this
  | some ps =>
    obtain ⟨a, b, c, d⟩ := vals_args (e := e1) h
    have hl := vals_len h
    by_cases q : l.length = n
    · rw [if_pos ⟨q, fun k _ => by simp [c k], by rw [b]; exact List.nodup_nil⟩]
      simp only [a]
      rw [if_pos (hl.trans q)]
      unfold outV
      cases h2 : mf ps with
      | ok p f => simp only [d]; rfl
      | exc x f => exact absurd h2 (N.no _ _ _)
      | bad => rfl
    · rw [if_neg (fun z => q z.1)]
      dsimp only
      rw [if_neg (fun z => q (hl.symm.trans z))]
@[simp] theorem dcall0 {mf : List PV → Out PV} {e : En} : dcall 0 mf [] e = lift (outV mf []) e := (rfl)
@[simp] theorem dcall1 {mf : List PV → Out PV} {e : En} {a : PV} : dcall 1 mf [.v a] e = lift (outV mf [a]) e := (rfl)
@[simp] theorem dcall2 {mf : List PV → Out PV} {e : En} {a b : PV} : dcall 2 mf [.v a, .v b] e = lift (outV mf [a, b]) e := (rfl)
@[simp] theorem dcall3 {mf : List PV → Out PV} {e : En} {a b c : PV} : dcall 3 mf [.v a, .v b, .v c] e = lift (outV mf [a, b, c]) e := (rfl)
@[simp] theorem dcall4 {mf : List PV → Out PV} {e : En} {a b c d : PV} : dcall 4 mf [.v a, .v b, .v c, .v d] e = lift (outV mf [a, b, c, d]) e := (rfl)
/-- the first argument a cell that changes -/
def dcallO (n : Nat) (mf : List PV → Out PV) (l : List Ar) (e : En) : Out PV := match l with
  | .o i :: l => match valsOf l with
    | some ps => getE e[i]? fun c => if ps.length + 1 = n then putI (out0 mf (c :: ps)) i e else .bad
    | none => .bad
  | _ => .bad
@[simp] theorem mDefO_ap {n : Nat} {mf : List PV → Out PV} [N : NoEx mf] {i : Nat} {ml : Mo (List Ar)} {e : En} : mDef (n + 1) [0] mf (mrO i ml) e = (mrO i ml e).bind fun l e1 => dcallO (n + 1) mf l e1 := by
  unfold mDef
  unfold mrO
  split <;> rename_i h
  case h_2 => rfl
  cases hm : ml e with
  | bad => rfl
  | exc x e1 => rfl
  | ok l e1 =>
    simp only [bind_ok]
    unfold dcallO
    simp only
    cases hv : valsOf l with
    | none =>
      obtain ⟨k, a, b⟩ := vals_isO hv
      rw [if_neg]
      rintro ⟨h1, h2, _⟩
      have hk : k + 1 < n + 1 := by simp at h1; omega
      have := (h2 (k + 1) hk).2 b
      simp at this
    | some ps =>
      obtain ⟨a, b, c, d⟩ := vals_args (e := e1) hv
      have hl := vals_len hv
      have iso : ∀ k, isO (Ar.o i :: l) k = true ↔ k = 0 := fun k => by
        cases k with
        | zero => simp [isO]
        | succ k => simp; exact c k
      have sl : slots (Ar.o i :: l) = [i] := by
        have : slots (Ar.o i :: l) = i :: slots l := rfl
        rw [this, b]
      by_cases q : (Ar.o i :: l).length = n + 1
      · rw [if_pos ⟨q, fun k _ => by rw [iso]; simp, by rw [sl]; simp⟩]
        unfold getE
        simp only [argsOf]
        cases he : e1[i]? with
        | none => rfl
        | some o =>
          cases o with
          | none => rfl
          | some p =>
            simp only [a, Option.map_some]
            rw [if_pos (by simp at q; omega)]
            unfold out0 putI
            cases h2 : mf (p :: ps) with
            | ok v f =>
              simp only [putO]
              cases hf : f[0]? with
              | none => rfl
              | some o =>
                cases o with
                | none => rfl
                | some c' =>
                  have := (vals_args (e := e1.set i (some c')) hv).2.2.2 f (0 + 1)
                  simp only [this]
            | exc x f => exact absurd h2 (N.no _ _ _)
            | bad => rfl
      · rw [if_neg (fun z => q z.1)]
        dsimp only
        have hz : ¬ ps.length + 1 = n + 1 := fun z => q (by simp; omega)
        cases e1[i]? with
        | none => rfl
        | some o =>
          cases o with
          | none => rfl
          | some p => simp only [getE_some]; rw [if_neg hz]
@[simp] theorem dcallO_1 {mf : List PV → Out PV} {e : En} {i : Nat} : dcallO 1 mf [.o i] e = getE e[i]? fun c => putI (out0 mf [c]) i e := (rfl)
@[simp] theorem dcallO_2 {mf : List PV → Out PV} {e : En} {i : Nat} {a : PV} : dcallO 2 mf [.o i, .v a] e = getE e[i]? fun c => putI (out0 mf [c, a]) i e := (rfl)
@[simp] theorem dcallO_3 {mf : List PV → Out PV} {e : En} {i : Nat} {a b : PV} : dcallO 3 mf [.o i, .v a, .v b] e = getE e[i]? fun c => putI (out0 mf [c, a, b]) i e := (rfl)
@[simp] theorem dcallO_4 {mf : List PV → Out PV} {e : En} {i : Nat} {a b d : PV} : dcallO 4 mf [.o i, .v a, .v b, .v d] e = getE e[i]? fun c => putI (out0 mf [c, a, b, d]) i e := (rfl)
@[simp] theorem mDefF_ap {n : Nat} {mf : List PV → Out PV} {ml : Mo (List PV)} {e : En} : mDefF n mf ml e = (ml e).bind fun l e1 => if l.length = n then lift (outV mf l) e1 else .bad := by
  unfold mDefF
  congr 1
  funext l e1
  split
  · unfold outV
    cases mf l <;> rfl
  · rfl
end M

namespace M
open PySem PySem.Spec PyProof.Rows L2
/-! ### equality of data, as equality of told values -/
def pl : Nat → PV → Bool
  | _, .non => true
  | _, .int _ => true
  | _, .str x => PyData.strOk x
  | n + 1, .tup l => l.all (pl n)
  | n + 1, .lst l => l.all (pl n)
  | _, _ => false
theorem toDs_of {n : Nat} (ih : ∀ p, pl n p = true → ∃ d, toD p = some d ∧ d.canLay0 = true ∧ d.depth ≤ n) : ∀ l : List PV, l.all (pl n) = true → ∃ ds, toDs l = some ds ∧ PyData.canLayAll0 ds = true ∧ PyData.depthAll ds ≤ n
  | [], _ => ⟨[], rfl, rfl, Nat.zero_le _⟩
  | p :: l, h => by
    simp only [List.all_cons, Bool.and_eq_true] at h
    obtain ⟨d, a, b, c⟩ := ih p h.1
    obtain ⟨ds, a2, b2, c2⟩ := toDs_of ih l h.2
    exact ⟨d :: ds, by simp [toDs, a, a2], by simp [PyData.canLayAll0, b, b2], by simp only [PyData.depthAll]; omega⟩
theorem toD_of : ∀ {n : Nat} (p : PV), pl n p = true → ∃ d, toD p = some d ∧ d.canLay0 = true ∧ d.depth ≤ n
  | n, .non, _ => ⟨.none, by simp [toD], by simp [PyData.canLay0], by simp [PyData.depth]⟩
  | n, .int i, _ => ⟨.int i, by simp [toD], by simp [PyData.canLay0], by simp [PyData.depth]⟩
  | n, .str x, h => ⟨.str x, by simp [toD], by simp only [PyData.canLay0]; cases n <;> exact h, by simp [PyData.depth]⟩
  | n + 1, .tup l, h => by
    obtain ⟨ds, a, b, c⟩ := toDs_of (n := n) (fun p hp => toD_of p hp) l h
    exact ⟨.tuple ds, by simp [toD, a], by simp [PyData.canLay0, b], by simp only [PyData.depth]; omega⟩
  | n + 1, .lst l, h => by
    obtain ⟨ds, a, b, c⟩ := toDs_of (n := n) (fun p hp => toD_of p hp) l h
    exact ⟨.list ds, by simp [toD, a], by simp [PyData.canLay0, b], by simp only [PyData.depth]; omega⟩
  | 0, .tup l, h => by cases h
  | 0, .lst l, h => by cases h
  | n, .bl _, h => by cases n <;> cases h
  | n, .ty _, h => by cases n <;> cases h
  | n, .gl _, h => by cases n <;> cases h
  | n, .fz _, h => by cases n <;> cases h
  | n, .dK _, h => by cases n <;> cases h
  | n, .fK _, h => by cases n <;> cases h
  | n, .dT _, h => by cases n <;> cases h
  | n, .fT _, h => by cases n <;> cases h
  | n, .clo _, h => by cases n <;> cases h
  | n, .ins _ _, h => by cases n <;> cases h
  | n, .exn _ _ _ _, h => by cases n <;> cases h
theorem eqvs_of {n m : Nat} (ih : ∀ p q d e, pl n p = true → pl m q = true → toD p = some d → toD q = some e → (d.eqv e = true ↔ p = q)) : ∀ (l k : List PV) (ds es : List PyData), l.all (pl n) = true → k.all (pl m) = true → toDs l = some ds → toDs k = some es → (PyData.eqvAll ds es = true ↔ l = k)
  | [], [], ds, es, _, _, h, h2 => by cases h; cases h2; simp [PyData.eqvAll]
  | [], q :: k, ds, es, _, hk, h, h2 => by
    cases h
    simp only [List.all_cons, Bool.and_eq_true] at hk
    obtain ⟨e, a, -, -⟩ := toD_of q hk.1
    obtain ⟨es', a2, -, -⟩ := toDs_of (n := m) (fun p hp => toD_of p hp) k hk.2
    simp only [toDs, a, a2] at h2
    cases h2
    simp [PyData.eqvAll]
  | p :: l, [], ds, es, hl, _, h, h2 => by
    cases h2
    simp only [List.all_cons, Bool.and_eq_true] at hl
    obtain ⟨e, a, -, -⟩ := toD_of p hl.1
    obtain ⟨es', a2, -, -⟩ := toDs_of (n := n) (fun p hp => toD_of p hp) l hl.2
    simp only [toDs, a, a2] at h
    cases h
    simp [PyData.eqvAll]
  | p :: l, q :: k, ds, es, hl, hk, h, h2 => by
    simp only [List.all_cons, Bool.and_eq_true] at hl hk
    obtain ⟨d, a, -, -⟩ := toD_of p hl.1
    obtain ⟨ds', a2, -, -⟩ := toDs_of (n := n) (fun p hp => toD_of p hp) l hl.2
    obtain ⟨e, b, -, -⟩ := toD_of q hk.1
    obtain ⟨es', b2, -, -⟩ := toDs_of (n := m) (fun p hp => toD_of p hp) k hk.2
    simp only [toDs, a, a2] at h
    simp only [toDs, b, b2] at h2
    cases h; cases h2
    simp only [PyData.eqvAll, Bool.and_eq_true]
    rw [ih p q d e hl.1 hk.1 a b, eqvs_of ih l k ds' es' hl.2 hk.2 a2 b2]
    simp
theorem eqv_of : ∀ {n m : Nat} (p q : PV) (d e : PyData), pl n p = true → pl m q = true → toD p = some d → toD q = some e → (d.eqv e = true ↔ p = q) := by
  intro n
  induction n with
  | zero =>
    intro m p q d e hp hq h1 h2
    cases p <;> (first | (cases hp; done) | skip) <;> cases q <;> (first | (cases m <;> cases hq; done) | skip) <;> simp only [toD, Option.some.injEq, Option.map_eq_some_iff] at h1 h2 <;>
      (try obtain ⟨_, _, rfl⟩ := h2) <;> (try subst h1) <;> (try subst h2) <;> simp [PyData.eqv]
  | succ n ih =>
    intro m p q d e hp hq h1 h2
    cases p <;> (first | (cases hp; done) | skip) <;> cases q <;> (first | (cases m <;> cases hq; done) | skip) <;> simp only [toD, Option.some.injEq, Option.map_eq_some_iff] at h1 h2 <;>
      (try obtain ⟨_, h3, rfl⟩ := h1) <;> (try obtain ⟨_, h4, rfl⟩ := h2) <;> (try subst h1) <;> (try subst h2) <;> simp only [PyData.eqv] <;> (try (simp; done))
    · cases m with
      | zero => cases hq
      | succ m => rw [eqvs_of (n := n) (m := m) (fun p q d e => ih p q d e) _ _ _ _ hp hq h3 h4]; simp
    · cases m with
      | zero => cases hq
      | succ m => rw [eqvs_of (n := n) (m := m) (fun p q d e => ih p q d e) _ _ _ _ hp hq h3 h4]; simp
theorem eqD_true {n : Nat} {p q : PV} (hp : pl n p = true) (h : p = q) (hn : n ≤ 64 := by decide) : eqD p q = some true := by
  subst h
  obtain ⟨d, a, b, c⟩ := toD_of p hp
  unfold eqD
  simp only [a, SeqAt.shaped, b, Bool.true_and]
  rw [if_pos (by simp; omega), (eqv_of p p d d hp hp a a).2 rfl]
theorem eqD_false {n : Nat} {p q : PV} (hp : pl n p = true) (hq : pl n q = true) (h : p ≠ q) (hn : n ≤ 64 := by decide) : eqD p q = some false := by
  obtain ⟨d, a, b, c⟩ := toD_of p hp
  obtain ⟨e, a2, b2, c2⟩ := toD_of q hq
  unfold eqD
  simp only [a, a2, SeqAt.shaped, b, b2, Bool.true_and]
  rw [if_pos (by simp; omega)]
  cases z : d.eqv e with
  | false => rfl
  | true => exact absurd ((eqv_of p q d e hp hq a a2).1 z) h
open Classical in
theorem eqD_dec {n : Nat} {p q : PV} (hp : pl n p = true) (hq : pl n q = true) (hn : n ≤ 64 := by decide) : eqD p q = some (decide (p = q)) := by
  by_cases h : p = q
  · rw [eqD_true hp h hn]; simp [h]
  · rw [eqD_false hp hq h hn]; simp [h]
@[simp] theorem eqD_int {i j : Int} : eqD (.int i) (.int j) = some (decide (i = j)) := by
  have := eqD_dec (n := 0) (p := .int i) (q := .int j) rfl rfl
  rw [this]; simp
@[simp] theorem eqD_intN {i : Int} : eqD (.int i) .non = some false := eqD_false (n := 0) rfl rfl (by simp)
@[simp] theorem eqD_Nint {i : Int} : eqD .non (.int i) = some false := eqD_false (n := 0) rfl rfl (by simp)
@[simp] theorem eqD_NN : eqD .non .non = some true := eqD_true (n := 0) rfl rfl
@[simp] theorem eqD_P2 {a b c d : Int} : eqD (.tup [.int a, .int b]) (.tup [.int c, .int d]) = some (decide (a = c ∧ b = d)) := by
  have := eqD_dec (n := 1) (p := .tup [.int a, .int b]) (q := .tup [.int c, .int d]) rfl rfl
  rw [this]; simp
@[simp] theorem pEq_eq {a b : PV} : pEq a b = (eqD a b).map .bl := (rfl)
@[simp] theorem pNe_eq {a b : PV} : pNe a b = (eqD a b).map fun k => .bl (!k) := (rfl)
@[simp] theorem pIn_eq {a b : PV} : pIn a b = (inD a b).map .bl := (rfl)
@[simp] theorem pNotIn_eq {a b : PV} : pNotIn a b = (inD a b).map fun k => .bl (!k) := (rfl)
@[simp] theorem isB_bl {b : Bool} : isB (.bl b) = some b := (rfl)
@[simp] theorem truth_non : truth .non = some false := (rfl)
@[simp] theorem truth_bl {b : Bool} : truth (.bl b) = some b := (rfl)
@[simp] theorem truth_int {i : Int} : truth (.int i) = some (i != 0) := (rfl)
@[simp] theorem truth_tup {l : List PV} : truth (.tup l) = some (!l.isEmpty) := (rfl)
@[simp] theorem truth_lst {l : List PV} : truth (.lst l) = some (!l.isEmpty) := (rfl)
@[simp] theorem truth_fz {l : List PV} : truth (.fz l) = some (!l.isEmpty) := (rfl)
@[simp] theorem pIx_tup {l : List PV} {i : Int} : pIx (.tup l) (.int i) = atI l i := (rfl)
@[simp] theorem pIx_lst {l : List PV} {i : Int} : pIx (.lst l) (.int i) = atI l i := (rfl)
@[simp] theorem pIx_fz {l : List PV} {i : Int} : pIx (.fz l) (.int i) = atI l i := (rfl)
@[simp] theorem itemsOf_tup {l : List PV} : itemsOf (.tup l) = some l := (rfl)
@[simp] theorem itemsOf_lst {l : List PV} : itemsOf (.lst l) = some l := (rfl)
@[simp] theorem itemsOf_fz {l : List PV} : itemsOf (.fz l) = some l := (rfl)
@[simp] theorem isNn_non : isNn .non = some true := (rfl)
@[simp] theorem isNn_bl {b : Bool} : isNn (.bl b) = some false := (rfl)
@[simp] theorem isNn_int {i : Int} : isNn (.int i) = some false := (rfl)
@[simp] theorem isNn_str {x : Str} : isNn (.str x) = some false := (rfl)
@[simp] theorem isNn_tup {l : List PV} : isNn (.tup l) = some false := (rfl)
@[simp] theorem isNn_lst {l : List PV} : isNn (.lst l) = some false := (rfl)
@[simp] theorem pIsN_non {a : PV} : pIsN a .non = (isNn a).map .bl := by cases a <;> exact (rfl)
@[simp] theorem pNotN_non {a : PV} : pNotN a .non = (isNn a).map fun k => .bl (!k) := by cases a <;> exact (rfl)
@[simp] theorem pIsB_bl {a b : Bool} : pIsB (.bl a) (.bl b) = some (.bl (decide (a = b))) := (rfl)
@[simp] theorem pIV_int {g : Int → Int → PV} {i j : Int} : pIV g (.int i) (.int j) = some (g i j) := (rfl)
@[simp] theorem pIc_int {C : Int → Int → Prop} [DecidableRel C] {g : Int → Int → Int} {i j : Int} : pIc C g (.int i) (.int j) = if C i j then some (.int (g i j)) else none := (rfl)
@[simp] theorem pAdd_int {i j : Int} : pAdd (.int i) (.int j) = some (.int (i + j)) := (rfl)
@[simp] theorem pAdd_lst {a b : List PV} : pAdd (.lst a) (.lst b) = if a.length + b.length ≤ sizeLine then some (.lst (a ++ b)) else none := (rfl)
@[simp] theorem pAdd_tup {a b : List PV} : pAdd (.tup a) (.tup b) = if a.length + b.length ≤ sizeLine then some (.tup (a ++ b)) else none := (rfl)
@[simp] theorem pMul_int {i j : Int} : pMul (.int i) (.int j) = if CMulW i j then some (.int (i * j)) else none := (rfl)
@[simp] theorem pMul_lst {a : List PV} {k : Int} : pMul (.lst a) (.int k) = if -2 ^ 63 ≤ k ∧ k < 2 ^ 63 ∧ a.length * k.toNat ≤ sizeLine then some (.lst (List.replicate k.toNat a).flatten) else none := (rfl)
@[simp] theorem pMul_tup {a : List PV} {k : Int} : pMul (.tup a) (.int k) = if a ≠ [] ∧ 2 ≤ k ∧ a.length * k.toNat ≤ 1000000 then some (.tup (List.replicate k.toNat a).flatten) else none := (rfl)
@[simp] theorem pCatL_lst {a b : List PV} : pCatL (.lst a) (.lst b) = if a.length + b.length ≤ sizeLine then some (.lst (a ++ b)) else none := (rfl)
@[simp] theorem pRepL_lst {a : List PV} {k : Int} : pRepL (.lst a) (.int k) = if -2 ^ 63 ≤ k ∧ k < 2 ^ 63 ∧ a.length * k.toNat ≤ sizeLine then some (.lst (List.replicate k.toNat a).flatten) else none := (rfl)
@[simp] theorem gLen_tup {l : List PV} : gLen [.tup l] = some (.int l.length) := (rfl)
@[simp] theorem gLen_lst {l : List PV} : gLen [.lst l] = some (.int l.length) := (rfl)
@[simp] theorem gLen_fz {l : List PV} : gLen [.fz l] = some (.int l.length) := (rfl)
@[simp] theorem gAbs_int {i : Int} : gAbs [.int i] = some (.int i.natAbs) := by
  show some (PV.int (if i < 0 then -i else i)) = _
  congr 2
  split <;> omega
@[simp] theorem gInt_int {i : Int} : gInt [.int i] = some (.int i) := (rfl)
@[simp] theorem gInt_bl {b : Bool} : gInt [.bl b] = some (.int (if b = true then 1 else 0)) := (rfl)
@[simp] theorem gMax_2 {i j : Int} : gMax [.int i, .int j] = some (.int (max i j)) := by
  show some (PV.int (if j > i then j else i)) = _
  congr 2
  split <;> omega
@[simp] theorem gMin_2 {i j : Int} : gMin [.int i, .int j] = some (.int (min i j)) := by
  show some (PV.int (if j < i then j else i)) = _
  congr 2
  split <;> omega
@[simp] theorem gTuple_lst {l : List PV} : gTuple [.lst l] = some (.tup l) := (rfl)
@[simp] theorem gTuple_fz {l : List PV} : gTuple [.fz l] = some (.tup l) := (rfl)
@[simp] theorem gTuple_tup {l : List PV} : gTuple [.tup l] = some (.tup l) := (rfl)
@[simp] theorem gList_lst {l : List PV} : gList [.lst l] = some (.lst l) := (rfl)
@[simp] theorem gList_fz {l : List PV} : gList [.fz l] = some (.lst l) := (rfl)
@[simp] theorem gList_tup {l : List PV} : gList [.tup l] = some (.lst l) := (rfl)
theorem isi_int {t : String} {i : Int} : gIsi [.int i, .ty t] = (kitB "int" t).map .bl := (rfl)
@[simp] theorem isi_int_int {i : Int} : gIsi [.int i, .ty "int"] = some (.bl true) := by rw [isi_int, show kitB "int" "int" = some true by decide +kernel]; rfl
@[simp] theorem isi_int_bool {i : Int} : gIsi [.int i, .ty "bool"] = some (.bl false) := by rw [isi_int, show kitB "int" "bool" = some false by decide +kernel]; rfl
@[simp] theorem isi_int_str {i : Int} : gIsi [.int i, .ty "str"] = some (.bl false) := by rw [isi_int, show kitB "int" "str" = some false by decide +kernel]; rfl
@[simp] theorem isi_int_tuple {i : Int} : gIsi [.int i, .ty "tuple"] = some (.bl false) := by rw [isi_int, show kitB "int" "tuple" = some false by decide +kernel]; rfl
@[simp] theorem isi_tup_tuple {l : List PV} : gIsi [.tup l, .ty "tuple"] = some (.bl true) := by
  have : gIsi [.tup l, .ty "tuple"] = (kitB "tuple" "tuple").map .bl := rfl
  rw [this, show kitB "tuple" "tuple" = some true by decide +kernel]; rfl
@[simp] theorem isi_tup_int {l : List PV} : gIsi [.tup l, .ty "int"] = some (.bl false) := by
  have : gIsi [.tup l, .ty "int"] = (kitB "tuple" "int").map .bl := rfl
  rw [this, show kitB "tuple" "int" = some false by decide +kernel]; rfl
@[simp] theorem isi_str_str {x : Str} : gIsi [.str x, .ty "str"] = some (.bl true) := by
  have : gIsi [.str x, .ty "str"] = (kitB "str" "str").map .bl := rfl
  rw [this, show kitB "str" "str" = some true by decide +kernel]; rfl
@[simp] theorem ixN_nat {n k : Nat} (h : k < n) : ixN n (k : Int) = some k := by
  unfold ixN
  rw [if_pos (by omega), if_pos (by omega)]
  rfl
@[simp] theorem atI_natP {l : List PV} {k : Nat} : atI l (k : Int) = l[k]? := by
  unfold atI
  by_cases h : k < l.length
  · rw [ixN_nat h]; rfl
  · unfold ixN
    rw [if_pos (by omega), if_neg (by omega)]
    rw [List.getElem?_eq_none (by omega)]; rfl
@[simp] theorem atI_natP1 {l : List PV} {k : Nat} : atI l ((k : Int) + 1) = l[k + 1]? := atI_natP (k := k + 1)
@[simp] theorem atI_0 {l : List PV} : atI l 0 = l[0]? := atI_natP (k := 0)
@[simp] theorem atI_1 {l : List PV} : atI l 1 = l[1]? := atI_natP (k := 1)
@[simp] theorem atI_2 {l : List PV} : atI l 2 = l[2]? := atI_natP (k := 2)
@[simp] theorem atI_last {l : List PV} {p : PV} : atI (l ++ [p]) (-1) = some p := by
  unfold atI ixN
  rw [if_neg (by decide), if_pos (by simp; omega)]
  have : (-1 + (((l ++ [p]).length : Nat) : Int)).toNat = l.length := by simp; omega
  simp only [Option.bind_some, this]
  simp
theorem atI_lastN {l : List PV} {p : PV} (h : l.getLast? = some p) : atI l (-1) = some p := by
  obtain ⟨k, rfl⟩ := List.getLast?_eq_some_iff.1 h
  exact atI_last
@[simp] theorem ixN_0 {n : Nat} : ixN (n + 1) 0 = some 0 := ixN_nat (k := 0) (by omega)
@[simp] theorem ixN_1 {n : Nat} : ixN (n + 2) 1 = some 1 := ixN_nat (k := 1) (by omega)
@[simp] theorem ixN_2 {n : Nat} : ixN (n + 3) 2 = some 2 := ixN_nat (k := 2) (by omega)
theorem line_ge {n : Nat} (h : n ≤ 16777216) : n ≤ sizeLine := by rw [sizeLine_eq]; exact h
theorem line_gt {n : Nat} (h : n < 16777216) : n < sizeLine := by rw [sizeLine_eq]; exact h
@[simp] theorem line_is : sizeLine = 16777216 := sizeLine_eq
@[simp] theorem iRange1_nat {n : Nat} (h : n < 2 ^ 62) : iRange1 [.int (n : Int)] = some (rangeP 0 n) := by
  unfold iRange1
  simp only
  rw [if_pos (by constructor <;> omega)]
  rfl
@[simp] theorem iZip_lst {l m : List PV} : iZipM [.lst l, .lst m] = some (zipP l m) := (rfl)
@[simp] theorem iZip_tup {l m : List PV} : iZipM [.tup l, .tup m] = some (zipP l m) := (rfl)
@[simp] theorem pSl_tup {l : List PV} {lo hi : Option Int} : pSl (.tup l) lo hi = some (.tup (cutP l lo hi)) := (rfl)
@[simp] theorem pSl_lst {l : List PV} {lo hi : Option Int} : pSl (.lst l) lo hi = some (.lst (cutP l lo hi)) := (rfl)
@[simp] theorem pSl_fz {l : List PV} {lo hi : Option Int} : pSl (.fz l) lo hi = some (.lst (cutP l lo hi)) := (rfl)
@[simp] theorem cut_1 {l : List PV} : cutP l (some 1) none = l.drop 1 := by
  unfold cutP HT.sIx
  simp only
  rw [if_neg (by decide)]
  cases l with
  | nil => rfl
  | cons p l => simp
@[simp] theorem toBs_nil : toBs [] = some [] := (rfl)
@[simp] theorem toBs_cons {b : Bool} {l : List PV} : toBs (.bl b :: l) = (toBs l).map fun r => b :: r := (rfl)
@[simp] theorem toIs_nil : toIs [] = some [] := (rfl)
@[simp] theorem toIs_cons {b : Int} {l : List PV} : toIs (.int b :: l) = (toIs l).map fun r => b :: r := (rfl)
@[simp] theorem gAll_map {l : List Bool} : gAll [.lst (l.map .bl)] = some (.bl (l.all id)) := by
  show (toBs (l.map .bl)).map _ = _
  rw [toBs_map]; rfl
theorem CMulW_of {i j : Int} {a b : Nat} (hi : i.natAbs < 2 ^ a) (hj : j.natAbs < 2 ^ b) (h : a + b < 1000000) (ha : 0 < a) (hb : 0 < b) : CMulW i j := by
  unfold CMulW
  have h1 : i.natAbs.log2 < a := by
    by_cases z : i.natAbs = 0
    · rw [z]; simpa using ha
    · exact (Nat.log2_lt z).2 hi
  have h2 : j.natAbs.log2 < b := by
    by_cases z : j.natAbs = 0
    · rw [z]; simpa using hb
    · exact (Nat.log2_lt z).2 hj
  omega
/-! ### what a def's mirror gives -/
def c0 (p : PV) (e : En) : Option (PV × PV) := match e[0]? with
  | some (some c) => some (p, c)
  | _ => none
@[simp] theorem c0_some {p c : PV} {e : En} : c0 p (some c :: e) = some (p, c) := (rfl)
def _root_.M.SOut.val : SOut → Option PV
  | .ret p _ => some p
  | .nxt _ => some .non
  | _ => none
def _root_.M.SOut.val0 : SOut → Option (PV × PV)
  | .ret p e => c0 p e
  | .nxt e => c0 .non e
  | _ => none
def _root_.M.SOut.valF : SOut → Option PV
  | .ret p _ => some p
  | _ => none
@[simp] theorem val_ret {p : PV} {e : En} : (SOut.ret p e).val = some p := (rfl)
@[simp] theorem val_nxt {e : En} : (SOut.nxt e).val = some .non := (rfl)
@[simp] theorem val0_ret {p : PV} {e : En} : (SOut.ret p e).val0 = c0 p e := (rfl)
@[simp] theorem val0_nxt {e : En} : (SOut.nxt e).val0 = c0 .non e := (rfl)
@[simp] theorem valF_ret {p : PV} {e : En} : (SOut.ret p e).valF = some p := (rfl)
@[simp] theorem outV_run {L : Nat} {ms : Ms} {ps : List PV} : outV (M.runN L ms) ps = (ms (startE L ps)).val := by
  unfold outV M.runN SOut.val
  cases ms (startE L ps) <;> rfl
@[simp] theorem out0_run {L : Nat} {ms : Ms} {ps : List PV} : out0 (M.runN L ms) ps = (ms (startE L ps)).val0 := by
  unfold out0 M.runN SOut.val0 c0
  cases ms (startE L ps) <;> rfl
@[simp] theorem outV_runF {L : Nat} {ms : Ms} {ps : List PV} : outV (M.runF L ms) ps = (ms (startE L ps)).valF := by
  unfold outV M.runF SOut.valF
  cases ms (startE L ps) <;> rfl
@[simp] theorem startE_is {L : Nat} {ps : List PV} : startE L ps = ps.map some ++ List.replicate (L - ps.length) none := (rfl)

/-! ### words -/
@[simp] theorem w_flat_flat : eqD (.str (Str.ofString "flat")) (.str (Str.ofString "flat")) = some true := by decide +kernel
@[simp] theorem w_flat_steep : eqD (.str (Str.ofString "flat")) (.str (Str.ofString "steep")) = some false := by decide +kernel
@[simp] theorem w_flat_level : eqD (.str (Str.ofString "flat")) (.str (Str.ofString "level")) = some false := by decide +kernel
@[simp] theorem w_flat_plumb : eqD (.str (Str.ofString "flat")) (.str (Str.ofString "plumb")) = some false := by decide +kernel
@[simp] theorem w_flat_above : eqD (.str (Str.ofString "flat")) (.str (Str.ofString "above")) = some false := by decide +kernel
@[simp] theorem w_flat_below : eqD (.str (Str.ofString "flat")) (.str (Str.ofString "below")) = some false := by decide +kernel
@[simp] theorem w_flat_on : eqD (.str (Str.ofString "flat")) (.str (Str.ofString "on")) = some false := by decide +kernel
@[simp] theorem w_steep_flat : eqD (.str (Str.ofString "steep")) (.str (Str.ofString "flat")) = some false := by decide +kernel
@[simp] theorem w_steep_steep : eqD (.str (Str.ofString "steep")) (.str (Str.ofString "steep")) = some true := by decide +kernel
@[simp] theorem w_steep_level : eqD (.str (Str.ofString "steep")) (.str (Str.ofString "level")) = some false := by decide +kernel
@[simp] theorem w_steep_plumb : eqD (.str (Str.ofString "steep")) (.str (Str.ofString "plumb")) = some false := by decide +kernel
@[simp] theorem w_steep_above : eqD (.str (Str.ofString "steep")) (.str (Str.ofString "above")) = some false := by decide +kernel
@[simp] theorem w_steep_below : eqD (.str (Str.ofString "steep")) (.str (Str.ofString "below")) = some false := by decide +kernel
@[simp] theorem w_steep_on : eqD (.str (Str.ofString "steep")) (.str (Str.ofString "on")) = some false := by decide +kernel
@[simp] theorem w_level_flat : eqD (.str (Str.ofString "level")) (.str (Str.ofString "flat")) = some false := by decide +kernel
@[simp] theorem w_level_steep : eqD (.str (Str.ofString "level")) (.str (Str.ofString "steep")) = some false := by decide +kernel
@[simp] theorem w_level_level : eqD (.str (Str.ofString "level")) (.str (Str.ofString "level")) = some true := by decide +kernel
@[simp] theorem w_level_plumb : eqD (.str (Str.ofString "level")) (.str (Str.ofString "plumb")) = some false := by decide +kernel
@[simp] theorem w_level_above : eqD (.str (Str.ofString "level")) (.str (Str.ofString "above")) = some false := by decide +kernel
@[simp] theorem w_level_below : eqD (.str (Str.ofString "level")) (.str (Str.ofString "below")) = some false := by decide +kernel
@[simp] theorem w_level_on : eqD (.str (Str.ofString "level")) (.str (Str.ofString "on")) = some false := by decide +kernel
@[simp] theorem w_plumb_flat : eqD (.str (Str.ofString "plumb")) (.str (Str.ofString "flat")) = some false := by decide +kernel
@[simp] theorem w_plumb_steep : eqD (.str (Str.ofString "plumb")) (.str (Str.ofString "steep")) = some false := by decide +kernel
@[simp] theorem w_plumb_level : eqD (.str (Str.ofString "plumb")) (.str (Str.ofString "level")) = some false := by decide +kernel
@[simp] theorem w_plumb_plumb : eqD (.str (Str.ofString "plumb")) (.str (Str.ofString "plumb")) = some true := by decide +kernel
@[simp] theorem w_plumb_above : eqD (.str (Str.ofString "plumb")) (.str (Str.ofString "above")) = some false := by decide +kernel
@[simp] theorem w_plumb_below : eqD (.str (Str.ofString "plumb")) (.str (Str.ofString "below")) = some false := by decide +kernel
@[simp] theorem w_plumb_on : eqD (.str (Str.ofString "plumb")) (.str (Str.ofString "on")) = some false := by decide +kernel
@[simp] theorem w_above_flat : eqD (.str (Str.ofString "above")) (.str (Str.ofString "flat")) = some false := by decide +kernel
@[simp] theorem w_above_steep : eqD (.str (Str.ofString "above")) (.str (Str.ofString "steep")) = some false := by decide +kernel
@[simp] theorem w_above_level : eqD (.str (Str.ofString "above")) (.str (Str.ofString "level")) = some false := by decide +kernel
@[simp] theorem w_above_plumb : eqD (.str (Str.ofString "above")) (.str (Str.ofString "plumb")) = some false := by decide +kernel
@[simp] theorem w_above_above : eqD (.str (Str.ofString "above")) (.str (Str.ofString "above")) = some true := by decide +kernel
@[simp] theorem w_above_below : eqD (.str (Str.ofString "above")) (.str (Str.ofString "below")) = some false := by decide +kernel
@[simp] theorem w_above_on : eqD (.str (Str.ofString "above")) (.str (Str.ofString "on")) = some false := by decide +kernel
@[simp] theorem w_below_flat : eqD (.str (Str.ofString "below")) (.str (Str.ofString "flat")) = some false := by decide +kernel
@[simp] theorem w_below_steep : eqD (.str (Str.ofString "below")) (.str (Str.ofString "steep")) = some false := by decide +kernel
@[simp] theorem w_below_level : eqD (.str (Str.ofString "below")) (.str (Str.ofString "level")) = some false := by decide +kernel
@[simp] theorem w_below_plumb : eqD (.str (Str.ofString "below")) (.str (Str.ofString "plumb")) = some false := by decide +kernel
@[simp] theorem w_below_above : eqD (.str (Str.ofString "below")) (.str (Str.ofString "above")) = some false := by decide +kernel
@[simp] theorem w_below_below : eqD (.str (Str.ofString "below")) (.str (Str.ofString "below")) = some true := by decide +kernel
@[simp] theorem w_below_on : eqD (.str (Str.ofString "below")) (.str (Str.ofString "on")) = some false := by decide +kernel
@[simp] theorem w_on_flat : eqD (.str (Str.ofString "on")) (.str (Str.ofString "flat")) = some false := by decide +kernel
@[simp] theorem w_on_steep : eqD (.str (Str.ofString "on")) (.str (Str.ofString "steep")) = some false := by decide +kernel
@[simp] theorem w_on_level : eqD (.str (Str.ofString "on")) (.str (Str.ofString "level")) = some false := by decide +kernel
@[simp] theorem w_on_plumb : eqD (.str (Str.ofString "on")) (.str (Str.ofString "plumb")) = some false := by decide +kernel
@[simp] theorem w_on_above : eqD (.str (Str.ofString "on")) (.str (Str.ofString "above")) = some false := by decide +kernel
@[simp] theorem w_on_below : eqD (.str (Str.ofString "on")) (.str (Str.ofString "below")) = some false := by decide +kernel
@[simp] theorem w_on_on : eqD (.str (Str.ofString "on")) (.str (Str.ofString "on")) = some true := by decide +kernel
@[simp] theorem wi_flat_level : inD (.str (Str.ofString "flat")) (.tup [.str (Str.ofString "level"), .str (Str.ofString "plumb")]) = some false := by decide +kernel
@[simp] theorem wi_flat_flat : inD (.str (Str.ofString "flat")) (.tup [.str (Str.ofString "flat"), .str (Str.ofString "steep")]) = some true := by decide +kernel
@[simp] theorem wi_steep_level : inD (.str (Str.ofString "steep")) (.tup [.str (Str.ofString "level"), .str (Str.ofString "plumb")]) = some false := by decide +kernel
@[simp] theorem wi_steep_flat : inD (.str (Str.ofString "steep")) (.tup [.str (Str.ofString "flat"), .str (Str.ofString "steep")]) = some true := by decide +kernel
@[simp] theorem wi_level_level : inD (.str (Str.ofString "level")) (.tup [.str (Str.ofString "level"), .str (Str.ofString "plumb")]) = some true := by decide +kernel
@[simp] theorem wi_level_flat : inD (.str (Str.ofString "level")) (.tup [.str (Str.ofString "flat"), .str (Str.ofString "steep")]) = some false := by decide +kernel
@[simp] theorem wi_plumb_level : inD (.str (Str.ofString "plumb")) (.tup [.str (Str.ofString "level"), .str (Str.ofString "plumb")]) = some true := by decide +kernel
@[simp] theorem wi_plumb_flat : inD (.str (Str.ofString "plumb")) (.tup [.str (Str.ofString "flat"), .str (Str.ofString "steep")]) = some false := by decide +kernel
@[simp] theorem wi_above_level : inD (.str (Str.ofString "above")) (.tup [.str (Str.ofString "level"), .str (Str.ofString "plumb")]) = some false := by decide +kernel
@[simp] theorem wi_above_flat : inD (.str (Str.ofString "above")) (.tup [.str (Str.ofString "flat"), .str (Str.ofString "steep")]) = some false := by decide +kernel
@[simp] theorem wi_below_level : inD (.str (Str.ofString "below")) (.tup [.str (Str.ofString "level"), .str (Str.ofString "plumb")]) = some false := by decide +kernel
@[simp] theorem wi_below_flat : inD (.str (Str.ofString "below")) (.tup [.str (Str.ofString "flat"), .str (Str.ofString "steep")]) = some false := by decide +kernel
@[simp] theorem wi_on_level : inD (.str (Str.ofString "on")) (.tup [.str (Str.ofString "level"), .str (Str.ofString "plumb")]) = some false := by decide +kernel
@[simp] theorem wi_on_flat : inD (.str (Str.ofString "on")) (.tup [.str (Str.ofString "flat"), .str (Str.ofString "steep")]) = some false := by decide +kernel
end M

namespace M
open PySem PySem.Spec PyProof.Rows L2
/-! ### points, kinds, rises -/
abbrev P2 := Int × Int
def pt (p : P2) : PV := .tup [.int p.1, .int p.2]
def kd (b : Bool) : PV := .str (if b = true then "flat" else "steep")
@[simp] theorem kd_true : kd true = .str "flat" := (rfl)
@[simp] theorem kd_false : kd false = .str "steep" := (rfl)
@[simp] theorem eqD_kd {a b : Bool} : eqD (kd a) (kd b) = some (a == b) := by cases a <;> cases b <;> simp
@[simp] theorem eqD_kd_flat {a : Bool} : eqD (kd a) (.str "flat") = some a := by cases a <;> simp
@[simp] theorem eqD_kd_steep {a : Bool} : eqD (kd a) (.str "steep") = some (!a) := by cases a <;> simp
@[simp] theorem eqD_kd_level {a : Bool} : eqD (kd a) (.str "level") = some false := by cases a <;> simp
@[simp] theorem eqD_kd_plumb {a : Bool} : eqD (kd a) (.str "plumb") = some false := by cases a <;> simp
@[simp] theorem inD_kd_lp {a : Bool} : inD (kd a) (.tup [.str "level", .str "plumb"]) = some false := by cases a <;> simp
@[simp] theorem inD_kd_fs {a : Bool} : inD (kd a) (.tup [.str "flat", .str "steep"]) = some true := by cases a <;> simp
theorem pl_kd {n : Nat} {a : Bool} : pl n (kd a) = true := by
  have h : ∀ x : Str, pl n (.str x) = PyData.strOk x := fun x => by cases n <;> rfl
  unfold kd
  rw [h]
  cases a <;> decide +kernel
@[simp] theorem eqD_kd_N {a : Bool} : eqD (kd a) .non = some false := eqD_false (n := 0) pl_kd rfl (by cases a <;> simp)
@[simp] theorem eqD_N_kd {a : Bool} : eqD .non (kd a) = some false := eqD_false (n := 0) rfl pl_kd (by cases a <;> simp)
@[simp] theorem isNn_kd {a : Bool} : isNn (kd a) = some false := by cases a <;> rfl
@[simp] theorem eqD_pt {p q : P2} : eqD (pt p) (pt q) = some (decide (p = q)) := by
  unfold pt
  rw [eqD_P2]
  congr 1
  cases p; cases q
  simp
@[simp] theorem items_pt {p : P2} : itemsOf (pt p) = some [.int p.1, .int p.2] := (rfl)
@[simp] theorem ix_pt0 {p : P2} : pIx (pt p) (.int 0) = some (.int p.1) := by simp [pt]
@[simp] theorem ix_pt1 {p : P2} : pIx (pt p) (.int 1) = some (.int p.2) := by simp [pt]
@[simp] theorem unp_pt {p : P2} {i j : Nat} {e : En} : unpO [i, j] (pt p) e = .nxt ((e.set i (some (.int p.1))).set j (some (.int p.2))) := (rfl)
@[simp] theorem isi_pt {p : P2} : gIsi [pt p, .ty "tuple"] = some (.bl true) := isi_tup_tuple
@[simp] theorem isNn_pt {p : P2} : isNn (pt p) = some false := (rfl)
@[simp] theorem len_pt {p : P2} : gLen [pt p] = some (.int 2) := (rfl)
/-- from p to q along the kind -/
def Go (k : Bool) (p q : P2) : Prop := if k = true then p.2 = q.2 ∧ p.1 < q.1 else p.1 = q.1 ∧ p.2 < q.2
instance {k : Bool} {p q : P2} : Decidable (Go k p q) := by unfold Go; infer_instance
@[simp] theorem Go_true {p q : P2} : Go true p q ↔ p.2 = q.2 ∧ p.1 < q.1 := by simp [Go]
@[simp] theorem Go_false {p q : P2} : Go false p q ↔ p.1 = q.1 ∧ p.2 < q.2 := by simp [Go]
theorem Go.ne {k : Bool} {p q : P2} (h : Go k p q) : p ≠ q := by
  rintro rfl
  cases k <;> simp at h
theorem Go.one {k m : Bool} {p q : P2} (h : Go k p q) (h2 : Go m p q) : k = m := by
  cases k <;> cases m <;> simp at * <;> omega
def Alt : Bool → List P2 → Prop
  | _, [] => True
  | _, [_] => True
  | k, p :: q :: l => Go (!k) p q ∧ Alt (!k) (q :: l)
def kAt (k : Bool) : Nat → Bool
  | 0 => k
  | n + 1 => !(kAt k n)
theorem kAt_succ' {k : Bool} : ∀ {n : Nat}, kAt k (n + 1) = kAt (!k) n
  | 0 => rfl
  | n + 1 => by
    show (!(kAt k (n + 1))) = !(kAt (!k) n)
    rw [kAt_succ' (n := n)]
theorem Alt.snoc : ∀ {k : Bool} {l : List P2} {p q : P2}, Alt k (l ++ [p]) → Go (kAt k (l.length + 1)) p q → Alt k (l ++ [p, q])
  | k, [], p, q, _, h => ⟨by simpa [kAt] using h, trivial⟩
  | k, [a], p, q, h, h2 => ⟨h.1, by simpa [kAt] using h2, trivial⟩
  | k, a :: b :: l, p, q, h, h2 => by
    refine ⟨h.1, Alt.snoc (l := b :: l) h.2 ?_⟩
    have : kAt (!k) ((b :: l).length + 1) = kAt k ((a :: b :: l).length + 1) := by
      rw [← kAt_succ']
      rfl
    rw [this]
    exact h2
theorem Alt.init : ∀ {k : Bool} {l : List P2} {p : P2}, Alt k (l ++ [p]) → Alt k l
  | _, [], _, _ => trivial
  | _, [_], _, _ => trivial
  | _, a :: b :: l, p, h => ⟨h.1, Alt.init (l := b :: l) h.2⟩
theorem Alt.get : ∀ {k : Bool} {l : List P2} {i : Nat} {p q : P2}, Alt k l → l[i]? = some p → l[i + 1]? = some q → Go (kAt k (i + 1)) p q
  | k, [], i, p, q, _, h, _ => by simp at h
  | k, [a], i, p, q, _, h, h2 => by simp at h2
  | k, a :: b :: l, 0, p, q, h, h1, h2 => by
    simp at h1 h2; subst h1; subst h2
    exact h.1
  | k, a :: b :: l, i + 1, p, q, h, h1, h2 => by
    have := Alt.get (k := !k) (l := b :: l) (i := i) h.2 h1 h2
    rw [← kAt_succ'] at this
    exact this
/-- the kind of a step, if it has one -/
def kOf (p q : P2) : Option Bool := if Go true p q then some true else if Go false p q then some false else none
theorem kOf_go {k : Bool} {p q : P2} (h : Go k p q) : kOf p q = some k := by
  unfold kOf
  cases k
  · rw [if_neg (by simp at *; omega), if_pos h]
  · rw [if_pos h]
@[simp] theorem kOf_self {p : P2} : kOf p p = none := by
  unfold kOf
  rw [if_neg (by simp), if_neg (by simp)]
/-- steps of a row -/
def Stp (p q : P2) : Prop := p = q ∨ ∃ k, Go k p q
theorem Stp.none {p q : P2} (h : Stp p q) (h2 : kOf p q = none) : p = q := by
  rcases h with h | ⟨k, h⟩
  · exact h
  · rw [kOf_go h] at h2; cases h2
/-- a row of points: each step -/
def Row : List P2 → Prop
  | p :: q :: l => Stp p q ∧ Row (q :: l)
  | _ => True
theorem Row.get : ∀ {l : List P2} {i : Nat} {p q : P2}, Row l → l[i]? = some p → l[i + 1]? = some q → Stp p q
  | [], i, p, q, _, h, _ => by simp at h
  | [a], i, p, q, _, h, h2 => by simp at h2
  | a :: b :: l, 0, p, q, h, h1, h2 => by
    simp at h1 h2; subst h1; subst h2
    exact h.1
  | a :: b :: l, i + 1, p, q, h, h1, h2 => Row.get (l := b :: l) (i := i) h.2 h1 h2
inductive Rs where
  | level (v : Int) | plumb (v : Int) | bent (k : Bool) (l : List P2)
def Rs.pv : Rs → PV
  | .level v => .tup [.str "level", .int v]
  | .plumb v => .tup [.str "plumb", .int v]
  | .bent k l => .tup [kd k, .tup (l.map pt)]
def Inb (B : Int) (p : P2) : Prop := -B ≤ p.1 ∧ p.1 ≤ B ∧ -B ≤ p.2 ∧ p.2 ≤ B
def Rs.Ok (B : Int) : Rs → Prop
  | .level v => -B ≤ v ∧ v ≤ B
  | .plumb v => -B ≤ v ∧ v ≤ B
  | .bent k l => l ≠ [] ∧ l.length ≤ 400 ∧ (∀ p ∈ l, Inb B p) ∧ Alt k l
theorem drop_cons {α : Type} {l s : List α} {j : Nat} {p : α} (h : l.drop j = p :: s) : l[j]? = some p ∧ l.drop (j + 1) = s := by
  have h1 : (l.drop j)[0]? = some p := by rw [h]; rfl
  rw [List.getElem?_drop] at h1
  refine ⟨by simpa using h1, ?_⟩
  have : (l.drop j).drop 1 = s := by rw [h]; rfl
  rw [List.drop_drop] at this
  exact this
/-! ### loops over items -/
@[simp] theorem loopM_nil {f : PV → En → Option En} {b : Ms} {e : En} : loopM f b [] e = .nxt e := (rfl)
def loopK (o : SOut) (f : PV → En → Option En) (b : Ms) (l : List PV) : SOut := match o with
  | .nxt e2 => loopM f b l e2
  | .cnt e2 => loopM f b l e2
  | .brk e2 => .nxt e2
  | .ret q e2 => .ret q e2
  | .exc x e2 => .exc x e2
  | .bad => .bad
def stepE (o : Option En) (g : En → SOut) : SOut := match o with
  | none => .bad
  | some e => g e
@[simp] theorem stepE_some {e : En} {g : En → SOut} : stepE (some e) g = g e := (rfl)
@[simp] theorem stepE_none {g : En → SOut} : stepE none g = .bad := (rfl)
@[simp] theorem loopM_cons {f : PV → En → Option En} {b : Ms} {p : PV} {l : List PV} {e : En} : loopM f b (p :: l) e = stepE (f p e) fun e1 => loopK (b e1) f b l := by
  show (match f p e with
    | none => SOut.bad
    | some e1 => match b e1 with
      | .nxt e2 => loopM f b l e2
      | .cnt e2 => loopM f b l e2
      | .brk e2 => .nxt e2
      | .ret q e2 => .ret q e2
      | .exc x e2 => .exc x e2
      | .bad => .bad) = _
  unfold stepE loopK
  rfl
@[simp] theorem loopK_nxt {f : PV → En → Option En} {b : Ms} {l : List PV} {e : En} : loopK (.nxt e) f b l = loopM f b l e := (rfl)
@[simp] theorem loopK_cnt {f : PV → En → Option En} {b : Ms} {l : List PV} {e : En} : loopK (.cnt e) f b l = loopM f b l e := (rfl)
@[simp] theorem loopK_brk {f : PV → En → Option En} {b : Ms} {l : List PV} {e : En} : loopK (.brk e) f b l = .nxt e := (rfl)
@[simp] theorem loopK_ret {f : PV → En → Option En} {b : Ms} {l : List PV} {e : En} {q : PV} : loopK (.ret q e) f b l = .ret q e := (rfl)
theorem rangeP_len {lo : Int} {n : Nat} : (rangeP lo n).length = n := by simp [rangeP]
theorem rangeP_zero {lo : Int} : rangeP lo 0 = [] := (rfl)
theorem rangeP_succ {lo : Int} {n : Nat} : rangeP lo (n + 1) = .int lo :: rangeP (lo + 1) n := by
  unfold rangeP
  rw [List.range_succ_eq_map]
  simp
  intro a _
  omega
/-! ### comprehensions -/
theorem lcLoop_map {own : List Nat} {f : PV → En → Option En} {mt : Mo Bool} {me : Mo PV} (g : PV → Option PV) {e : En} : ∀ {l acc : List PV}, acc.length + l.length ≤ 16777216 →
    (∀ p ∈ l, ∃ e1, f p (wipeE e own) = some e1 ∧ ((g p = none ∧ ∃ e2, mt e1 = .ok false e2 ∧ restE own e e2 = e) ∨ (∃ q, g p = some q ∧ ∃ e2 e3, mt e1 = .ok true e2 ∧ me e2 = .ok q e3 ∧ restE own e e3 = e))) →
    lcLoop own f mt me l acc e = .ok (.lst (acc ++ l.filterMap g)) e
  | [], acc, _, _ => by simp [lcLoop]
  | p :: l, acc, hl, h => by
    obtain ⟨e1, h1, h2⟩ := h p List.mem_cons_self
    have ih : ∀ {acc : List PV}, acc.length + l.length ≤ 16777216 → lcLoop own f mt me l acc e = .ok (.lst (acc ++ l.filterMap g)) e := fun hl => lcLoop_map g hl fun q hq => h q (List.mem_cons_of_mem _ hq)
    simp only [List.length_cons] at hl
    unfold lcLoop
    simp only [h1]
    rcases h2 with ⟨h2, e2, h3, h4⟩ | ⟨q, h2, e2, e3, h3, h4, h5⟩
    · simp only [h3, h4]
      rw [ih (by omega), List.filterMap_cons_none h2]
    · simp only [h3, h4, h5]
      rw [if_pos (line_gt (by omega)), ih (by simp; omega), List.filterMap_cons_some h2]
      simp
end M

namespace M
open PySem PySem.Spec PyProof.Rows L2
/-! ### pieces of rises -/
@[simp] theorem isi_kd {k : Bool} : gIsi [kd k, .ty "str"] = some (.bl true) := isi_str_str
@[simp] theorem truth_kd {k : Bool} : truth (kd k) = some true := by
  cases k
  · show (if (Str.ofString "steep").length ≤ sizeLine then some (((Str.ofString "steep").length : Int) != 0) else none) = _
    rw [show (Str.ofString "steep").length = 5 by decide +kernel, if_pos (line_ge (by decide))]
    rfl
  · show (if (Str.ofString "flat").length ≤ sizeLine then some (((Str.ofString "flat").length : Int) != 0) else none) = _
    rw [show (Str.ofString "flat").length = 4 by decide +kernel, if_pos (line_ge (by decide))]
    rfl
def along (k : Bool) (p : P2) : Int := if k = true then p.1 else p.2
def across (k : Bool) (p : P2) : Int := if k = true then p.2 else p.1
@[simp] theorem along_true {p : P2} : along true p = p.1 := rfl
@[simp] theorem along_false {p : P2} : along false p = p.2 := rfl
@[simp] theorem across_true {p : P2} : across true p = p.2 := rfl
@[simp] theorem across_false {p : P2} : across false p = p.1 := rfl
theorem Go.iff {k : Bool} {p q : P2} : Go k p q ↔ across k p = across k q ∧ along k p < along k q := by cases k <;> simp
structure Pc where
  k : Bool
  a : Int
  lo : Option Int
  hi : Option Int
def optP : Option Int → PV
  | none => .non
  | some i => .int i
@[simp] theorem optP_none : optP none = .non := (rfl)
@[simp] theorem optP_some {i : Int} : optP (some i) = .int i := (rfl)
def optPt : Option P2 → PV
  | none => .non
  | some p => pt p
@[simp] theorem optPt_none : optPt none = .non := (rfl)
@[simp] theorem optPt_some {p : P2} : optPt (some p) = pt p := (rfl)
def Pc.pv (c : Pc) : PV := .tup [kd c.k, .int c.a, optP c.lo, optP c.hi]
def pcsL : Bool → Option P2 → List P2 → List Pc
  | k, some c, [] => [⟨k, across k c, some (along k c), none⟩]
  | _, none, [] => []
  | k, low, c :: l => ⟨k, across k c, low.map (along k), some (along k c)⟩ :: pcsL (!k) (some c) l
def Rs.pcs : Rs → List Pc
  | .level v => [⟨true, v, none, none⟩]
  | .plumb v => [⟨false, v, none, none⟩]
  | .bent k l => pcsL k none l
def leO (o : Option Int) (i : Int) : Bool := match o with
  | none => true
  | some j => decide (j ≤ i)
def geO (o : Option Int) (i : Int) : Bool := match o with
  | none => true
  | some j => decide (i ≤ j)
@[simp] theorem leO_none {i : Int} : leO none i = true := rfl
@[simp] theorem leO_some {i j : Int} : leO (some j) i = decide (j ≤ i) := rfl
@[simp] theorem geO_none {i : Int} : geO none i = true := rfl
@[simp] theorem geO_some {i j : Int} : geO (some j) i = decide (i ≤ j) := rfl
def Pc.on (c : Pc) (p : P2) : Bool := decide (across c.k p = c.a) && (leO c.lo (along c.k p) && geO c.hi (along c.k p))
def Rs.on (r : Rs) (p : P2) : Bool := r.pcs.any fun c => c.on p
theorem ne_not {k m : Bool} (h : m ≠ k) : m = !k := by cases k <;> cases m <;> simp_all
theorem Row.snoc : ∀ {l : List P2} {p q : P2}, Row (l ++ [p]) → Stp p q → Row (l ++ [p, q])
  | [], p, q, _, h => ⟨h, trivial⟩
  | [a], p, q, h, h2 => ⟨h.1, h2, trivial⟩
  | a :: b :: l, p, q, h, h2 => ⟨h.1, Row.snoc (l := b :: l) h.2 h2⟩
theorem Row.init : ∀ {l : List P2} {p : P2}, Row (l ++ [p]) → Row l
  | [], _, _ => trivial
  | [_], _, _ => trivial
  | a :: b :: l, p, h => ⟨h.1, Row.init (l := b :: l) h.2⟩
/-! ### the steps of a row, told one by one -/
/-! ### a row along a rise -/
def Filled : Bool → List P2 → List P2 → Prop
  | _, [], _ => False
  | _, [c], row => row = [c]
  | k, c :: d :: l, row => ∃ (m : Nat) (z : P2) (r : List P2), m ≤ 1 ∧ row = c :: (List.replicate m c ++ z :: r) ∧ (across (!k) z = across (!k) c ∧ along (!k) c ≤ along (!k) z ∧ along (!k) z ≤ along (!k) d) ∧ Filled (!k) (d :: l) r
theorem Filled.head : ∀ {k : Bool} {c : P2} {l row : List P2}, Filled k (c :: l) row → ∃ t, row = c :: t
  | _, c, [], row, h => ⟨[], h⟩
  | _, c, d :: l, row, ⟨m, z, r, _, h, _⟩ => ⟨_, h⟩
end M

namespace M
open PySem PySem.Spec PyProof.Rows L2
/-! ### points on rises, by their corners -/
/-- the corner ahead of piece i -/
def ahead (low : Option P2) (l : List P2) : Nat → Option P2
  | 0 => low
  | i + 1 => l[i]?
theorem pc_on {k : Bool} {a : Int} {lo hi : Option Int} {p : P2} : (Pc.on ⟨k, a, lo, hi⟩ p = true) ↔ across k p = a ∧ (∀ c, lo = some c → c ≤ along k p) ∧ ∀ c, hi = some c → along k p ≤ c := by
  unfold Pc.on
  cases lo <;> cases hi <;> simp
theorem pcsL_cons {k : Bool} {low : Option P2} {c : P2} {l : List P2} : pcsL k low (c :: l) = ⟨k, across k c, low.map (along k), some (along k c)⟩ :: pcsL (!k) (some c) l := by cases low <;> rfl
/-! ### turned, transposed, moved -/
def neg2 (p : P2) : P2 := (-p.1, -p.2)
def tr2 (p : P2) : P2 := (p.2, p.1)
def Rs.turn : Rs → Rs
  | .level v => .level (-v)
  | .plumb v => .plumb (-v)
  | .bent k l => .bent (kAt k l.length) (l.reverse.map neg2)
@[simp] theorem neg2_neg2 {p : P2} : neg2 (neg2 p) = p := by simp [neg2]
@[simp] theorem tr2_tr2 {p : P2} : tr2 (tr2 p) = p := rfl
theorem Alt.iff : ∀ {k : Bool} {l : List P2}, Alt k l ↔ ∀ i p q, l[i]? = some p → l[i + 1]? = some q → Go (kAt k (i + 1)) p q
  | k, [] => ⟨fun _ i p q h => by simp at h, fun _ => trivial⟩
  | k, [a] => ⟨fun _ i p q _ h => by simp at h, fun _ => trivial⟩
  | k, a :: b :: l => by
    constructor
    · intro h i p q h1 h2
      exact h.get h1 h2
    · intro h
      refine ⟨h 0 a b rfl rfl, Alt.iff.2 fun i p q h1 h2 => ?_⟩
      rw [← kAt_succ']
      exact h (i + 1) p q h1 h2
@[simp] theorem across_neg {k : Bool} {p : P2} : across k (neg2 p) = -across k p := by cases k <;> rfl
@[simp] theorem along_neg {k : Bool} {p : P2} : along k (neg2 p) = -along k p := by cases k <;> rfl
@[simp] theorem across_tr {k : Bool} {p : P2} : across (!k) (tr2 p) = across k p := by cases k <;> rfl
@[simp] theorem along_tr {k : Bool} {p : P2} : along (!k) (tr2 p) = along k p := by cases k <;> rfl
theorem ok_mono {B C : Int} {r : Rs} (h : r.Ok B) (hB : B ≤ C) : r.Ok C := by
  cases r with
  | level v => unfold Rs.Ok at *; dsimp only at *; omega
  | plumb v => unfold Rs.Ok at *; dsimp only at *; omega
  | bent k l =>
    obtain ⟨h1, h2, h3, h4⟩ := h
    refine ⟨h1, h2, fun p hp => ?_, h4⟩
    have := h3 p hp
    unfold Inb at *; omega
end M

namespace M
open PySem PySem.Spec PyProof.Rows L2
/-! ### what goes with a number, piece by piece -/
def hit (b : Bool) (x : Int) (c : Pc) : Option (Option Int × Option Int) :=
  if c.k = b then (if (leO c.lo x && geO c.hi x) = true then some (some c.a, some c.a) else none) else if c.a = x then some (c.lo, c.hi) else none
def hits (b : Bool) (x : Int) (l : List Pc) : List (Option Int × Option Int) := l.filterMap (hit b x)
theorem across_not {b : Bool} {p : P2} : across (!b) p = along b p := by cases b <;> rfl
theorem along_not {b : Bool} {p : P2} : along (!b) p = across b p := by cases b <;> rfl
theorem leO_iff {o : Option Int} {i : Int} : leO o i = true ↔ ∀ j, o = some j → j ≤ i := by cases o <;> simp
theorem geO_iff {o : Option Int} {i : Int} : geO o i = true ↔ ∀ j, o = some j → i ≤ j := by cases o <;> simp
theorem first_on {k : Bool} {c : P2} {l : List P2} (hg : ∀ d, l.head? = some d → Go k c d) : ((pcsL k (some c) l).any fun z => z.on c) = true := by
  cases l with
  | nil => simp [pcsL, pc_on]
  | cons d l =>
    have g := Go.iff.1 (hg d rfl)
    rw [pcsL_cons, List.any_cons, Bool.or_eq_true]
    refine .inl (pc_on.2 ⟨g.1, fun z e => by cases e; exact Int.le_refl _, fun z e => by cases e; omega⟩)
theorem hits_spec {b : Bool} {x : Int} : ∀ {l : List P2} {k : Bool} {low : Option P2}, Alt k l → (l ≠ [] ∨ low ≠ none) → (∀ c d, low = some c → l.head? = some d → Go k c d) →
    (hits b x (pcsL k low l) = [] → ∀ p, along b p = x → ((pcsL k low l).any fun z => z.on p) = false) ∧
    (∀ h z, (hits b x (pcsL k low l)).head? = some h → (hits b x (pcsL k low l)).getLast? = some z → ∀ p, along b p = x → (((pcsL k low l).any fun z => z.on p) = true ↔ leO h.1 (across b p) = true ∧ geO z.2 (across b p) = true)) ∧
    (∀ c, low = some c → (x = along b c → ∃ h, (hits b x (pcsL k low l)).head? = some h ∧ h.1 = some (across b c)) ∧ (x < along b c → hits b x (pcsL k low l) = []))
  | [], k, low, _, hn, _ => by
    cases low with
    | none => simp at hn
    | some c =>
      have e : pcsL k (some c) [] = [⟨k, across k c, some (along k c), none⟩] := rfl
      rw [e]
      by_cases hk : k = b
      · subst hk
        by_cases h : along k c ≤ x
        · have eh : hits k x [⟨k, across k c, some (along k c), none⟩] = [(some (across k c), some (across k c))] := by simp [hits, hit, h]
          rw [eh]
          refine ⟨fun q => (by cases q), fun h1 z q1 q2 p hp => ?_, fun d q => ?_⟩
          · simp at q1 q2; subst q1; subst q2
            rw [List.any_cons, List.any_nil, Bool.or_false, pc_on]
            simp
            constructor
            · rintro ⟨h1, h2⟩; omega
            · rintro ⟨h1, h2⟩; omega
          · cases q
            exact ⟨fun q => ⟨_, rfl, rfl⟩, fun q => by omega⟩
        · have eh : hits k x [⟨k, across k c, some (along k c), none⟩] = [] := by simp [hits, hit, h]
          rw [eh]
          refine ⟨fun _ p hp => ?_, fun h1 z q1 => (by cases q1), fun d q => ?_⟩
          · rw [List.any_cons, List.any_nil, Bool.or_false]
            cases z : Pc.on ⟨k, across k c, some (along k c), none⟩ p with
            | false => rfl
            | true =>
              have := (pc_on.1 z).2.1 _ rfl
              omega
          · cases q
            exact ⟨fun q => by omega, fun q => rfl⟩
      · have hk := ne_not hk
        subst hk
        rw [across_not, along_not]
        have nb : ¬ ((!b) = b) := by cases b <;> decide
        by_cases h : along b c = x
        · have eh : hits b x [⟨!b, along b c, some (across b c), none⟩] = [(some (across b c), none)] := by simp [hits, hit, h]
          rw [eh]
          refine ⟨fun q => (by cases q), fun h1 z q1 q2 p hp => ?_, fun d q => ?_⟩
          · simp at q1 q2; subst q1; subst q2
            rw [List.any_cons, List.any_nil, Bool.or_false, pc_on, across_not, along_not]
            simp
            omega
          · cases q
            exact ⟨fun q => ⟨_, rfl, rfl⟩, fun q => by omega⟩
        · have eh : hits b x [⟨!b, along b c, some (across b c), none⟩] = [] := by simp [hits, hit, h]
          rw [eh]
          refine ⟨fun _ p hp => ?_, fun h1 z q1 => (by cases q1), fun d q => ?_⟩
          · rw [List.any_cons, List.any_nil, Bool.or_false]
            cases z : Pc.on ⟨!b, along b c, some (across b c), none⟩ p with
            | false => rfl
            | true =>
              have := (pc_on.1 z).1
              rw [across_not] at this
              omega
          · cases q
            exact ⟨fun q => absurd q.symm h, fun q => rfl⟩
  | c :: l, k, low, ha, hn, hg => by
    have ha2 : Alt (!k) l := by
      cases l with
      | nil => trivial
      | cons d l => exact ha.2
    have hg2 : ∀ d, l.head? = some d → Go (!k) c d := fun d h2 => by
      cases l with
      | nil => cases h2
      | cons e l => simp at h2; subst h2; exact ha.1
    obtain ⟨A0, A1, B⟩ := hits_spec (b := b) (x := x) (l := l) (k := !k) (low := some c) ha2 (.inr (by simp)) (fun a d h1 h2 => by cases h1; exact hg2 d h2)
    obtain ⟨B1, B2⟩ := B c rfl
    have fo := first_on hg2
    rw [pcsL_cons]
    generalize hR : pcsL (!k) (some c) l = R at *
    have hh : hits b x (⟨k, across k c, low.map (along k), some (along k c)⟩ :: R) = (hit b x ⟨k, across k c, low.map (along k), some (along k c)⟩).toList ++ hits b x R := by
      unfold hits
      rw [List.filterMap_cons]
      cases hit b x ⟨k, across k c, low.map (along k), some (along k c)⟩ <;> rfl
    rw [hh]
    have hon : ∀ p, ((Pc.mk k (across k c) (low.map (along k)) (some (along k c)) :: R).any fun z => z.on p) = true ↔ (across k p = across k c ∧ (∀ d, low = some d → along k d ≤ along k p) ∧ along k p ≤ along k c) ∨ (R.any fun z => z.on p) = true := fun p => by
      rw [List.any_cons, Bool.or_eq_true, pc_on]
      constructor
      · rintro (⟨h1, h2, h3⟩ | h)
        · exact .inl ⟨h1, fun d e => h2 _ (by rw [e]; rfl), h3 _ rfl⟩
        · exact .inr h
      · rintro (⟨h1, h2, h3⟩ | h)
        · refine .inl ⟨h1, fun z e => ?_, fun z e => by cases e; exact h3⟩
          rw [Option.map_eq_some_iff] at e
          obtain ⟨d, e, rfl⟩ := e
          exact h2 d e
        · exact .inr h
    have offall : ∀ p, (¬ ((across k p = across k c ∧ (∀ d, low = some d → along k d ≤ along k p) ∧ along k p ≤ along k c) ∨ (R.any fun z => z.on p) = true)) → ((Pc.mk k (across k c) (low.map (along k)) (some (along k c)) :: R).any fun z => z.on p) = false := fun p h => by
      cases z : (Pc.mk k (across k c) (low.map (along k)) (some (along k c)) :: R).any fun z => z.on p with
      | false => rfl
      | true => exact absurd ((hon p).1 z) h
    have hlow : ∀ d, low = some d → across k d = across k c ∧ along k d < along k c := fun d e => Go.iff.1 (hg d c e rfl)
    by_cases hk : k = b
    · subst hk
      by_cases h1 : x < along k c
      · rw [B2 h1, List.append_nil]
        by_cases h2 : ∀ d, low = some d → along k d ≤ x
        · have eh : hit k x ⟨k, across k c, low.map (along k), some (along k c)⟩ = some (some (across k c), some (across k c)) := by
            have h3 : leO (low.map (along k)) x = true := leO_iff.2 fun j e => by
              rw [Option.map_eq_some_iff] at e
              obtain ⟨d, e, rfl⟩ := e
              exact h2 d e
            have h4 : x ≤ along k c := by omega
            simp [hit, h3, h4]
          rw [eh]
          refine ⟨fun q => (by cases q), fun h z q1 q2 p hp => ?_, fun d e => ⟨fun q => ⟨_, rfl, by simp [(hlow d e).1]⟩, fun q => by have := h2 d e; omega⟩⟩
          simp at q1 q2; subst q1; subst q2
          rw [hon]
          have := A0 (B2 h1) p hp
          rw [this]
          simp only [leO_some, geO_some, decide_eq_true_eq]
          constructor
          · rintro (⟨h5, _, _⟩ | h5)
            · omega
            · cases h5
          · rintro ⟨h5, h6⟩
            exact .inl ⟨by omega, fun d e => by rw [hp]; exact h2 d e, by omega⟩
        · have eh : hit k x ⟨k, across k c, low.map (along k), some (along k c)⟩ = none := by
            cases low with
            | none => exact absurd (fun d e => by cases e) h2
            | some d =>
              have h3 : ¬ (along k d ≤ x) := fun q => h2 fun d' e => by cases e; exact q
              simp [hit, h3]
          rw [eh]
          refine ⟨fun _ p hp => offall p ?_, fun h z q1 => (by cases q1), fun d e => ⟨fun q => absurd (fun d' e' => by rw [e] at e'; cases e'; omega) h2, fun _ => rfl⟩⟩
          rintro (⟨_, h5, _⟩ | h5)
          · exact h2 fun d e => by rw [← hp]; exact h5 d e
          · rw [A0 (B2 h1) p hp] at h5; cases h5
      · by_cases h3 : x = along k c
        · have hle : leO (low.map (along k)) x = true := leO_iff.2 fun j e => by
            rw [Option.map_eq_some_iff] at e
            obtain ⟨d, e, rfl⟩ := e
            have := hlow d e
            omega
          have eh : hit k x ⟨k, across k c, low.map (along k), some (along k c)⟩ = some (some (across k c), some (across k c)) := by
            have h4 : x ≤ along k c := by omega
            simp [hit, hle, h4]
          rw [eh]
          obtain ⟨h0, e0, e1⟩ := B1 h3
          refine ⟨fun q => (by cases q), fun h z q1 q2 p hp => ?_, fun d e => ⟨fun q => (by have := hlow d e; omega), fun q => (by have := hlow d e; omega)⟩⟩
          have hz : (hits k x R).getLast? = some z := by
            have hne : hits k x R ≠ [] := fun q => by rw [q] at e0; cases e0
            rw [List.getLast?_append] at q2
            cases q3 : (hits k x R).getLast? with
            | none => exact absurd (List.getLast?_eq_none_iff.1 q3) hne
            | some w => rw [q3] at q2; simpa using q2
          simp at q1; subst q1
          rw [hon]
          have a1 := A1 _ _ e0 hz p hp
          have a2 := A1 _ _ e0 hz c h3.symm
          rw [e1] at a1 a2
          have a3 := (a2.1 fo).2
          rw [a1]
          simp only [leO_some, decide_eq_true_eq]
          constructor
          · rintro (⟨h5, _, _⟩ | ⟨h5, h6⟩)
            · exact ⟨by omega, by rw [h5]; exact a3⟩
            · exact ⟨h5, h6⟩
          · rintro ⟨h5, h6⟩
            exact .inr ⟨h5, h6⟩
        · have eh : hit k x ⟨k, across k c, low.map (along k), some (along k c)⟩ = none := by
            have h4 : ¬ (x ≤ along k c) := by omega
            simp [hit, h4]
          rw [eh]
          show (hits k x R = [] → _) ∧ (∀ h z, (hits k x R).head? = some h → (hits k x R).getLast? = some z → _) ∧ _
          refine ⟨fun q p hp => offall p ?_, fun h z q1 q2 p hp => ?_, fun d e => ⟨fun q => by have := hlow d e; omega, fun q => by have := hlow d e; omega⟩⟩
          · rintro (⟨_, _, h5⟩ | h5)
            · omega
            · rw [A0 q p hp] at h5; cases h5
          · rw [hon, ← A1 h z q1 q2 p hp]
            constructor
            · rintro (⟨_, _, h5⟩ | h5)
              · omega
              · exact h5
            · exact .inr
    · have hk := ne_not hk
      subst hk
      have nb : ¬ ((!b) = b) := by cases b <;> decide
      simp only [across_not, along_not] at hon offall hlow ⊢
      have hl2 : low.map (along (!b)) = low.map (across b) := by
        cases low with
        | none => rfl
        | some d => simp [along_not]
      rw [hl2] at hon offall ⊢
      by_cases h1 : along b c = x
      · have eh : hit b x ⟨!b, along b c, low.map (across b), some (across b c)⟩ = some (low.map (across b), some (across b c)) := by
          simp [hit, h1]
        rw [eh]
        obtain ⟨h0, e0, e1⟩ := B1 h1.symm
        refine ⟨fun q => (by cases q), fun h z q1 q2 p hp => ?_, fun d e => ⟨fun q => ⟨_, rfl, by rw [e]; rfl⟩, fun q => (by have := hlow d e; omega)⟩⟩
        have hz : (hits b x R).getLast? = some z := by
          have hne : hits b x R ≠ [] := fun q => by rw [q] at e0; cases e0
          rw [List.getLast?_append] at q2
          cases q3 : (hits b x R).getLast? with
          | none => exact absurd (List.getLast?_eq_none_iff.1 q3) hne
          | some w => rw [q3] at q2; simpa using q2
        simp at q1; subst q1
        rw [hon]
        have a1 := A1 _ _ e0 hz p hp
        have a2 := A1 _ _ e0 hz c h1
        rw [e1] at a1 a2
        have a3 := (a2.1 fo).2
        rw [geO_iff] at a3
        rw [a1]
        simp only [leO_some, decide_eq_true_eq]
        constructor
        · rintro (⟨_, h5, h6⟩ | ⟨h5, h6⟩)
          · refine ⟨leO_iff.2 fun j e => ?_, geO_iff.2 fun j e => ?_⟩
            · rw [Option.map_eq_some_iff] at e
              obtain ⟨d, e, rfl⟩ := e
              exact h5 d e
            · have := a3 j e; omega
          · refine ⟨leO_iff.2 fun j e => ?_, h6⟩
            rw [Option.map_eq_some_iff] at e
            obtain ⟨d, e, rfl⟩ := e
            have := hlow d e
            omega
        · rintro ⟨h5, h6⟩
          by_cases h7 : across b p ≤ across b c
          · refine .inl ⟨by rw [hp, h1], fun d e => leO_iff.1 h5 _ (by rw [e]; rfl), h7⟩
          · exact .inr ⟨by omega, h6⟩
      · have eh : hit b x ⟨!b, along b c, low.map (across b), some (across b c)⟩ = none := by
          simp [hit, h1]
        rw [eh]
        show (hits b x R = [] → _) ∧ (∀ h z, (hits b x R).head? = some h → (hits b x R).getLast? = some z → _) ∧ _
        refine ⟨fun q p hp => offall p ?_, fun h z q1 q2 p hp => ?_, fun d e => ⟨fun q => absurd ((hlow d e).1.symm.trans q.symm) h1, fun q => B2 (by have := (hlow d e).1; omega)⟩⟩
        · rintro (⟨h5, _, _⟩ | h5)
          · omega
          · rw [A0 q p hp] at h5; cases h5
        · rw [hon, ← A1 h z q1 q2 p hp]
          constructor
          · rintro (⟨h5, _, _⟩ | h5)
            · omega
            · exact h5
          · exact .inr
theorem rs_hits {b : Bool} {x B : Int} {r : Rs} (h : r.Ok B) :
    (hits b x r.pcs = [] → ∀ p, along b p = x → r.on p = false) ∧
    (∀ h z, (hits b x r.pcs).head? = some h → (hits b x r.pcs).getLast? = some z → ∀ p, along b p = x → (r.on p = true ↔ leO h.1 (across b p) = true ∧ geO z.2 (across b p) = true)) := by
  cases r with
  | bent k l =>
    obtain ⟨h1, h2, h3, h4⟩ := h
    obtain ⟨A0, A1, _⟩ := hits_spec (b := b) (x := x) (low := none) h4 (.inl h1) (fun c d e => by cases e)
    exact ⟨A0, A1⟩
  | level v =>
    cases b with
    | true =>
      have e : hits true x (Rs.level v).pcs = [(some v, some v)] := by simp [hits, hit, Rs.pcs]
      rw [e]
      refine ⟨fun q => (by cases q), fun h z q1 q2 p hp => ?_⟩
      simp at q1 q2; subst q1; subst q2
      simp [Rs.on, Rs.pcs, pc_on]
      omega
    | false =>
      by_cases q : v = x
      · have e : hits false x (Rs.level v).pcs = [(none, none)] := by simp [hits, hit, Rs.pcs, q]
        rw [e]
        refine ⟨fun q => (by cases q), fun h z q1 q2 p hp => ?_⟩
        simp at q1 q2 hp; subst q1; subst q2
        simp [Rs.on, Rs.pcs, pc_on]
        omega
      · have e : hits false x (Rs.level v).pcs = [] := by simp [hits, hit, Rs.pcs, q]
        rw [e]
        refine ⟨fun _ p hp => ?_, fun h z q1 => (by cases q1)⟩
        simp at hp
        have h2 : ¬ (p.2 = v) := by omega
        simp [Rs.on, Rs.pcs, Pc.on, h2]
  | plumb v =>
    cases b with
    | false =>
      have e : hits false x (Rs.plumb v).pcs = [(some v, some v)] := by simp [hits, hit, Rs.pcs]
      rw [e]
      refine ⟨fun q => (by cases q), fun h z q1 q2 p hp => ?_⟩
      simp at q1 q2; subst q1; subst q2
      simp [Rs.on, Rs.pcs, pc_on]
      omega
    | true =>
      by_cases q : v = x
      · have e : hits true x (Rs.plumb v).pcs = [(none, none)] := by simp [hits, hit, Rs.pcs, q]
        rw [e]
        refine ⟨fun q => (by cases q), fun h z q1 q2 p hp => ?_⟩
        simp at q1 q2 hp; subst q1; subst q2
        simp [Rs.on, Rs.pcs, pc_on]
        omega
      · have e : hits true x (Rs.plumb v).pcs = [] := by simp [hits, hit, Rs.pcs, q]
        rw [e]
        refine ⟨fun _ p hp => ?_, fun h z q1 => (by cases q1)⟩
        simp at hp
        have h2 : ¬ (p.1 = v) := by omega
        simp [Rs.on, Rs.pcs, Pc.on, h2]
/-- pieces by their first corners -/
def pcsP : Bool → List P2 → List Pc
  | _, [] => []
  | k, c :: l => ⟨k, across k c, some (along k c), l.head?.map (along k)⟩ :: pcsP (!k) l
theorem pcsP_eq : ∀ {l : List P2} {k : Bool} {c : P2}, Alt k (c :: l) → pcsP (!k) (c :: l) = pcsL (!k) (some c) l
  | [], k, c, _ => rfl
  | d :: l, k, c, h => by
    rw [pcsL_cons]
    show (⟨!k, across (!k) c, some (along (!k) c), some (along (!k) d)⟩ : Pc) :: pcsP (!!k) (d :: l) = _
    rw [pcsP_eq h.2, (Go.iff.1 h.1).1]
    rfl
def spanR (b : Bool) (l : List Pc) : Option Int × Option Int := (l.head?.bind fun c => if c.k = b then none else some c.a, l.getLast?.bind fun c => if c.k = b then none else some c.a)
def spanP (s : Option Int × Option Int) : PV := .tup [optP s.1, optP s.2]
@[simp] theorem isNn_optP {o : Option Int} : isNn (optP o) = some o.isNone := by cases o <;> exact (rfl)
@[simp] theorem isNn_optPt {o : Option P2} : isNn (optPt o) = some o.isNone := by cases o <;> exact (rfl)
theorem pcs_ne {r : Rs} {B : Int} (h : r.Ok B) : r.pcs ≠ [] := by
  cases r with
  | level v => simp [Rs.pcs]
  | plumb v => simp [Rs.pcs]
  | bent k l =>
    cases l with
    | nil => exact absurd rfl h.1
    | cons c l => show pcsL k none (c :: l) ≠ []; rw [pcsL_cons]; simp
theorem pcsL_end : ∀ {l : List P2} {k : Bool} {low : Option P2} {z : P2}, l.getLast? = some z → (pcsL k low l).getLast? = some ⟨kAt k l.length, across (kAt k l.length) z, some (along (kAt k l.length) z), none⟩
  | [], k, low, z, h => by cases h
  | [c], k, low, z, h => by
    simp at h; subst h
    rw [pcsL_cons]
    rfl
  | c :: d :: l, k, low, z, h => by
    have := pcsL_end (l := d :: l) (k := !k) (low := some c) (z := z) (by simpa using h)
    rw [pcsL_cons]
    have hne : pcsL (!k) (some c) (d :: l) ≠ [] := by rw [pcsL_cons]; simp
    rw [List.getLast?_cons_of_ne_nil hne, this, ← kAt_succ']
    rfl
@[simp] theorem tT_pt {is : List Nat} {p : P2} {e : En} : tT is (pt p) e = setAll is [.int p.1, .int p.2] e := (rfl)
@[simp] theorem pRev_tup {l : List PV} : pRev (.tup l) = some (.tup l.reverse) := (rfl)
@[simp] theorem pRev_lst {l : List PV} : pRev (.lst l) = some (.lst l.reverse) := (rfl)
@[simp] theorem mRev_ap {m : Mo PV} {e : En} : mRev m e = (m e).bind fun p e1 => lift (pRev p) e1 := (rfl)
end M

namespace M
open PySem PySem.Spec PyProof.Rows L2
/-! ### areas -/
@[simp] theorem not_eq_self {k : Bool} : ((!k) = k) = False := by cases k <;> simp
@[simp] theorem self_eq_not {k : Bool} : (k = (!k)) = False := by cases k <;> simp
/-- the chain's conditions -/
def Ch (k : Bool) (low : Option P2) (l : List P2) : Prop := Alt k l ∧ (l ≠ [] ∨ low ≠ none) ∧ ∀ c d, low = some c → l.head? = some d → Go k c d
theorem Ch.tail {k : Bool} {low : Option P2} {d : P2} {l : List P2} (h : Ch k low (d :: l)) : Ch (!k) (some d) l := by
  refine ⟨?_, .inr (by simp), fun a b h1 h2 => ?_⟩
  · cases l with
    | nil => trivial
    | cons e l => exact h.1.2
  · cases h1
    cases l with
    | nil => cases h2
    | cons e l => simp at h2; subst h2; exact h.1.1
theorem Ch.go {k : Bool} {c d : P2} {l : List P2} (h : Ch k (some c) (d :: l)) : across k c = across k d ∧ along k c < along k d := Go.iff.1 (h.2.2 c d rfl rfl)
theorem Ch.first {k : Bool} {c : P2} {l : List P2} (h : Ch k (some c) l) : ((pcsL k (some c) l).any fun z => z.on c) = true := first_on fun d e => h.2.2 c d rfl e
theorem along_le {k m : Bool} {c d : P2} (h : across k c = across k d ∧ along k c < along k d) : along m c ≤ along m d := by
  cases k <;> cases m <;> simp at * <;> omega
theorem on_ge : ∀ {l : List P2} {k m : Bool} {c p : P2}, Ch k (some c) l → ((pcsL k (some c) l).any fun z => z.on p) = true → along m c ≤ along m p
  | [], k, m, c, p, _, hp => by
    have e : pcsL k (some c) [] = [⟨k, across k c, some (along k c), none⟩] := rfl
    rw [e, List.any_cons, List.any_nil, Bool.or_false, pc_on] at hp
    have h2 := hp.2.1 _ rfl
    have h1 := hp.1
    cases k <;> cases m <;> simp at * <;> omega
  | d :: l, k, m, c, p, h, hp => by
    have g := h.go
    rw [pcsL_cons, List.any_cons, Bool.or_eq_true, pc_on] at hp
    rcases hp with ⟨h1, h2, -⟩ | hp
    · have h3 := h2 (along k c) rfl
      cases k <;> cases m <;> simp at * <;> omega
    · have := on_ge (m := m) h.tail hp
      have := along_le (m := m) g
      omega
/-- the last piece of a chain is not below its start -/
theorem last_ge : ∀ {l : List P2} {k : Bool} {c : P2} {z : Pc}, Ch k (some c) l → (pcsL k (some c) l).getLast? = some z → across z.k c ≤ z.a
  | [], k, c, z, _, hz => by
    have e : pcsL k (some c) [] = [⟨k, across k c, some (along k c), none⟩] := rfl
    rw [e] at hz
    simp at hz
    subst hz
    exact Int.le_refl _
  | d :: l, k, c, z, h, hz => by
    rw [pcsL_cons] at hz
    have hne : pcsL (!k) (some d) l ≠ [] := by cases l <;> simp [pcsL, pcsL_cons]
    rw [List.getLast?_cons_of_ne_nil hne] at hz
    have := last_ge h.tail hz
    have := along_le (m := !z.k) h.go
    rw [along_not, along_not] at this
    omega
theorem pcsL_ne {k : Bool} {c : P2} {l : List P2} : pcsL k (some c) l ≠ [] := by cases l <;> simp [pcsL, pcsL_cons]
theorem mk_pt (k : Bool) (s t : Int) : ∃ p : P2, along k p = s ∧ across k p = t := by
  cases k
  · exact ⟨(t, s), rfl, rfl⟩
  · exact ⟨(s, t), rfl, rfl⟩
/-! ### ranges, and what is on the rise -/
theorem on_le : ∀ {l : List P2} {k : Bool} {low : Option P2} {p : P2} {z : Pc}, Ch k low l → ((pcsL k low l).any fun z => z.on p) = true → (pcsL k low l).getLast? = some z → across z.k p ≤ z.a
  | [], k, low, p, z, h, hp, hz => by
    cases low with
    | none => have := h.2.1; simp at this
    | some c =>
      have e : pcsL k (some c) [] = [⟨k, across k c, some (along k c), none⟩] := rfl
      rw [e] at hz hp
      simp at hz
      subst hz
      rw [List.any_cons, List.any_nil, Bool.or_false, pc_on] at hp
      exact Int.le_of_eq hp.1
  | d :: l, k, low, p, z, h, hp, hz => by
    rw [pcsL_cons] at hz hp
    rw [List.getLast?_cons_of_ne_nil pcsL_ne] at hz
    rw [List.any_cons, Bool.or_eq_true, pc_on] at hp
    rcases hp with ⟨h1, -, h3⟩ | hp
    · have h4 := last_ge h.tail hz
      have h5 := h3 _ rfl
      by_cases zk : z.k = k
      · rw [zk] at h4 ⊢; omega
      · rw [ne_not zk, across_not] at h4 ⊢; omega
    · exact on_le h.tail hp hz
theorem bent_ch {B : Int} {k : Bool} {l : List P2} (h : (Rs.bent k l).Ok B) : Ch k none l := ⟨h.2.2.2, .inl h.1, fun c d e => by cases e⟩
def inB (r : Rs) (b : Bool) (s : Int) : Prop := (∀ i, (spanR b r.pcs).1 = some i → i ≤ s) ∧ ∀ i, (spanR b r.pcs).2 = some i → s ≤ i
theorem inB_conv {r : Rs} {b : Bool} {s t u : Int} (h1 : inB r b s) (h2 : inB r b u) (h3 : s ≤ t) (h4 : t ≤ u) : inB r b t := ⟨fun i e => by have := h1.1 i e; omega, fun i e => by have := h2.2 i e; omega⟩
/-- the ends of the ranges of a rise with corners -/
theorem bent_in {B : Int} {k b : Bool} {c : P2} {l : List P2} {s : Int} (h : (Rs.bent k (c :: l)).Ok B) : inB (Rs.bent k (c :: l)) b s ↔ (k ≠ b → across k c ≤ s) ∧ ∀ z, (pcsL k none (c :: l)).getLast? = some z → z.k ≠ b → s ≤ z.a := by
  obtain ⟨z, hz⟩ : ∃ z, (pcsL k none (c :: l)).getLast? = some z := ⟨_, List.getLast?_eq_some_getLast (by rw [pcsL_cons]; simp)⟩
  unfold inB spanR
  have ep : (Rs.bent k (c :: l)).pcs = pcsL k none (c :: l) := rfl
  have hh : (pcsL k none (c :: l)).head? = some ⟨k, across k c, none, some (along k c)⟩ := by rw [pcsL_cons]; rfl
  rw [ep, hz, hh]
  simp only [Option.bind_some]
  constructor
  · rintro ⟨h1, h2⟩
    exact ⟨fun q => h1 _ (if_neg q), fun z' e q => by cases e; exact h2 _ (if_neg q)⟩
  · rintro ⟨h1, h2⟩
    refine ⟨fun i e => ?_, fun i e => ?_⟩
    · by_cases q : k = b
      · rw [if_pos q] at e; cases e
      · rw [if_neg q] at e; cases e; exact h1 q
    · by_cases q : z.k = b
      · rw [if_pos q] at e; cases e
      · rw [if_neg q] at e; cases e; exact h2 z rfl q
theorem on_in {B : Int} {r : Rs} {b : Bool} {p : P2} (h : r.Ok B) (hp : r.on p = true) : inB r b (along b p) := by
  cases r with
  | level v =>
    simp [Rs.on, Rs.pcs, pc_on] at hp
    cases b <;> simp [inB, spanR, Rs.pcs] <;> omega
  | plumb v =>
    simp [Rs.on, Rs.pcs, pc_on] at hp
    cases b <;> simp [inB, spanR, Rs.pcs] <;> omega
  | bent k l =>
    cases l with
    | nil => exact absurd rfl h.1
    | cons c l =>
      have hc := bent_ch h
      refine (bent_in h).2 ⟨fun q => ?_, fun z hz q => ?_⟩
      · have hp : ((pcsL k none (c :: l)).any fun z => z.on p) = true := hp
        rw [pcsL_cons, List.any_cons, Bool.or_eq_true, pc_on] at hp
        have hb : b = !k := ne_not (Ne.symm q)
        subst hb
        rw [along_not]
        rcases hp with ⟨h1, -, -⟩ | hp
        · exact Int.le_of_eq h1.symm
        · have := on_ge (m := !k) hc.tail hp
          rw [along_not, along_not] at this
          exact this
      · have := on_le hc hp hz
        rw [ne_not q, across_not] at this
        exact this
theorem step_chain {b : Bool} : ∀ {l : List P2} {k : Bool} {low : Option P2} {s : Int}, Ch k low l → (∀ c, low = some c → along b c ≤ s) → (low = none → k ≠ b → ∀ e, l.head? = some e → along b e ≤ s) → (∀ z, (pcsL k low l).getLast? = some z → z.k ≠ b → s + 1 ≤ z.a) →
    ∃ p q : P2, along b p = s ∧ along b q = s + 1 ∧ across b p = across b q ∧ ((pcsL k low l).any fun z => z.on p) = true ∧ ((pcsL k low l).any fun z => z.on q) = true
  | [], k, low, s, h, h1, _, h3 => by
    cases low with
    | none => have := h.2.1; simp at this
    | some c =>
      have e : pcsL k (some c) [] = [⟨k, across k c, some (along k c), none⟩] := rfl
      have h4 := h1 c rfl
      by_cases q : k = b
      · subst q
        obtain ⟨p, p1, p2⟩ := mk_pt k s (across k c)
        obtain ⟨p', q1, q2⟩ := mk_pt k (s + 1) (across k c)
        refine ⟨p, p', p1, q1, p2.trans q2.symm, ?_, ?_⟩
        · rw [e, List.any_cons, List.any_nil, Bool.or_false, pc_on]
          exact ⟨p2, fun _ e => by cases e; omega, fun _ e => by cases e⟩
        · rw [e, List.any_cons, List.any_nil, Bool.or_false, pc_on]
          exact ⟨q2, fun _ e => by cases e; omega, fun _ e => by cases e⟩
      · have h5 : s + 1 ≤ across k c := h3 ⟨k, across k c, some (along k c), none⟩ (by rw [e]; rfl) q
        rw [ne_not q, across_not] at h5
        omega
  | e :: l, k, low, s, h, h1, h2, h3 => by
    by_cases hs : along b e ≤ s
    · obtain ⟨p, q, a1, a2, a3, a4, a5⟩ := step_chain (b := b) (s := s) h.tail (fun c x => by cases x; exact hs) (fun x => by cases x) (fun z hz => h3 z (by rw [pcsL_cons, List.getLast?_cons_of_ne_nil pcsL_ne]; exact hz))
      exact ⟨p, q, a1, a2, a3, by rw [pcsL_cons, List.any_cons, a4, Bool.or_true], by rw [pcsL_cons, List.any_cons, a5, Bool.or_true]⟩
    · have kb : k = b := by
        by_cases q : k = b
        · exact q
        · cases low with
          | none => exact absurd (h2 rfl q e rfl) hs
          | some c =>
            have g := h.go.1
            rw [ne_not q, across_not, across_not] at g
            have := h1 c rfl
            omega
      subst kb
      obtain ⟨p, p1, p2⟩ := mk_pt k s (across k e)
      obtain ⟨p', q1, q2⟩ := mk_pt k (s + 1) (across k e)
      have hlow : ∀ x, low.map (along k) = some x → x ≤ s := fun x q => by
        rw [Option.map_eq_some_iff] at q
        obtain ⟨c, q, rfl⟩ := q
        exact h1 c q
      refine ⟨p, p', p1, q1, p2.trans q2.symm, ?_, ?_⟩
      · rw [pcsL_cons, List.any_cons, Bool.or_eq_true, pc_on]
        exact .inl ⟨p2, fun x q => by have := hlow x q; omega, fun x q => by cases q; omega⟩
      · rw [pcsL_cons, List.any_cons, Bool.or_eq_true, pc_on]
        exact .inl ⟨q2, fun x q => by have := hlow x q; omega, fun x q => by cases q; omega⟩
/-- one step within the range goes along a piece -/
theorem step_on {B s : Int} {r : Rs} {b : Bool} (h : r.Ok B) (h1 : inB r b s) (h2 : inB r b (s + 1)) : ∃ p q : P2, along b p = s ∧ along b q = s + 1 ∧ across b p = across b q ∧ r.on p = true ∧ r.on q = true := by
  cases r with
  | level v =>
    cases b with
    | true => exact ⟨(s, v), (s + 1, v), rfl, rfl, rfl, by simp [Rs.on, Rs.pcs, pc_on], by simp [Rs.on, Rs.pcs, pc_on]⟩
    | false =>
      have := h1.1 v (by simp [spanR, Rs.pcs])
      have := h2.2 v (by simp [spanR, Rs.pcs])
      omega
  | plumb v =>
    cases b with
    | false => exact ⟨(v, s), (v, s + 1), rfl, rfl, rfl, by simp [Rs.on, Rs.pcs, pc_on], by simp [Rs.on, Rs.pcs, pc_on]⟩
    | true =>
      have := h1.1 v (by simp [spanR, Rs.pcs])
      have := h2.2 v (by simp [spanR, Rs.pcs])
      omega
  | bent k l =>
    cases l with
    | nil => exact absurd rfl h.1
    | cons c l =>
      obtain ⟨a1, -⟩ := (bent_in h).1 h1
      obtain ⟨-, a2⟩ := (bent_in h).1 h2
      exact step_chain (bent_ch h) (fun c e => by cases e) (fun _ q e he => by
        simp at he; subst he
        have := a1 q
        rw [show k = !b from ne_not q, across_not] at this
        exact this) a2
def anchor : Rs → P2
  | .level v => (0, v)
  | .plumb v => (v, 0)
  | .bent _ l => l.head?.getD (0, 0)
theorem anchor_on {B : Int} {r : Rs} (h : r.Ok B) : r.on (anchor r) = true := by
  cases r with
  | level v => simp [Rs.on, Rs.pcs, pc_on, anchor]
  | plumb v => simp [Rs.on, Rs.pcs, pc_on, anchor]
  | bent k l =>
    cases l with
    | nil => exact absurd rfl h.1
    | cons c l =>
      show ((pcsL k none (c :: l)).any fun z => z.on c) = true
      rw [pcsL_cons, List.any_cons, Bool.or_eq_true, pc_on]
      exact .inl ⟨rfl, fun x q => (by cases q), fun x q => by cases q; exact Int.le_refl _⟩
/-! ### work -/
/-! ### gaps -/
end M

namespace M
open PySem PySem.Spec PyProof.Rows L2
/-! ### pieces told by axes; all that goes with a number -/
def ax (k : Bool) : Int := if k = true then 0 else 1
@[simp] theorem ax_true : ax true = 0 := (rfl)
@[simp] theorem ax_false : ax false = 1 := (rfl)
@[simp] theorem ax_eq {a b : Bool} : (ax a = ax b) = (a = b) := by cases a <;> cases b <;> simp
theorem in_on {B s : Int} {r : Rs} {b : Bool} (h : r.Ok B) (hs : inB r b s) : ∃ p : P2, along b p = s ∧ r.on p = true := by
  by_cases h1 : inB r b (s + 1)
  · obtain ⟨p, q, a1, -, -, a4, -⟩ := step_on h hs h1
    exact ⟨p, a1, a4⟩
  by_cases h2 : inB r b (s - 1)
  · obtain ⟨p, q, -, a2, -, -, a5⟩ := step_on h h2 (by rw [Int.sub_add_cancel]; exact hs)
    exact ⟨q, by omega, a5⟩
  refine ⟨anchor r, ?_, anchor_on h⟩
  have ha := on_in (b := b) h (anchor_on h)
  rcases Int.lt_trichotomy (along b (anchor r)) s with q | q | q
  · exact absurd (inB_conv ha hs (t := s - 1) (by omega) (by omega)) h2
  · exact q
  · exact absurd (inB_conv hs ha (t := s + 1) (by omega) (by omega)) h1
theorem pcsL_wide : ∀ {l : List P2} {k : Bool} {low : Option P2}, Ch k low l → ∀ c ∈ pcsL k low l, ∀ u v, c.lo = some u → c.hi = some v → u ≤ v
  | [], k, low, h, c, hc, u, v, e1, e2 => by
    cases low with
    | none => simp [pcsL] at hc
    | some d => simp [pcsL] at hc; subst hc; cases e2
  | d :: l, k, low, h, c, hc, u, v, e1, e2 => by
    rw [pcsL_cons] at hc
    rcases List.mem_cons.1 hc with rfl | hc
    · cases e2
      cases low with
      | none => cases e1
      | some a => cases e1; have := h.go.2; omega
    · exact pcsL_wide h.tail c hc u v e1 e2
theorem pcs_wide {B : Int} {r : Rs} (h : r.Ok B) : ∀ c ∈ r.pcs, ∀ u v, c.lo = some u → c.hi = some v → u ≤ v := by
  cases r with
  | level v => simp [Rs.pcs]
  | plumb v => simp [Rs.pcs]
  | bent k l => exact pcsL_wide (bent_ch h)
theorem mid {lo hi : Option Int} (h : ∀ u v, lo = some u → hi = some v → u ≤ v) : ∃ t, leO lo t = true ∧ geO hi t = true := by
  cases lo with
  | none =>
    cases hi with
    | none => exact ⟨0, rfl, rfl⟩
    | some v => exact ⟨v, rfl, by simp⟩
  | some u =>
    refine ⟨u, by simp, ?_⟩
    cases hi with
    | none => rfl
    | some v => simpa using h u v rfl rfl
/-- what a hit tells is on -/
theorem hit_on {B s : Int} {b : Bool} {r : Rs} (h : r.Ok B) {t : Option Int × Option Int} (ht : t ∈ hits b s r.pcs) :
    (∀ u v, t.1 = some u → t.2 = some v → u ≤ v) ∧ ∀ p : P2, along b p = s → leO t.1 (across b p) = true → geO t.2 (across b p) = true → r.on p = true := by
  unfold hits at ht
  obtain ⟨c, hc, e⟩ := List.mem_filterMap.1 ht
  have hw := pcs_wide h c hc
  unfold hit at e
  split at e
  · rename_i q
    split at e
    · rename_i q2
      cases e
      refine ⟨fun u v e1 e2 => by cases e1; cases e2; exact Int.le_refl _, fun p hp h1 h2 => ?_⟩
      unfold Rs.on
      refine List.any_eq_true.2 ⟨c, hc, ?_⟩
      simp at h1 h2
      unfold Pc.on
      rw [q, hp, q2]
      simp; omega
    · cases e
  · rename_i q
    split at e
    · rename_i q2
      cases e
      refine ⟨hw, fun p hp h1 h2 => ?_⟩
      unfold Rs.on
      refine List.any_eq_true.2 ⟨c, hc, ?_⟩
      have q3 : c.k = !b := ne_not q
      unfold Pc.on
      rw [q3, across_not, along_not, hp, q2, h1, h2]
      simp
    · cases e
theorem hits_ne {B s : Int} {b : Bool} {r : Rs} (h : r.Ok B) : hits b s r.pcs ≠ [] ↔ inB r b s := by
  constructor
  · intro hn
    obtain ⟨t, ht⟩ := List.exists_mem_of_ne_nil _ hn
    obtain ⟨w, o⟩ := hit_on h ht
    obtain ⟨y, y1, y2⟩ := mid w
    obtain ⟨p, p1, p2⟩ := mk_pt b s y
    have := on_in (b := b) h (o p p1 (by rw [p2]; exact y1) (by rw [p2]; exact y2))
    rw [p1] at this
    exact this
  · intro hi hn
    obtain ⟨p, p1, p2⟩ := in_on h hi
    have := (rs_hits h).1 hn p p1
    rw [this] at p2; cases p2
/-- the first one has the least of all, the last one the most -/
theorem hits_ends {B s : Int} {b : Bool} {r : Rs} (h : r.Ok B) {t0 t1 : Option Int × Option Int} (h0 : (hits b s r.pcs).head? = some t0) (h1 : (hits b s r.pcs).getLast? = some t1) :
    (∀ v, t0.1 = some v → ∀ t ∈ hits b s r.pcs, ∃ w, t.1 = some w ∧ v ≤ w) ∧ (∀ v, t1.2 = some v → ∀ t ∈ hits b s r.pcs, ∃ w, t.2 = some w ∧ w ≤ v) ∧ ∀ u v, t0.1 = some u → t1.2 = some v → u ≤ v := by
  have A := (rs_hits (b := b) (x := s) h).2 t0 t1 h0 h1
  have key : ∀ t ∈ hits b s r.pcs, ∀ y, leO t.1 y = true → geO t.2 y = true → leO t0.1 y = true ∧ geO t1.2 y = true := fun t ht y y1 y2 => by
    obtain ⟨p, p1, p2⟩ := mk_pt b s y
    have o := (hit_on h ht).2 p p1 (by rw [p2]; exact y1) (by rw [p2]; exact y2)
    have := (A p p1).1 o
    rw [p2] at this
    exact this
  refine ⟨fun v e t ht => ?_, fun v e t ht => ?_, fun u v e1 e2 => ?_⟩
  · obtain ⟨w, -⟩ := hit_on h ht
    obtain ⟨lo, hi⟩ := t
    cases lo with
    | some u =>
      refine ⟨u, rfl, ?_⟩
      have := (key _ ht u (by simp) (by cases hi with | none => rfl | some z => simpa using w u z rfl rfl)).1
      rw [e] at this
      simpa using this
    | none =>
      exfalso
      cases hi with
      | none =>
        have := (key _ ht (v - 1) rfl rfl).1
        rw [e] at this; simp at this; omega
      | some z =>
        have := (key _ ht (min (v - 1) z) rfl (by simp; omega)).1
        rw [e] at this; simp at this; omega
  · obtain ⟨w, -⟩ := hit_on h ht
    obtain ⟨lo, hi⟩ := t
    cases hi with
    | some u =>
      refine ⟨u, rfl, ?_⟩
      have := (key _ ht u (by cases lo with | none => rfl | some z => simpa using w z u rfl rfl) (by simp)).2
      rw [e] at this
      simpa using this
    | none =>
      exfalso
      cases lo with
      | none =>
        have := (key _ ht (v + 1) rfl rfl).2
        rw [e] at this; simp at this; omega
      | some z =>
        have := (key _ ht (max (v + 1) z) (by simp; omega) rfl).2
        rw [e] at this; simp at this; omega
  · have ht : t0 ∈ hits b s r.pcs := List.mem_of_mem_head? h0
    obtain ⟨w, -⟩ := hit_on h ht
    obtain ⟨y, y1, y2⟩ := mid w
    obtain ⟨z1, z2⟩ := key _ ht y y1 y2
    rw [e1] at z1; rw [e2] at z2
    simp at z1 z2; omega
/-- the range across a number -/
def accO (b : Bool) (s : Int) (r : Rs) : Option (Option Int × Option Int) := match (hits b s r.pcs).head?, (hits b s r.pcs).getLast? with
  | some h, some z => some (h.1, z.2)
  | _, _ => none
def optS : Option (Option Int × Option Int) → PV
  | none => .non
  | some s => spanP s
@[simp] theorem optS_none : optS none = .non := (rfl)
@[simp] theorem optS_some {s : Option Int × Option Int} : optS (some s) = spanP s := (rfl)
theorem accO_none {B s : Int} {b : Bool} {r : Rs} (h : r.Ok B) : accO b s r = none ↔ ¬ inB r b s := by
  rw [← hits_ne h]
  unfold accO
  cases hits b s r.pcs with
  | nil => simp
  | cons a l => simp [List.getLast?_cons]
theorem accO_on {B s : Int} {b : Bool} {r : Rs} (h : r.Ok B) {t : Option Int × Option Int} (e : accO b s r = some t) :
    (∀ p, along b p = s → (r.on p = true ↔ leO t.1 (across b p) = true ∧ geO t.2 (across b p) = true)) ∧ ∀ u v, t.1 = some u → t.2 = some v → u ≤ v := by
  unfold accO at e
  cases h0 : (hits b s r.pcs).head? with
  | none => rw [h0] at e; cases e
  | some t0 =>
    cases h1 : (hits b s r.pcs).getLast? with
    | none => rw [h0, h1] at e; cases e
    | some t1 =>
      rw [h0, h1] at e; cases e
      exact ⟨(rs_hits h).2 t0 t1 h0 h1, (hits_ends h h0 h1).2.2⟩
/-! ### areas -/
/-! ### comprehensions over told things -/
theorem lcG {α : Type} {own : List Nat} {f : PV → En → Option En} {mt : Mo Bool} {me : Mo PV} {e : En} (G : α → PV) (F : α → Option PV) : ∀ {l : List α} {acc : List PV}, acc.length + l.length ≤ 16777216 →
    (∀ a ∈ l, ∃ e1, f (G a) (wipeE e own) = some e1 ∧ ((F a = none ∧ ∃ e2, mt e1 = .ok false e2 ∧ restE own e e2 = e) ∨ (∃ q, F a = some q ∧ ∃ e2 e3, mt e1 = .ok true e2 ∧ me e2 = .ok q e3 ∧ restE own e e3 = e))) →
    lcLoop own f mt me (l.map G) acc e = .ok (.lst (acc ++ l.filterMap F)) e
  | [], acc, _, _ => by simp [lcLoop]
  | a :: l, acc, hl, h => by
    obtain ⟨e1, h1, h2⟩ := h a List.mem_cons_self
    have ih : ∀ {acc : List PV}, acc.length + l.length ≤ 16777216 → lcLoop own f mt me (l.map G) acc e = .ok (.lst (acc ++ l.filterMap F)) e := fun hl => lcG G F hl fun q hq => h q (List.mem_cons_of_mem _ hq)
    simp only [List.length_cons] at hl
    rw [List.map_cons]
    unfold lcLoop
    simp only [h1]
    rcases h2 with ⟨h2, e2, h3, h4⟩ | ⟨q, h2, e2, e3, h3, h4, h5⟩
    · simp only [h3, h4]
      rw [ih (by omega), List.filterMap_cons_none h2]
    · simp only [h3, h4, h5]
      rw [if_pos (line_gt (by omega)), ih (by simp; omega), List.filterMap_cons_some h2]
      simp
theorem lc_fil {α : Type} {own : List Nat} {f : PV → En → Option En} {mt : Mo Bool} {me : Mo PV} {e : En} (G : α → PV) (F : α → Option PV) {l : List α} (hl : l.length ≤ 16777216)
    (h : ∀ a ∈ l, ∃ e1, f (G a) (wipeE e own) = some e1 ∧ ((F a = none ∧ ∃ e2, mt e1 = .ok false e2 ∧ restE own e e2 = e) ∨ (∃ q, F a = some q ∧ ∃ e2 e3, mt e1 = .ok true e2 ∧ me e2 = .ok q e3 ∧ restE own e e3 = e))) :
    lcLoop own f mt me (l.map G) [] e = .ok (.lst (l.filterMap F)) e := by
  rw [lcG G F (by simpa using hl) h]; rfl
/-! ### least and greatest of told ends -/
theorem inD_none {l : List (Option Int)} : inD .non (.lst (l.map optP)) = some (decide (none ∈ l)) := by
  have ht : ∀ l : List (Option Int), toDs (l.map optP) = some (l.map fun o => match o with | none => .none | some i => .int i) := by
    intro l
    induction l with
    | nil => rfl
    | cons o l ih => cases o <;> simp [toDs, toD, ih]
  have hs : ∀ l : List (Option Int), PyData.canLayAll0 (l.map fun o => match o with | none => PyData.none | some i => .int i) = true ∧ PyData.depthAll (l.map fun o => match o with | none => PyData.none | some i => .int i) = 0 := by
    intro l
    induction l with
    | nil => exact ⟨rfl, rfl⟩
    | cons o l ih => cases o <;> simp [PyData.canLayAll0, PyData.canLay0, PyData.depthAll, PyData.depth, ih]
  unfold inD
  have e1 : toD .non = some .none := by simp [toD]
  have e2 : toD (.lst (l.map optP)) = some (.list (l.map fun o => match o with | none => PyData.none | some i => .int i)) := by simp [toD, ht]
  simp only [e1, e2]
  have s1 : SeqAt.shaped PyData.none = true := by decide +kernel
  have s2 : SeqAt.shaped (.list (l.map fun o => match o with | none => PyData.none | some i => .int i)) = true := by
    unfold SeqAt.shaped
    simp [PyData.canLay0, PyData.depth, hs]
  rw [s1, s2]
  simp only [Bool.and_self, if_true, Option.some.injEq]
  clear e1 e2 s1 s2 ht hs
  induction l with
  | nil => rfl
  | cons o l ih =>
    rw [List.map_cons, List.any_cons, ih]
    cases o <;> simp [PyData.eqv]
end M

namespace M
open PySem PySem.Spec PyProof.Rows L2
section
variable {X : Cx} {F : Fm} {ow ow' ow1 ow2 ob : List Nat} {σ σ1 σ2 : L2.St} {H H1 H2 : Hp}
/-- x.extend(e), e a list -/
def mExt (i : Nat) (m : Mo PV) : Mo PV := fun e => match e[i]? with
  | some (some (.lst _)) => (m e).bind fun p e1 => match p with
    | .lst k => match e1[i]? with
      | some (some (.lst l)) => if l.length + k.length ≤ sizeLine then .ok .non (e1.set i (some (.lst (l ++ k)))) else .bad
      | _ => .bad
    | _ => .bad
  | _ => .bad
def extO (p q : PV) (i : Nat) (e : En) : Out PV := match p, q with
  | .lst l, .lst k => if l.length + k.length ≤ sizeLine then .ok .non (e.set i (some (.lst (l ++ k)))) else .bad
  | _, _ => .bad
@[simp] theorem extO_lst {l k : List PV} {i : Nat} {e : En} : extO (.lst l) (.lst k) i e = if l.length + k.length ≤ sizeLine then .ok .non (e.set i (some (.lst (l ++ k)))) else .bad := (rfl)
@[simp] theorem mExt_ap {i : Nat} {m : Mo PV} {e : En} : mExt i m e = getE e[i]? fun p0 => isLst p0 ((m e).bind fun p e1 => getE e1[i]? fun q => extO q p i e1) := by
  unfold mExt getE isLst
  cases h : e[i]? with
  | none => rfl
  | some o =>
    cases o with
    | none => rfl
    | some p0 =>
      cases p0 <;> first | rfl | skip
      dsimp only
      congr 1
      funext p e1
      cases p <;> (cases h2 : e1[i]? with
        | none => rfl
        | some o2 => cases o2 with
          | none => rfl
          | some q => cases q <;> rfl)
end
theorem gMax_is {l : List Int} {v : Int} (h : v ∈ l) (hm : ∀ i ∈ l, i ≤ v) : gMax [.lst (l.map .int)] = some (.int v) := by
  cases l with
  | nil => cases h
  | cons n l =>
    have e : gMax [.lst ((n :: l).map .int)] = some (.int (maxI n l)) := by
      show (match toIs ((n :: l).map .int) with | some (n :: ns) => some (PV.int (maxI n ns)) | _ => none) = _
      rw [toIs_map]
    rw [e]
    obtain ⟨h1, h2, h3⟩ := maxI_spec l n
    congr 2
    have a : maxI n l ≤ v := by
      rcases h1 with h1 | h1
      · rw [h1]; exact hm n (by simp)
      · exact hm _ (List.mem_cons_of_mem _ h1)
    have b : v ≤ maxI n l := by
      rcases List.mem_cons.1 h with rfl | h
      · exact h2
      · exact h3 v h
    omega
theorem gMin_is {l : List Int} {v : Int} (h : v ∈ l) (hm : ∀ i ∈ l, v ≤ i) : gMin [.lst (l.map .int)] = some (.int v) := by
  cases l with
  | nil => cases h
  | cons n l =>
    have e : gMin [.lst ((n :: l).map .int)] = some (.int (minI n l)) := by
      show (match toIs ((n :: l).map .int) with | some (n :: ns) => some (PV.int (minI n ns)) | _ => none) = _
      rw [toIs_map]
    rw [e]
    obtain ⟨h1, h2, h3⟩ := minI_spec l n
    congr 2
    have a : v ≤ minI n l := by
      rcases h1 with h1 | h1
      · rw [h1]; exact hm n (by simp)
      · exact hm _ (List.mem_cons_of_mem _ h1)
    have b : minI n l ≤ v := by
      rcases List.mem_cons.1 h with rfl | h
      · exact h2
      · exact h3 v h
    omega
theorem pcs_len {r : Rs} {B : Int} (h : r.Ok B) : r.pcs.length ≤ 401 := by
  have key : ∀ (l : List P2) (k : Bool) (low : Option P2), (pcsL k low l).length ≤ l.length + 1 := by
    intro l
    induction l with
    | nil => intro k low; cases low <;> simp [pcsL]
    | cons c l ih => intro k low; rw [pcsL_cons]; simp; exact ih _ _
  cases r with
  | level v => simp [Rs.pcs]
  | plumb v => simp [Rs.pcs]
  | bent k l =>
    have := key l k none
    have := h.2.1
    show (pcsL k none l).length ≤ 401
    omega
@[simp] theorem dcallO_5 {mf : List PV → Out PV} {e : En} {i : Nat} {a b d g : PV} : dcallO 5 mf [.o i, .v a, .v b, .v d, .v g] e = getE e[i]? fun c => putI (out0 mf [c, a, b, d, g]) i e := (rfl)
@[simp] theorem dcallO_6 {mf : List PV → Out PV} {e : En} {i : Nat} {a b d g h : PV} : dcallO 6 mf [.o i, .v a, .v b, .v d, .v g, .v h] e = getE e[i]? fun c => putI (out0 mf [c, a, b, d, g, h]) i e := (rfl)
@[simp] theorem dcall5 {mf : List PV → Out PV} {e : En} {a b c d g : PV} : dcall 5 mf [.v a, .v b, .v c, .v d, .v g] e = lift (outV mf [a, b, c, d, g]) e := (rfl)
end M

namespace M
open PySem PySem.Spec PyProof.Rows L2
/-! ### l[::k] -/
def ixs (n : Nat) (k : Int) : List Nat := sliceRange (sliceBounds none none (some k) n).1 (sliceBounds none none (some k) n).2.1 (sliceBounds none none (some k) n).2.2
def stepL {α : Type} (k : Int) (l : List α) : List α := (ixs l.length k).filterMap (l[·]?)
theorem RVs.pick {S : Se} {H : Hp} {O : Addr → Prop} {vs : List V} {l : List PV} (r : RVs S H O vs l) : ∀ is : List Nat, RVs S H O (is.filterMap (vs[·]?)) (is.filterMap (l[·]?))
  | [] => .nil
  | i :: is => by
    cases h : l[i]? with
    | none =>
      have h2 : vs[i]? = none := by
        rw [List.getElem?_eq_none_iff] at *
        rw [r.length]; exact h
      rw [List.filterMap_cons_none (f := (vs[·]?)) h2, List.filterMap_cons_none (f := (l[·]?)) h]
      exact RVs.pick r is
    | some p =>
      obtain ⟨v, h2, rv⟩ := r.get h
      rw [List.filterMap_cons_some (f := (vs[·]?)) h2, List.filterMap_cons_some (f := (l[·]?)) h]
      exact .cons rv (RVs.pick r is)
theorem RVs.step {S : Se} {H : Hp} {O : Addr → Prop} {vs : List V} {l : List PV} (r : RVs S H O vs l) (k : Int) : RVs S H O (stepL k vs) (stepL k l) := by
  unfold stepL
  rw [r.length]
  exact r.pick _
section
variable {X : Cx} {F : Fm} {ow ow' ow1 ow2 ob : List Nat}
def pStp (k : Int) : PV → Option PV
  | .lst l => if (stepL k l).length ≤ sizeLine then some (.lst (stepL k l)) else none
  | .fz l => if (stepL k l).length ≤ sizeLine then some (.lst (stepL k l)) else none
  | _ => none
def mStp (k : Int) (m : Mo PV) : Mo PV := fun e => (m e).bind fun p e1 => lift (pStp k p) e1
end
@[simp] theorem mStp_ap {k : Int} {m : Mo PV} {e : En} : mStp k m e = (m e).bind fun p e1 => lift (pStp k p) e1 := (rfl)
/-! ### own defs as values -/
section
variable {X : Cx} {F : Fm} {ow : List Nat}
/-- a table of own defs of n arguments, none of which is changed -/
structure DnT (P : Program) (w : World) (K : PySem.W.Frag) (mg : Str → Option Value) (T : Tt) (base : Heap) (CX : CXT) (k n : Nat) (tb : Str → Option (List PV → Out PV)) : Prop where
  at_ : ∀ x mf, tb x = some mf → ∃ j, j ≤ k ∧ Dn P w K mg T base CX x j n [] mf
def tbNil : Str → Option (List PV → Out PV) := fun _ => none
def tbCons (y : Str) (mf : List PV → Out PV) (tb : Str → Option (List PV → Out PV)) : Str → Option (List PV → Out PV) := fun x => if x = y then some mf else tb x
@[simp] theorem tbCons_ap {x y : Str} {mf : List PV → Out PV} {tb : Str → Option (List PV → Out PV)} : tbCons y mf tb x = if x = y then some mf else tb x := (rfl)
@[simp] theorem tbNil_ap {x : Str} : tbNil x = none := (rfl)
/-- f(e, ..), f a local name that holds one of them -/
def mDefV (i n : Nat) (tb : Str → Option (List PV → Out PV)) (ml : Mo (List Ar)) : Mo PV := fun e => match e[i]? with
  | some (some (.gl x)) => match tb x with
    | some mf => mDef n [] mf ml e
    | none => .bad
  | _ => .bad
def getF (p : PV) (tb : Str → Option (List PV → Out PV)) (f : (List PV → Out PV) → Out PV) : Out PV := match p with
  | .gl x => match tb x with
    | some mf => f mf
    | none => .bad
  | _ => .bad
@[simp] theorem mDefV_ap {i n : Nat} {tb : Str → Option (List PV → Out PV)} {ml : Mo (List Ar)} {e : En} : mDefV i n tb ml e = getE e[i]? fun p => getF p tb fun mf => mDef n [] mf ml e := by
  unfold mDefV getE getF
  cases e[i]? with
  | none => rfl
  | some o =>
    cases o with
    | none => rfl
    | some p => cases p <;> rfl
end
/-! ### a, b, .. = a tuple or a list -/
def seqOf : PV → Option (List PV)
  | .tup l => some l
  | .lst l => some l
  | .fz l => some l
  | _ => none
section
variable {X : Cx} {F : Fm} {ow ow' ow1 ow2 ob : List Nat}
def tS (is : List Nat) : PV → En → Option En := fun p e => (seqOf p).bind fun l => setAll is l e
def mUnpS (is : List Nat) (m : Mo PV) : Ms := fun e => SOut.of (m e) fun p e1 => match tS is p e1 with
  | some e2 => .nxt e2
  | none => .bad
@[simp] theorem tS_tup {is : List Nat} {l : List PV} {e : En} : tS is (.tup l) e = setAll is l e := (rfl)
@[simp] theorem tS_lst {is : List Nat} {l : List PV} {e : En} : tS is (.lst l) e = setAll is l e := (rfl)
@[simp] theorem mUnpS_ap {is : List Nat} {m : Mo PV} {e : En} : mUnpS is m e = SOut.of (m e) fun p e1 => nxtO (tS is p e1) := by
  unfold mUnpS nxtO; rfl
end
end M

namespace M
open PySem PySem.Spec PyProof.Rows L2
/-! ### ranges by pieces -/
theorem piece_on {r : Rs} {c : Pc} {p : P2} (hc : c ∈ r.pcs) (h1 : across c.k p = c.a) (h2 : leO c.lo (along c.k p) = true) (h3 : geO c.hi (along c.k p) = true) : r.on p = true := by
  unfold Rs.on
  refine List.any_eq_true.2 ⟨c, hc, ?_⟩
  unfold Pc.on
  rw [h1, h2, h3]; simp
def endOf (b : Bool) (c : Pc) : Option Int × Option Int := if c.k = b then (c.lo, c.hi) else (some c.a, some c.a)
theorem end_on {B : Int} {r : Rs} {b : Bool} {c : Pc} (h : r.Ok B) (hc : c ∈ r.pcs) : (∀ u v, (endOf b c).1 = some u → (endOf b c).2 = some v → u ≤ v) ∧ ∀ y, leO (endOf b c).1 y = true → geO (endOf b c).2 y = true → inB r b y := by
  have w := pcs_wide h c hc
  unfold endOf
  by_cases q : c.k = b
  · rw [if_pos q]
    refine ⟨w, fun y h1 h2 => ?_⟩
    obtain ⟨p, p1, p2⟩ := mk_pt b y c.a
    have := on_in (b := b) h (piece_on (p := p) hc (by rw [q]; exact p2) (by rw [q, p1]; exact h1) (by rw [q, p1]; exact h2))
    rw [p1] at this; exact this
  · rw [if_neg q]
    refine ⟨fun u v e1 e2 => by cases e1; cases e2; exact Int.le_refl _, fun y h1 h2 => ?_⟩
    obtain ⟨t, t1, t2⟩ := mid w
    obtain ⟨p, p1, p2⟩ := mk_pt c.k t c.a
    have := on_in (b := b) h (piece_on (p := p) hc p2 (by rw [p1]; exact t1) (by rw [p1]; exact t2))
    have e : along b p = y := by
      have q2 : b = !c.k := ne_not (fun z => q z.symm)
      rw [q2, along_not, p2]
      simp at h1 h2; omega
    rw [e] at this; exact this
theorem pcs_head {B : Int} {r : Rs} (h : r.Ok B) : ∃ c L, r.pcs = c :: L ∧ c.lo = none := by
  cases r with
  | level v => exact ⟨_, _, rfl, rfl⟩
  | plumb v => exact ⟨_, _, rfl, rfl⟩
  | bent k l =>
    cases l with
    | nil => exact absurd rfl h.1
    | cons d l => exact ⟨_, _, pcsL_cons, rfl⟩
theorem pcs_last {B : Int} {r : Rs} (h : r.Ok B) : ∃ L c, r.pcs = L ++ [c] ∧ c.hi = none := by
  cases r with
  | level v => exact ⟨[], _, rfl, rfl⟩
  | plumb v => exact ⟨[], _, rfl, rfl⟩
  | bent k l =>
    have hz := pcsL_end (k := k) (low := none) (List.getLast?_eq_some_getLast h.1)
    obtain ⟨L, e⟩ := List.getLast?_eq_some_iff.1 hz
    exact ⟨L, _, e, rfl⟩
theorem ends_spec {B : Int} {r : Rs} {b : Bool} (h : r.Ok B) :
    (∃ t ∈ r.pcs.map (endOf b), t.1 = (spanR b r.pcs).1) ∧ (∀ v, (spanR b r.pcs).1 = some v → ∀ t ∈ r.pcs.map (endOf b), ∃ w, t.1 = some w ∧ v ≤ w) ∧
    (∃ t ∈ r.pcs.map (endOf b), t.2 = (spanR b r.pcs).2) ∧ (∀ v, (spanR b r.pcs).2 = some v → ∀ t ∈ r.pcs.map (endOf b), ∃ w, t.2 = some w ∧ w ≤ v) := by
  refine ⟨?_, fun v e t ht => ?_, ?_, fun v e t ht => ?_⟩
  · obtain ⟨c, L, e, hlo⟩ := pcs_head h
    refine ⟨endOf b c, List.mem_map.2 ⟨c, by rw [e]; simp, rfl⟩, ?_⟩
    unfold spanR endOf
    rw [e]
    by_cases q : c.k = b <;> simp [q, hlo]
  · obtain ⟨c, hc, rfl⟩ := List.mem_map.1 ht
    obtain ⟨w, o⟩ := end_on (b := b) h hc
    generalize endOf b c = t at *
    obtain ⟨lo, hi⟩ := t
    cases lo with
    | some u =>
      refine ⟨u, rfl, ?_⟩
      exact (o u (by simp) (by cases hi with | none => rfl | some z => simpa using w u z rfl rfl)).1 v e
    | none =>
      exfalso
      cases hi with
      | none => have := (o (v - 1) rfl rfl).1 v e; omega
      | some z => have := (o (min (v - 1) z) rfl (by simp; omega)).1 v e; omega
  · obtain ⟨L, c, e, hhi⟩ := pcs_last h
    refine ⟨endOf b c, List.mem_map.2 ⟨c, by rw [e]; simp, rfl⟩, ?_⟩
    unfold spanR endOf
    rw [e]
    by_cases q : c.k = b <;> simp [q, hhi]
  · obtain ⟨c, hc, rfl⟩ := List.mem_map.1 ht
    obtain ⟨w, o⟩ := end_on (b := b) h hc
    generalize endOf b c = t at *
    obtain ⟨lo, hi⟩ := t
    cases hi with
    | some u =>
      refine ⟨u, rfl, ?_⟩
      exact (o u (by cases lo with | none => rfl | some z => simpa using w z u rfl rfl) (by simp)).2 v e
    | none =>
      exfalso
      cases lo with
      | none => have := (o (v + 1) rfl rfl).2 v e; omega
      | some z => have := (o (max (v + 1) z) (by simp; omega) rfl).2 v e; omega
/-! ### how areas grow -/
/-! ### the lowest area -/
@[simp] theorem eqD_bl {a b : Bool} : eqD (.bl a) (.bl b) = some (decide (a = b)) := by cases a <;> cases b <;> decide +kernel
@[simp] theorem eqD_blN {a : Bool} : eqD (.bl a) .non = some false := by cases a <;> decide +kernel
@[simp] theorem eqD_Nbl {a : Bool} : eqD .non (.bl a) = some false := by cases a <;> decide +kernel
end M

namespace M
open PySem PySem.Spec PyProof.Rows L2
end M

namespace M
open PySem PySem.Spec PyProof.Rows L2

/-! ### defs that are only called while no repr is under way -/
structure FnG (P : Program) (w : World) (K : PySem.W.Frag) (mg : Str → Option Value) (base : Heap) (CX : CXT) (k : Nat) (f : Addr) (fd : FuncData) (ps : List Str) (sp : Sp) : Prop where
  len : ∀ vs H Q E, sp vs H Q E → vs.length = ps.length
  go : ∀ (A : Around) (outer : List Env) (s : Shared) (H : Hp) (args : Args) (us : List Value) (vs : List V) (Q : VK) (E : XK), Room k A → A.guards = some [] → Env0 P w K mg base A outer s H → BindsTo s fd args (ps.zip us) →
    Vals vs us → sp vs H Q E → codeAny (model P w) A (.call (.ref f) args) (CR CX outer P w H s Q E) s
theorem FnG.of {P : Program} {w : World} {K : PySem.W.Frag} {mg : Str → Option Value} {base : Heap} {CX : CXT} {k : Nat} {f : Addr} {fd : FuncData} {ps : List Str} {sp : Sp} (F : FnOk P w K mg base CX k f fd ps sp) : FnG P w K mg base CX k f fd ps sp :=
  ⟨F.len, fun A outer s H args us vs Q E hr _ => F.run A outer s H args us vs Q E hr⟩
section
variable {X : Cx} {F : Fm} {ow : List Nat}
structure DnG (P : Program) (w : World) (K : PySem.W.Frag) (mg : Str → Option Value) (T : Tt) (base : Heap) (CX : CXT) (x : Str) (k n : Nat) (io : List Nat) (mf : List PV → Out PV) : Prop where
  ex : ∃ f fd ps, FnG P w K mg base CX k f fd ps (spM ⟨K, mg, T⟩ n io mf) ∧ mg x = some (.ref f) ∧ PySem.W.keepIn K (.ref f) = true ∧ Binds K fd ps []

/-! ### repr, str of data -/

/-! ### {} -/
def mDict0 : Mo PV := fun e => .ok (.dK []) e
@[simp] theorem mDict0_ap {e : En} : mDict0 e = .ok (.dK []) e := (rfl)
end
end M

namespace M
open PySem PySem.Spec PyProof.Rows L2

/-! ### the law's call, from the head's heap: what is tracked there is the script and the empty tables -/
structure Top (K : PySem.W.Frag) (T : List Addr) (a : Addr) (oa : Obj) (xs : List V) (H : Hp) : Prop where
  tab : ∀ b ∈ T, H b = some (.tbl #[])
  only : ∀ b u, H b = some u → (b ∈ T ∧ u = .tbl #[]) ∨ (b = a ∧ u = .frz oa (.lst xs))
  scr : SqL K H a xs
  out : H a ≠ none → K.lookup a = none
section
variable {P : Program} {w : World} {K : PySem.W.Frag} {mg mb : Str → Option Value} {a : Addr} {xs : List V} {ws : List Value} {H : Hp} {z : Shared} {T : List Addr} {cs : List (Addr × Addr)}
abbrev scrO (ws : List Value) : Obj := { cls := .type "list", data := .seq ws.toArray }
abbrev tabO : Obj := { cls := .none, data := .fields #[] }
/-- what the top gives of the head's heap -/
structure Base (P : Program) (w : World) (K : PySem.W.Frag) (mg : Str → Option Value) (T : List Addr) (a : Addr) (ws : List Value) (z : Shared) : Prop where
  kin : K.In z.heap
  ns : z.heap.Ns mainGlobals mg
  bl : ∃ mb, z.heap.Ns builtinsNs mb ∧ ∀ x : Str, x ≠ "__name__" → mb x = bootBuiltins x
  lim : z.heap.NoLimit
  gens : z.gens = #[]
  scr : z.heap.get? a = some (scrO ws)
  tabs : ∀ b ∈ T, z.heap.get? b = some tabO
  nK : ∀ b ∈ T, K.lookup b = none
theorem Top.untracked (t : Top K T a (scrO ws) xs H) (B : Base P w K mg T a ws z) {b : Addr} {o : Obj} (e : z.heap.get? b = some o) (h1 : ∀ vs n, o.data ≠ .seq vs n) (h2 : o.data ≠ .fields #[]) : H b = none := by
  cases q : H b with
  | none => rfl
  | some u =>
    rcases t.only b u q with ⟨hb, -⟩ | ⟨hb, -⟩
    · have := B.tabs b hb
      rw [e] at this
      exact absurd (congrArg Obj.data (Option.some.inj this)) h2
    · subst hb
      have := B.scr
      rw [e] at this
      exact absurd (congrArg Obj.data (Option.some.inj this)) (h1 _ _)
theorem Top.nsT (t : Top K T a (scrO ws) xs H) (B : Base P w K mg T a ws z) {b : Addr} {m : Str → Option Value} (h : z.heap.Ns b m) : (hidT z.heap H).Ns b m := by
  obtain ⟨o, es, ep, e, d, r⟩ := h
  refine ⟨o, es, ep, hidT_get e (t.untracked B e (fun vs n q => ?_) fun q => ?_), d, r⟩
  · rw [d] at q; cases q
  · rw [d] at q; cases q
theorem Top.kinT (t : Top K T a (scrO ws) xs H) (B : Base P w K mg T a ws z) : K.In (hidT z.heap H) := fun b o e => by
  refine hidT_get (B.kin b o e) ?_
  cases q : H b with
  | none => rfl
  | some u =>
    rcases t.only b u q with ⟨hb, -⟩ | ⟨hb, -⟩
    · have := B.nK b hb
      rw [e] at this; cases this
    · subst hb
      have := t.out (by rw [q]; simp)
      rw [e] at this; cases this
theorem Top.hok (t : Top K T a (scrO ws) xs H) (B : Base P w K mg T a ws z) (rv : Vals xs ws) (hl : xs.length ≤ sizeLine) : HOk P w H z.heap := fun b u e => by
  rcases t.only b u e with ⟨hb, rfl⟩ | ⟨rfl, rfl⟩
  · exact B.tabs b hb
  · exact ⟨B.scr, hl, ws, _, rv, B.scr⟩
theorem Top.env (t : Top K T a (scrO ws) xs H) (B : Base P w K mg T a ws z) (rv : Vals xs ws) (hl : xs.length ≤ sizeLine) : Env0 P w K mg (hidT z.heap H) callerA [] z H := by
  obtain ⟨mb, b1, b2⟩ := B.bl
  obtain ⟨mc, c1, c2⟩ := B.lim
  exact { frames := rfl, mod := ⟨t.kinT B, t.nsT B B.ns, ⟨mb, t.nsT B b1, b2⟩, ⟨mc, t.nsT B c1, c2⟩⟩, bs := fun b o e => of_hidT e, bsz := Nat.le_of_eq (hidT_size _ _), funs := trivial, frf := fun b hb => (by cases hb), hok := t.hok B rv hl, bare := .of_eq B.gens }
/-- the maker's table, over the base -/
theorem Top.tabB (t : Top K T a (scrO ws) xs H) (B : Base P w K mg T a ws z) {c b : Addr} (hb : b ∈ T) (C : PySem.W.CodeHd z.heap c b)
    (bm : ∃ (m : Addr) (om : Obj), mg "__builtins__" = some (.ref m) ∧ m ≠ builtinsNs ∧ z.heap.get? m = some om ∧ om.cls = .type "module" ∧ om.dict = some builtinsNs ∧ om.data = .plain) : LamX.TabB (hidT z.heap H) mg c b := by
  have hT := B.tabs b hb
  have cd : PySem.W.CodeHd (hidT z.heap H) c b := by
    obtain ⟨o, us, file, tf, flags, tg, inF, text, tt, e1, r1, r2, r3, r⟩ := C
    refine ⟨o, us, file, tf, flags, tg, inF, text, tt, hidT_get e1 (t.untracked B e1 (fun vs n q => ?_) fun q => ?_), r1, r2, r3, r⟩
    · rw [r2] at q; cases q
    · rw [r2] at q; cases q; simp at r3
  have nG : mainGlobals ≠ b := fun q => by
    obtain ⟨o, es, ep, e, d, _⟩ := B.ns
    rw [q, hT] at e
    cases e
    cases d
  refine ⟨cd, ?_, nG⟩
  obtain ⟨m, om, b1, b2, b3, b4, b5, b6⟩ := bm
  refine ⟨m, om, b1, b2, fun q => ?_, fun q => ?_, hidT_get b3 (t.untracked B b3 (fun vs n q => ?_) fun q => ?_), b4, b5, b6⟩
  · obtain ⟨o, es, ep, e, d, _⟩ := B.ns
    rw [← q, b3] at e
    cases e
    rw [b6] at d
    cases d
  · rw [q, hT] at b3
    cases b3
    cases b6
  · rw [b6] at q; cases q
  · rw [b6] at q; cases q
/-- behind the call: what stood, stands; the tables may have grown -/
theorem Top.old (t : Top K T a (scrO ws) xs H) (B : Base P w K mg T a ws z) (ct : ∀ b ∈ T, isCodeTable z.heap b) {H' : Hp} {z' : Shared} (un : Un (frs []) [] H H' z.heap z'.heap) (hok : HOk P w H' z'.heap) : OldK z.heap z'.heap := by
  have grown : ∀ b ∈ T, ∃ more : Array Value, z'.heap.get? b = some { cls := .none, data := .fields more } := fun b hb => by
    obtain ⟨more, q⟩ := un.tbls b #[] (t.tab b hb)
    exact ⟨_, hok b _ q⟩
  have key : ∀ b o, b ∉ T → z.heap.get? b = some o → z'.heap.get? b = some o := fun b o nb e => by
    cases q : H b with
    | none => exact un.keep b o e q (by intro y; cases y) (by simp)
    | some u =>
      rcases t.only b u q with ⟨y, -⟩ | ⟨rfl, rfl⟩
      · exact absurd y nb
      · obtain ⟨e1, _⟩ := hok b _ (un.frzs b _ _ q)
        have := B.scr
        rw [e] at this
        cases this
        exact e1
  constructor
  · intro b o e
    by_cases hb : b ∈ T
    · obtain ⟨more, hm⟩ := grown b hb
      have e0 := B.tabs b hb
      rw [e] at e0
      cases e0
      refine .inr (.inl ⟨ct b hb, rfl, #[], more, rfl, ?_⟩)
      rw [Array.empty_append]
      exact hm
    · exact .inl (key b o hb e)
  · intro b o e
    by_cases hb : b ∈ T
    · obtain ⟨more, hm⟩ := grown b hb
      exact ⟨_, hm⟩
    · exact ⟨o, key b o hb e⟩
end
/-- the law's promise at the head's heap -/
structure LawG (l : PySem.W.OpenLaw) (w : World) (K : PySem.W.Frag) (k n : Nat) (x : Str) (mg : Str → Option Value) (fa : Addr) (h : Heap) : Prop where
  ex : ∃ (fd : FuncData) (cs : List (Addr × Addr)) (sp : Sp), (∀ p ∈ cs, h.get? p.2 = some tabO) ∧ (∀ p ∈ cs, K.lookup p.2 = none) ∧ (∀ p ∈ cs, PySem.W.CodeHd h p.1 p.2) ∧ (∀ (s : Shared) (u : Value), BindsTo s fd ⟨[u], []⟩ [(x, u)]) ∧
    (∀ (H : Hp) (a : Addr) (ns : List Int), ns.length ≤ n → (∀ p ∈ cs, H p.2 = some (.tbl #[])) → SqL K H a (ns.map V.int) → sp [.ref a] H (fun v _ => v = .bl true) fun _ _ _ => False) ∧
    ∀ base : Heap, K.In base → base.Ns mainGlobals mg → (∀ p ∈ cs, LamX.TabB base mg p.1 p.2) → FnG l.prog w K mg base CX0 k fa fd [x] sp
theorem law_callG {P : Program} {w : World} {K : PySem.W.Frag} {mg : Str → Option Value} {k : Nat} {fa a : Addr} {cs : List (Addr × Addr)} {fd : FuncData} {x : Str} {sp : Sp} {z : Shared} {ws : List Value} {ns : List Int}
    (B : Base P w K mg (cs.map (·.2)) a ws z) (C : ∀ p ∈ cs, PySem.W.CodeHd z.heap p.1 p.2)
    (bm : ∃ (m : Addr) (om : Obj), mg "__builtins__" = some (.ref m) ∧ m ≠ builtinsNs ∧ z.heap.get? m = some om ∧ om.cls = .type "module" ∧ om.dict = some builtinsNs ∧ om.data = .plain)
    (hi : IntsAre ws ns) (hl : ns.length ≤ sizeLine) (hr : Room k callerA)
    (F : ∀ base : Heap, K.In base → base.Ns mainGlobals mg → (∀ p ∈ cs, LamX.TabB base mg p.1 p.2) → FnG P w K mg base CX0 k fa fd [x] sp) (hb : ∀ (s : Shared) (u : Value), BindsTo s fd ⟨[u], []⟩ [(x, u)])
    (hsp : ∀ H : Hp, (∀ p ∈ cs, H p.2 = some (.tbl #[])) → SqL K H a (ns.map V.int) → sp [.ref a] H (fun v _ => v = .bl true) fun _ _ _ => False) :
    codeAny (model P w) callerA (.call (.ref fa) ⟨[.ref a], []⟩) (fun r s' => r = .ok (.ret (.bool true)) ∧ OldK z.heap s'.heap ∧ s'.os = z.os ∧ AllBare s'.gens) z := by
  have rv := vals_ints hi
  have hx : (ns.map V.int).length ≤ sizeLine := by rw [List.length_map]; exact hl
  have mem : ∀ p ∈ cs, p.2 ∈ cs.map (·.2) := fun p hp => List.mem_map.mpr ⟨p, hp, rfl⟩
  have ct : ∀ b ∈ cs.map (·.2), isCodeTable z.heap b := fun b hbm => by
    obtain ⟨p, hp, e⟩ := List.mem_map.mp hbm
    subst e
    exact ((C p hp).tab (B.tabs _ (mem p hp))).isCodeTable
  suffices key : ∃ H, Top K (cs.map (·.2)) a (scrO ws) (ns.map V.int) H by
    obtain ⟨H, t⟩ := key
    have TB : ∀ p ∈ cs, LamX.TabB (hidT z.heap H) mg p.1 p.2 := fun p hp => t.tabB B (mem p hp) (C p hp) bm
    have run := (F _ (t.kinT B) (t.nsT B B.ns) TB).go callerA [] z H ⟨[.ref a], []⟩ [.ref a] [.ref a] _ _ hr rfl (t.env B rv hx) (hb z (.ref a)) (.cons rfl .nil) (hsp H (fun p hp => t.tab _ (mem p hp)) t.scr)
    refine codeAny_mono run ?_
    rintro (er | fl) s' hq
    · exact hq.elim
    · match fl, hq with
      | .next, hq => exact hq.elim
      | .brk, hq => exact hq.elim
      | .cont, hq => exact hq.elim
      | .ret u, hq =>
        obtain ⟨v, H', os, bare, un, hok, ru, q⟩ := hq
        cases (show v = .bl true from q)
        cases (show u = Value.bool true from ru)
        exact ⟨rfl, t.old B ct un hok, os, bare⟩
  have aT : a ∉ cs.map (·.2) := fun q => by
    have := B.tabs a q
    rw [B.scr] at this
    have d : Data.seq ws.toArray _ = Data.fields #[] := congrArg Obj.data (Option.some.inj this)
    cases d
  cases hk : K.lookup a with
  | some o =>
    have e := B.kin a o hk
    rw [B.scr] at e
    cases e
    refine ⟨fun b => if b ∈ cs.map (·.2) then some (.tbl #[]) else none, fun b hb => if_pos hb, fun b u e => ?_, .inr ⟨_, ws.toArray, _, hk, rfl, rfl, rfl, ?_, by simpa using rv⟩, fun q => absurd (if_neg aT) q⟩
    · by_cases hb : b ∈ cs.map (·.2)
      · rw [if_pos hb] at e; cases e; exact .inl ⟨hb, rfl⟩
      · rw [if_neg hb] at e; cases e
    · rw [List.size_toArray, ← rv.length]; exact hx
  | none =>
    refine ⟨fun b => if b ∈ cs.map (·.2) then some (.tbl #[]) else if b = a then some (.frz (scrO ws) (.lst (ns.map V.int))) else none, fun b hb => if_pos hb, fun b u e => ?_, .inl (.inr ⟨scrO ws, ?_⟩), fun _ => hk⟩
    · by_cases hb : b ∈ cs.map (·.2)
      · rw [if_pos hb] at e; cases e; exact .inl ⟨hb, rfl⟩
      · rw [if_neg hb] at e
        by_cases hb2 : b = a
        · rw [if_pos hb2] at e; cases e; exact .inr ⟨hb2, rfl⟩
        · rw [if_neg hb2] at e; cases e
    · show (if a ∈ cs.map (·.2) then _ else if a = a then _ else _) = _
      rw [if_neg aT, if_pos rfl]
theorem walk_ofG {l : PySem.W.OpenLaw} {n k : Nat} {q : Program} {loose : List Str} {XP : (Str → Option Value) → Heap → Prop} {YP : World → Heap → Prop} {d : DefRec} {x : Str} (hn : l.most = some n) (hn2 : n ≤ sizeLine) (hdf : d.params.defaults = []) (hr : Room k callerA)
    (F : ∀ (w : World) (mg : Str → Option Value) (fa : Addr) (h : Heap), YP w h → h.Ns mainGlobals mg → mg d.name = some (.ref fa) → ∃ K : PySem.W.Frag, K.In h ∧ LawG l w K k n x mg fa h) :
    PySem.W.WalkO q loose XP YP l.row.toRowW d [] (fun f vs => PySem.call f vs) := by
  refine Att.attach_callB hn hdf ?_
  intro w z0 z mg mb fa o pm cd doc a vs ns G Y ho hd hcd hmg hobj hints hlen hbits hg
  obtain ⟨K, KX, ⟨fd, cs, sp, hT, nT, C, hb, hsp, hF⟩⟩ := F w mg fa _ Y G.T.g hmg
  have key : ∀ {p : Addr → Prop}, (∀ q ∈ cs, p q.2) → ∀ b ∈ cs.map (·.2), p b := fun {p} hp b hb => by
    obtain ⟨q, hq, e⟩ := List.mem_map.mp hb
    subst e
    exact hp q hq
  have B : Base l.prog w K mg (cs.map (·.2)) a vs z := ⟨KX, G.T.g, ⟨mb, G.T.b, G.T.builtins⟩, G.T.nolimit, hg, hobj, key hT, key nT⟩
  exact law_callG B C G.T.bmain hints (Nat.le_trans hlen hn2) hr hF hb fun H hH hS => hsp H a ns hlen hH hS
end M

namespace PySem.HandNew
/-! ### a class whose __new__ stands with a base of its base -/
structure NewOf (newId : String) (bmB : List Value) : Prop where
  ex : ∃ (O initId : String) (bmO : List Value), ExcBaseFacts O newId initId bmO ∧ bmB.contains (.type O) = true ∧ bmB.contains (.type "AttributeError") = false ∧ bmB.contains (.type "NameError") = false
theorem NewOf.of {B newId initId : String} {bmB : List Value} (F : ExcBaseFacts B newId initId bmB) : NewOf newId bmB := ⟨B, initId, bmB, F, F.hasB, F.noAttr, F.noName⟩
section
variable {prog : Program} {w : World} {A : Around} {R : Result → Shared → Prop} {h : Heap} {g : Array GenState} {d : Drawn} {t : Nat} {os : OsState}
variable {nm qn : Str} {C N : Addr} {bs bm bmO : List Value} {hdct : Bool} {sn : List Str} {sub : List Value} {ab : Bool} {col : Option Bool} {dd : Option Addr} {k0 k1 k2 k3 k5 : Option Value} {O newId initId : String}
end
end PySem.HandNew
namespace M
open PySem PySem.Spec PyProof.Rows L2 PySem.HandNew

/-! ### an own exception whose __init__ keeps its one argument -/
structure XG (K : PySem.W.Frag) (C fI : Addr) (f : Str) (newId : String) (bmB : List Value) : Prop where
  init : PySem.W.excInitIn K C bmB newId = true
  over : PySem.W.excOver K C bmB = true
  taker : PySem.W.takerIn K C f = some none
  hasd : PySem.W.hasDictIn K C = true
  sa : PySem.W.findIn K (.ref C) "__setattr__" = some (some (.builtin "object.__setattr__"))
  fi : PySem.W.findIn K (.ref C) "__init__" = some (some (.ref fI))
  ty : PySem.W.typeIn K (.ref fI) = some (.type "function")
  exC : PySem.W.subIn K (.ref C) (.type "BaseException") = some true
  tyC : PySem.W.typeIn K (.ref C) = some (.type "type")
  kC : PySem.W.keepIn K (.ref C) = true
section
variable {X : Cx} {pins : List (Addr × Obj)} {σ : L2.St} {H : Hp} {s : Shared} {A : Around} {E : Value → Shared → Prop} {C fI a : Addr} {f : Str} {B newId initId : String} {bmB : List Value}
end
end M

namespace M
open PySem PySem.Spec PyProof.Rows L2

/-! ### try: several clauses, some with a name for the exception -/
abbrev HTS := Addr → Value → Option Addr → TS
inductive HdMix (X : Cx) : List ExceptHandler → List (Value × Option Nat × HTS) → Prop
  | nil : HdMix X [] []
  | cons {x : Str} {c : Value} {i : Option Nat} {n : Option Str} {ts : HTS} {b : Stmt} {rest : List Stmt} {np hp : Pos} {hds : List ExceptHandler} {l : List (Value × Option Nat × HTS)} (hc : Names X x c)
      (hi : match i, n with | none, none => True | some j, some y => X.N[j]? = some y ∧ X.env.kindOf y = some .local | _, _ => False)
      (hb : ∀ (a : Addr) (oe : Obj) (cls : Value) (d : Option Addr) (pn : List (Addr × Obj)), Zc cls d oe → (∃ fs, oe.data = .fields fs) → PSs (X.suite a ((a, oe) :: pn)) (b :: rest) (ts a cls d)) (r : HdMix X hds l) :
      HdMix X (.ExceptHandler (some (.Name x np)) n (b :: rest) hp :: hds) ((c, i, ts) :: l)
section
variable {X : Cx} {pins : List (Addr × Obj)} {τ : L2.St} {G : Hp} {Wout : WX} {D : Ends} {a : Addr} {B : Heap} {z z1 : Shared} {h3 : Heap} {cls : Value} {d : Option Addr}
/-- the exception flies over the frame, its ground is B -/
structure Flown (X : Cx) (pins : List (Addr × Obj)) (τ : L2.St) (G : Hp) (a : Addr) (B : Heap) (z z1 : Shared) (h3 : Heap) (cls : Value) (d : Option Addr) : Prop where
  inv : Inv X pins τ G z
  nb : ∀ b o, z.heap.get? b = some o → b ∉ frs X.stack → B.get? b = some o
  up : z.heap.UpToSlots h3
  na : G a = none
  os : z1.os = z.os
  ag : AllBare z1.gens
  fl : HandSPX.FlyingZ B (X.env :: X.outer) a (Zc cls d) h3
theorem Flown.off (f : Flown X pins τ G a B z z1 h3 cls d) (hf : X.env.frame = some X.env.locals) : a ≠ X.env.locals ∧ a ∉ X.fs := by
  obtain ⟨oe, vs, he, hz, hd⟩ := f.fl.there
  have key : a ∉ frs (X.env :: X.outer) := fun hm => by
    obtain ⟨_, o2, e2, q⟩ := (f.fl.2.2.1).mem hm
    rw [he] at e2
    cases e2
    exact q _ hd
  refine ⟨fun e => key (List.mem_filterMap.mpr ⟨X.env, List.mem_cons_self, by rw [hf, e]⟩), fun hm => key ?_⟩
  obtain ⟨e, h1, h2⟩ := List.mem_filterMap.mp hm
  exact List.mem_filterMap.mpr ⟨e, List.mem_cons_of_mem _ h1, h2⟩
end
end M

namespace M
open PySem PySem.Spec PyProof.Rows L2

/-! ### raise -/
section
variable {X : Cx} {F : Fm} {ow ow' ob : List Nat}
def mRaise (c : Str) : Ms := fun e => .exc ⟨c, []⟩ e
def mRaise1 (c f : Str) (m : Mo PV) : Ms := fun e => SOut.of (m e) fun p e1 => .exc ⟨c, [(f, p)]⟩ e1
end
/-! ### a def that may raise -/

/-! ### frames behind new cells -/

/-! ### a def that calls the lambda that it got -/
inductive Oc where
  | ok (p : PV) | exc (x : Ex)
/-- what a def makes of what its lambda comes to -/
def TTm (S : Se) (KO : Addr → Prop) (I : Hp → Prop) (g : Oc → Option PV) : (XK → Hp → VK → Prop) → Hp → VK → Prop := fun tl H Q => ∃ (O : Addr → Prop) (oc : Oc) (r : PV), g oc = some r ∧ (∀ H0, I H0 → LamX.Tabs S.T.l H0 ∧ Pre H0 O) ∧
  (match oc with
    | .ok p => ∀ E Q', (∀ v H', Keep KO H H' → I H' → RV S H' O v p → Q' v H') → tl E H Q'
    | .exc x => ∀ E Q', (∀ cls d H', Keep KO H H' → I H' → ExAt S H' O cls d x → E cls d H') → tl E H Q') ∧
  ∀ H0 v H', Keep KO H H0 → I H0 → KeepA H0 H' → LamX.Tabs S.T.l H' → RV S H' O v r → Q v H'
/-- LamX.GivesTo, of the parts of the maker's context -/
def GvA (P : Program) (w : World) (K : PySem.W.Frag) (mg : Str → Option Value) (base : Heap) (A : Around) (outer : List Env) (Ng : List Str) (x : Str) (sg : Scope) (g : Addr) (cdg : Value) (bg : List Stmt) (a q : Str) (TT : (XK → Hp → VK → Prop) → Hp → VK → Prop) : Prop :=
  ∀ (f c' : Addr) (s : Shared) (H : Hp) (Q : VK) (tl : XK → Hp → VK → Prop),
    (∀ (W : WX) (pn : List (Addr × Obj)) (xe : Value → Shared → Prop) (E : XK) (p1 p2 : Pos), Takes ((cxOf C8.CX0 P w K mg base Ng x sg g cdg A outer s H C8.E0).tr pn xe) W → (∀ cls d σ' H', E cls d H' → W cls d σ' H') →
      PE ((cxOf C8.CX0 P w K mg base Ng x sg g cdg A outer s H C8.E0).tr pn xe) (.Call (.Name a p1) [] [] p2) (fun σZ HZ Q => σZ[0]? = some (some (.ref f)) ∧ HZ c' = some (LamX.CodeO c' q) ∧ tl E HZ Q)) →
    H c' = some (LamX.CodeO c' q) → TT tl H Q →
    ∃ t, PSs (cxOf C8.CX0 P w K mg base Ng x sg g cdg A outer s H C8.E0).nox bg t ∧ t { nx := fun _ H' => Q .non H', rt := Q } (L2.start Ng [.ref f]) H
structure DnL (P : Program) (w : World) (K : PySem.W.Frag) (mg : Str → Option Value) (T : Tt) (base : Heap) (x : Str) (k : Nat) (g : Oc → Option PV) : Prop where
  ex : ∃ (h : Addr) (Ng : List Str) (a : Str) (pg : Arguments) (bg : List Stmt) (sg : Scope) (dV kV doc pm cdv ct oc : Value) (an od : Option Addr) (osl : Array (Option Value)),
    mg x = some (.ref h) ∧ PySem.W.keepIn K (.ref h) = true ∧ K.lookup h = some ⟨oc, od, .func (PySem.W.fnOf x x pg bg sg dV kV doc pm an cdv ct), osl⟩ ∧ PySem.W.codeIn K cdv x = true ∧ L2.Binds K (PySem.W.fnOf x x pg bg sg dV kV doc pm an cdv ct) [a] [] ∧
    FnScope Ng [a] sg ∧ Ng[0]? = some a ∧ Vis sg a ∧ (a == ("__debug__" : Str)) = false ∧ (a == ("__classdict__" : Str)) = false ∧
    ∀ (A : Around) (outer : List Env) (q : Str) (KO : Addr → Prop) (I : Hp → Prop), Room (k + 2) A → A.guards = some [] → GvA P w K mg base A outer Ng x sg h cdv bg a q (TTm ⟨K, mg, T⟩ KO I g)
def mLam (g : Oc → Option PV) (mb : Mo PV) : Mo PV := fun e => match mb e with
  | .ok p e1 => lift (g (.ok p)) e1
  | .exc x e1 => lift (g (.exc x)) e1
  | .bad => .bad
end M

namespace M
open PySem PySem.Spec PyProof.Rows L2

/-- a clause: its class, the slot of its name, its mirror (a, d: where the exception and its dict are; c: its class's name) -/
structure Hn where
  c : Str
  al : Option Nat
  ms : Addr → Addr → Str → Ms
def pick (xm : Str → Str → Option Bool) : List Hn → Str → Option Hn
  | [], _ => none
  | h :: t, c => match xm c h.c with
    | some true => some h
    | some false => pick xm t c
    | none => none
/-- what is told of the classes -/
structure XmOk (K : PySem.W.Frag) (mg : Str → Option Value) (xm : Str → Str → Option Bool) : Prop where
  ok : ∀ r h b cls c, xm r h = some b → mg r = some cls → mg h = some c → PySem.W.exmOne K cls c = some b
  ref : ∀ r h b, xm r h = some b → ∃ C, mg r = some (.ref C)
/-! ### the three ways in which the lambda is called -/
end M

namespace M
open PySem PySem.Spec PyProof.Rows L2

/-! ### x, y, .. = a, b, .., some of the names captured -/
section
variable {X : Cx} {F : Fm} {ow ow' ob : List Nat}

/-! ### the caught exception's field -/
def mAttr (a d : Addr) (xc cn : Str) (i : Nat) (f : Str) : Mo PV := fun e => match e[i]? with
  | some (some (.exn a' d' c l)) => if a' = a ∧ d' = d ∧ c = xc ∧ xc = cn then lift (l.lookup f) e else .bad
  | _ => .bad
end
@[simp] theorem mAttr_exn {a d : Addr} {xc : Str} {cn : Str} {i : Nat} {f : Str} {e : En} {a' d' : Addr} {c : Str} {l : List (Str × PV)} (h : e[i]? = some (some (.exn a' d' c l))) : mAttr a d xc cn i f e = if a' = a ∧ d' = d ∧ c = xc ∧ xc = cn then lift (l.lookup f) e else .bad := by
  unfold mAttr; rw [h]

/-! ### the three shapes -/

/-! ### evaluation -/
def outX (mf : List PV → Out PV) (ps : List PV) : Option Oc := match mf ps with
  | .ok p _ => some (.ok p)
  | .exc x _ => some (.exc x)
  | .bad => none
def liftX (o : Option Oc) (e : En) : Out PV := match o with
  | some (.ok p) => .ok p e
  | some (.exc x) => .exc x e
  | none => .bad
@[simp] theorem liftX_ok {p : PV} {e : En} : liftX (some (.ok p)) e = .ok p e := (rfl)
@[simp] theorem liftX_exc {x : Ex} {e : En} : liftX (some (.exc x)) e = .exc x e := (rfl)
@[simp] theorem bind_exc {α β : Type} {x : Ex} {e : En} {f : α → En → Out β} : (Out.exc (α := α) x e).bind f = .exc x e := (rfl)
@[simp] theorem of_exc {α : Type} {x : Ex} {e : En} {f : α → En → SOut} : SOut.of (Out.exc (α := α) x e) f = .exc x e := (rfl)
@[simp] theorem seq_exc {x : Ex} {e : En} {b : Ms} : (SOut.exc x e).seq b = .exc x e := (rfl)
@[simp] theorem mRaise_ap {c : Str} {e : En} : mRaise c e = .exc ⟨c, []⟩ e := (rfl)
@[simp] theorem mRaise1_ap {c f : Str} {m : Mo PV} {e : En} : mRaise1 c f m e = SOut.of (m e) fun p e1 => .exc ⟨c, [(f, p)]⟩ e1 := (rfl)
/-- a def that may raise -/
class MayEx (mf : List PV → Out PV) : Prop where
  may : True
def dcallX (n : Nat) (mf : List PV → Out PV) (l : List Ar) (e : En) : Out PV := match valsOf l with
  | some ps => if ps.length = n then liftX (outX mf ps) e else .bad
  | none => .bad
@[simp] theorem mDefX_ap {n : Nat} {mf : List PV → Out PV} [N : MayEx mf] {ml : Mo (List Ar)} {e : En} : mDef n [] mf ml e = (ml e).bind fun l e1 => dcallX n mf l e1 := by
  unfold mDef
  cases q : ml e with
  | bad => rfl
  | exc x e1 => rfl
  | ok l e1 =>
    simp only [Out.bind]
    unfold dcallX
    cases hv : valsOf l with
    | none =>
      obtain ⟨k, hk, ho⟩ := vals_isO hv
      rw [if_neg]
      rintro ⟨h1, h2, -⟩
      have := (h2 k (by omega)).mpr ho
      cases this
    | some ps =>
      obtain ⟨h1, h2, h3, h4⟩ := vals_args (e := e1) hv
      have hl := vals_len hv
      by_cases hn : ps.length = n
      · rw [if_pos ⟨by omega, fun k _ => ⟨fun z => (by cases z), fun z => (by rw [h3 k] at z; cases z)⟩, by rw [h2]; exact List.nodup_nil⟩]
        simp only [h1, if_pos hn]
        unfold outX
        cases hm : mf ps with
        | ok p f => simp only [h4]; rfl
        | exc x f => simp only [h4]; rfl
        | bad => rfl
      · rw [if_neg (fun z => hn (by omega))]
        simp only [if_neg hn]
@[simp] theorem dcallX1 {mf : List PV → Out PV} {e : En} {a : PV} : dcallX 1 mf [.v a] e = liftX (outX mf [a]) e := (rfl)
@[simp] theorem dcallX2 {mf : List PV → Out PV} {e : En} {a b : PV} : dcallX 2 mf [.v a, .v b] e = liftX (outX mf [a, b]) e := (rfl)
@[simp] theorem dcallX3 {mf : List PV → Out PV} {e : En} {a b c : PV} : dcallX 3 mf [.v a, .v b, .v c] e = liftX (outX mf [a, b, c]) e := (rfl)
@[simp] theorem dcallX4 {mf : List PV → Out PV} {e : En} {a b c d : PV} : dcallX 4 mf [.v a, .v b, .v c, .v d] e = liftX (outX mf [a, b, c, d]) e := (rfl)
def lamO (g : Oc → Option PV) : Out PV → Out PV
  | .ok p e => lift (g (.ok p)) e
  | .exc x e => lift (g (.exc x)) e
  | .bad => .bad
@[simp] theorem mLam_ap {g : Oc → Option PV} {m : Mo PV} {e : En} : mLam g m e = lamO g (m e) := by
  unfold mLam lamO
  cases m e <;> rfl
@[simp] theorem lamO_ok {g : Oc → Option PV} {p : PV} {e : En} : lamO g (.ok p e) = lift (g (.ok p)) e := (rfl)
@[simp] theorem lamO_exc {g : Oc → Option PV} {x : Ex} {e : En} : lamO g (.exc x e) = lift (g (.exc x)) e := (rfl)
def valX : SOut → Option Oc
  | .nxt _ => some (.ok .non)
  | .ret p _ => some (.ok p)
  | .exc x _ => some (.exc x)
  | _ => none
@[simp] theorem valX_nxt {e : En} : valX (.nxt e) = some (.ok .non) := (rfl)
@[simp] theorem valX_ret {p : PV} {e : En} : valX (.ret p e) = some (.ok p) := (rfl)
@[simp] theorem valX_exc {x : Ex} {e : En} : valX (.exc x e) = some (.exc x) := (rfl)
end M

namespace M
open PySem PySem.Spec PyProof.Rows L2

/-! ### what is asked of the classes of exceptions -/
structure XP (K : PySem.W.Frag) (mg : Str → Option Value) (x : Str) (newId : String) (bmB : List Value) : Prop where
  g : mg x = some (.ref (He.ga K x))
  q : PySem.W.excIn K (He.ga K x) bmB newId = true
  k : PySem.W.keepIn K (.ref (He.ga K x)) = true
  e : PySem.W.subIn K (.ref (He.ga K x)) (.type "BaseException") = some true
  t : PySem.W.typeIn K (.ref (He.ga K x)) = some (.type "type")
structure XI (K : PySem.W.Frag) (mg : Str → Option Value) (x f : Str) (newId : String) (bmB : List Value) (qual : Str) (i : Stmt) : Prop where
  g : mg x = some (.ref (He.ga K x))
  xg : XG K (He.ga K x) (He.ma K (He.ga K x) "__init__") f newId bmB
  fd : ∃ fd, FunD K "__init__" qual (defArgs i) (defBody i) (defScope i) [] [] (He.ma K (He.ga K x) "__init__") fd
structure XF (K : PySem.W.Frag) (mg : Str → Option Value) (x f : Str) : Prop where
  g : mg x = some (.ref (He.ga K x))
  xf : XfC K (He.ga K x)
  no : PySem.W.findIn K (.ref (He.ga K x)) f = some none
section
variable {K : PySem.W.Frag} {h : Heap} {mg : Str → Option Value}
end
section
variable {X : Cx} {F : Fm} {ow ow' ob : List Nat}
end

/-! ### defs that make lambdas: their code objects are known -/

/-! ### the clauses' values do not hang on the places -/
end M

namespace M
open PySem PySem.Spec PyProof.Rows L2

/-! ### max(xs, default=d), min(xs, default=d) -/
section
variable {X : Cx} {F : Fm} {ow : List Nat}
end
section
variable {X : Cx} {F : Fm} {ow : List Nat}
/-! ### a fresh if-expression -/
end
section
variable {X : Cx} {F : Fm} {ow : List Nat}
end
section
variable {X : Cx} {F : Fm} {ow : List Nat}
/-! ### a target of two targets -/
def tP (f g : PV → En → Option En) : PV → En → Option En := fun p e => match p with
  | .tup [a, b] => (f a e).bind (g b)
  | _ => none
@[simp] theorem tP_ap {f g : PV → En → Option En} {a b : PV} {e : En} : tP f g (.tup [a, b]) e = (f a e).bind (g b) := (rfl)
end
end M

namespace M
open PySem PySem.Spec PyProof.Rows L2

/-! ### a rise goes one way; its corners by the points beside them -/
def ek (k : Bool) (c : P2) (t : Int) : P2 := if k = true then (c.1 + t, c.2) else (c.1, c.2 + t)
/-! ### rises that have one another's telling points are the same -/
end M

namespace PySem.HandEnum
open AutoSeq1 (wpAny_loadPart')
/-! ### enumerate of a tuple -/
section
variable {prog : Program} {w : World} {A : Around} {E : Value → Shared → Prop} {s : Shared}
end
end PySem.HandEnum
namespace M
open PySem PySem.Spec PyProof.Rows L2
def enumP : Nat → List PV → List PV
  | _, [] => []
  | k, p :: l => .tup [.int (k : Int), p] :: enumP (k + 1) l
@[simp] theorem enumP_len : ∀ {l : List PV} {k : Nat}, (enumP k l).length = l.length
  | [], k => rfl
  | p :: l, k => by simp [enumP, enumP_len]
section
variable {X : Cx} {F : Fm} {ow : List Nat}
end
end M

namespace M
open PySem PySem.Spec PyProof.Rows L2

/-! ### beside the highest and the lowest point over a number -/
end M

namespace M
open PySem PySem.Spec PyProof.Rows L2
/-! ### halving: the first piece that does not end below a number -/
def ext (b : Bool) (c : Pc) : Option Int × Option Int := if c.k = b then (c.lo, c.hi) else (some c.a, some c.a)
def upto (b : Bool) (x : Int) (c : Pc) : Bool := geO (ext b c).2 x
def ix (b : Bool) (x : Int) (l : List Pc) : Nat := l.findIdx (upto b x)
theorem hit_ext {b : Bool} {x : Int} {c : Pc} : hit b x c = if (leO (ext b c).1 x && geO (ext b c).2 x) = true then some (ext (!b) c) else none := by
  obtain ⟨k, a, lo, hi⟩ := c
  unfold hit ext
  by_cases q : k = b
  · subst q
    simp
  · have q2 : k = !b := by cases k <;> cases b <;> simp_all
    subst q2
    by_cases q3 : a = x
    · subst q3; simp
    · have : ¬ (a ≤ x ∧ x ≤ a) := by omega
      simp [q3, this]
theorem not_upto {b : Bool} {x : Int} {c : Pc} (h : upto b x c = false) : hit b x c = none := by
  rw [hit_ext]
  unfold upto at h
  simp [h]
theorem upto_pc {k b : Bool} {x : Int} {low : Option Int} {d : P2} : upto b x ⟨k, across k d, low, some (along k d)⟩ = decide (x ≤ along b d) := by
  unfold upto ext
  cases k <;> cases b <;> simp <;> rfl
theorem upto_all {b : Bool} {x : Int} : ∀ {l : List P2} {k : Bool} {c : P2}, Ch k (some c) l → x ≤ along b c → ∀ p ∈ pcsL k (some c) l, upto b x p = true
  | [], k, c, h, hx, p, hp => by
    simp [pcsL] at hp
    subst hp
    unfold upto ext
    cases k <;> cases b <;> simp_all
  | d :: l, k, c, h, hx, p, hp => by
    have hd : along b c ≤ along b d := along_le h.go
    rw [pcsL_cons] at hp
    rcases List.mem_cons.1 hp with e | hp
    · subst e; rw [upto_pc]; simp; omega
    · exact upto_all h.tail (by omega) p hp
theorem hits_far {b : Bool} {x : Int} {l : List P2} {k : Bool} {c : P2} (h : Ch k (some c) l) (hx : x < along b c) : hits b x (pcsL k (some c) l) = [] :=
  ((hits_spec h.1 h.2.1 h.2.2).2.2 c rfl).2 hx
theorem hits_cons {b : Bool} {x : Int} {c : Pc} {l : List Pc} : hits b x (c :: l) = (hit b x c).toList ++ hits b x l := by
  unfold hits
  rw [List.filterMap_cons]
  cases hit b x c <;> rfl
theorem hits_three {b : Bool} {x : Int} {l : List P2} {k : Bool} {d : P2} (h : Ch k (some d) l) (hx : x ≤ along b d) : hits b x (pcsL k (some d) l) = hits b x ((pcsL k (some d) l).take 2) := by
  cases l with
  | nil => rfl
  | cons d2 l =>
    rw [pcsL_cons]
    cases l with
    | nil => rfl
    | cons d3 l =>
      rw [pcsL_cons]
      have g1 := h.go
      have g2 := h.tail.go
      have h3 := h.tail.tail
      have hf : hits b x (pcsL (!!k) (some d3) l) = [] := hits_far h3 (by
        cases k <;> cases b <;> simp at g1 g2 hx ⊢ <;> omega)
      simp only [List.take_succ_cons, List.take_zero]
      rw [hits_cons, hits_cons, hits_cons, hits_cons, hf]
      rfl
theorem hits_slice {b : Bool} {x : Int} : ∀ {l : List P2} {k : Bool} {low : Option P2}, Ch k low l →
    hits b x (pcsL k low l) = hits b x (((pcsL k low l).drop (ix b x (pcsL k low l))).take 3) ∧ ∀ i p, (pcsL k low l)[i]? = some p → (upto b x p = true ↔ ix b x (pcsL k low l) ≤ i)
  | [], k, low, h => by
    cases low with
    | none => exact absurd h.2.1 (by simp)
    | some c =>
      have e : pcsL k (some c) [] = [⟨k, across k c, some (along k c), none⟩] := rfl
      rw [e]
      unfold ix
      generalize (⟨k, across k c, some (along k c), none⟩ : Pc) = p
      cases hp : upto b x p with
      | true =>
        have e : [p].findIdx (upto b x) = 0 := by simp [List.findIdx_cons, hp]
        rw [e]
        refine ⟨rfl, fun i q hq => ?_⟩
        cases i with
        | zero => simp at hq; subst hq; simp [hp]
        | succ i => simp at hq
      | false =>
        have e : [p].findIdx (upto b x) = 1 := by simp [List.findIdx_cons, hp]
        rw [e]
        refine ⟨by rw [hits_cons, not_upto hp]; rfl, fun i q hq => ?_⟩
        cases i with
        | zero => simp at hq; subst hq; simp [hp]
        | succ i => simp at hq
  | d :: l, k, low, h => by
    rw [pcsL_cons]
    have ht := h.tail
    obtain ⟨i1, i2⟩ := hits_slice (b := b) (x := x) ht
    have hu : upto b x ⟨k, across k d, low.map (along k), some (along k d)⟩ = decide (x ≤ along b d) := upto_pc
    generalize (⟨k, across k d, low.map (along k), some (along k d)⟩ : Pc) = p at hu
    by_cases hx : x ≤ along b d
    · have hp : upto b x p = true := by rw [hu]; simp [hx]
      have e : ix b x (p :: pcsL (!k) (some d) l) = 0 := by unfold ix; simp [List.findIdx_cons, hp]
      rw [e]
      refine ⟨?_, fun i q hq => ?_⟩
      · simp only [List.drop_zero, List.take_succ_cons]
        rw [hits_cons, hits_cons]
        congr 1
        exact hits_three ht hx
      · cases i with
        | zero => simp at hq; subst hq; simp [hp]
        | succ i =>
          simp only [List.getElem?_cons_succ] at hq
          have := upto_all ht hx q (List.mem_of_getElem? hq)
          simp [this]
    · have hp : upto b x p = false := by rw [hu]; simp [hx]
      have e : ix b x (p :: pcsL (!k) (some d) l) = ix b x (pcsL (!k) (some d) l) + 1 := by unfold ix; simp [List.findIdx_cons, hp]
      rw [e]
      refine ⟨?_, fun i q hq => ?_⟩
      · rw [hits_cons, not_upto hp, List.drop_succ_cons]
        exact i1
      · cases i with
        | zero => simp at hq; subst hq; simp [hp]
        | succ i =>
          simp only [List.getElem?_cons_succ] at hq
          rw [i2 i q hq]
          omega
theorem one_slice {b : Bool} {x : Int} {p : Pc} : hits b x [p] = hits b x (([p].drop (ix b x [p])).take 3) ∧ ∀ i q, [p][i]? = some q → (upto b x q = true ↔ ix b x [p] ≤ i) := by
  unfold ix
  cases hp : upto b x p with
  | true =>
    have e : [p].findIdx (upto b x) = 0 := by simp [List.findIdx_cons, hp]
    rw [e]
    refine ⟨rfl, fun i q hq => ?_⟩
    cases i with
    | zero => simp at hq; subst hq; simp [hp]
    | succ i => simp at hq
  | false =>
    have e : [p].findIdx (upto b x) = 1 := by simp [List.findIdx_cons, hp]
    rw [e]
    refine ⟨by rw [hits_cons, not_upto hp]; rfl, fun i q hq => ?_⟩
    cases i with
    | zero => simp at hq; subst hq; simp [hp]
    | succ i => simp at hq
theorem rs_slice {B : Int} {b : Bool} {x : Int} {r : Rs} (h : r.Ok B) :
    hits b x r.pcs = hits b x ((r.pcs.drop (ix b x r.pcs)).take 3) ∧ ∀ i p, r.pcs[i]? = some p → (upto b x p = true ↔ ix b x r.pcs ≤ i) := by
  cases r with
  | level v => exact one_slice
  | plumb v => exact one_slice
  | bent k l => exact hits_slice (bent_ch h)
theorem ix_le {b : Bool} {x : Int} {l : List Pc} : ix b x l ≤ l.length := List.findIdx_le_length
/-! ### a fresh def that returns early -/
section
variable {X : Cx} {F : Fm}
def mSeqI (t : Mo Bool) (a b : Ms) : Ms := mIfS t a b
@[simp] theorem mSeqI_eq {t : Mo Bool} {a b : Ms} : mSeqI t a b = mIfS t a b := (rfl)
end
/-! ### turns of a while -/
theorem wl_go {c : Mo Bool} {b : Ms} {n : Nat} {e e1 e2 : En} (hc : c e = .ok true e1) (hb : b e1 = .nxt e2) : wloop c b (n + 1) e = wloop c b n e2 := by
  have : wloop c b (n + 1) e = SOut.of (c e) fun k e1 => if k = true then match b e1 with
      | .nxt e2 => wloop c b n e2
      | .cnt e2 => wloop c b n e2
      | .brk e2 => .nxt e2
      | .ret q e2 => .ret q e2
      | .exc x e2 => .exc x e2
      | .bad => .bad
    else .nxt e1 := rfl
  rw [this, hc]
  simp only [SOut.of, if_true, hb]
theorem wl_end {c : Mo Bool} {b : Ms} {n : Nat} {e e1 : En} (hc : c e = .ok false e1) : wloop c b (n + 1) e = .nxt e1 := by
  show SOut.of (c e) _ = _
  rw [hc]
  rfl
end M

namespace M
open PySem PySem.Spec PyProof.Rows L2

/-! ### an own class: what its facts are -/
/-- the class c, whose instances have the fields fs -/
structure OC (K : PySem.W.Frag) (mg : Str → Option Value) (c : Str) (fs : List Str) : Prop where
  g : mg c = some (.ref (He.ga K c))
  ins : C8.InsC K (He.ga K c)
  mkr : Mk K (He.ga K c) (He.ma K (He.ga K c) "__init__")
  no : ∀ f ∈ fs, NoAttr K (He.ga K c) f
  kit0 : ∀ t ∈ kitT, PySem.W.kitOne K (.type t) (.ref (He.ga K c)) = some false
  kit1 : ∀ t ∈ kitT, PySem.W.kitOne K (.ref (He.ga K c)) (.type t) = some false

/-! ### attributes -/
def mUn (g : PV → Option PV) (m : Mo PV) : Mo PV := fun e => (m e).bind fun p e1 => lift (g p) e1
section
variable {X : Cx} {F : Fm} {ow : List Nat} {c : Str} {fs : List Str}
/-- a property that gives a field -/
structure PrX (P : Program) (w : World) (K : PySem.W.Frag) (mg : Str → Option Value) (base : Heap) (c f fld : Str) : Prop where
  ex : ∃ p g fd, PropOf K (He.ga K c) f p g ∧ FnOk P w K mg base CX0 1 g fd ["self"] (getSp (He.ga K c) fld) ∧ L2.Binds K fd ["self"] []
end
end M

namespace M
open PySem PySem.Spec PyProof.Rows L2

/-! ### isinstance(x, C), len(x) of an own class -/
def gIsiC (c : Str) : List PV → Option PV
  | [p, .gl d] => if d = c then (match p with
    | .ins d' _ => if d' = c then some (.bl true) else none
    | q => (tyN q).map fun _ => .bl false) else none
  | _ => none
section
variable {X : Cx} {F : Fm} {ow : List Nat} {c : Str} {fs : List Str}
theorem tyN_kit {p : PV} {t : String} (h : tyN p = some t) : t ∈ kitT := by
  unfold tyN at h
  split at h <;> cases h <;> simp [kitT]
theorem gl_ref {S : Se} {H : Hp} {O : Addr → Prop} {v : V} {d : Str} {a : Addr} (r : RV S H O v (.gl d)) (h : S.mg d = some (.ref a)) : v = .ref a := by
  cases r with
  | gl h1 r1 =>
    rw [h] at h1
    cases h1
    cases v with
    | ref b => cases (show Value.ref a = Value.ref b from r1); rfl
    | int i => obtain ⟨t, q⟩ := (show ∃ t, Value.ref a = Value.int i t from r1); cases q
    | str i => obtain ⟨t, q⟩ := (show ∃ t, Value.ref a = Value.str i t from r1); cases q
    | byt i => obtain ⟨t, q⟩ := (show ∃ t, Value.ref a = Value.bytes i t from r1); cases q
    | flt i => obtain ⟨t, q⟩ := (show ∃ t, Value.ref a = Value.float i t from r1); cases q
    | non => cases (show Value.ref a = Value.none from r1)
    | bl b => cases (show Value.ref a = Value.bool b from r1)
    | ty n => cases (show Value.ref a = Value.type n from r1)
theorem co_isiC (T : OC X.K X.mg c fs) (hS : F.S = ⟨X.K, X.mg, F.S.T⟩ := by rfl) : CallOk X F (.builtin "isinstance") (gIsiC c) := by
  intro O
  refine ⟨_, call_isi, fun H xs ps r Q hp rs e q => ?_⟩
  have hK : F.S.K = X.K := by rw [hS]
  have hM : F.S.mg = X.mg := by rw [hS]
  unfold gIsiC at e
  split at e
  · rename_i p d
    by_cases hd : d = c
    · subst hd
      rw [if_pos rfl] at e
      obtain ⟨x, y, rfl, rx, ry⟩ := rs.two
      have hy := gl_ref ry.rv (by rw [hM]; exact T.g)
      subst hy
      split at e
      · rename_i d' l
        by_cases h2 : d' = d
        · subst h2
          rw [if_pos rfl] at e
          cases e
          cases rx.rv with
          | ins n ea m t =>
            rw [hM, T.g] at m
            cases m
            exact ⟨_, _, .ref (He.ga X.K d'), _, true, rfl, .own _, .base (.ins ea T.ins.cl T.ins.ha T.ins.hn T.ins.htk T.ins.hm), T.ins.me, q _ H (fun _ _ z => z) (.bl _)⟩
        · rw [if_neg h2] at e; cases e
      · rename_i p' hne
        cases ht : tyN p with
        | none => rw [ht] at e; cases e
        | some t =>
          rw [ht] at e
          cases e
          exact ⟨x, _, _, _, false, rfl, .own _, hK ▸ WV.tyX rx ht, T.kit0 t (tyN_kit ht), q _ H (fun _ _ z => z) (.bl _)⟩
    · rw [if_neg hd] at e; cases e
  · cases e

/-- len of an instance: what its __len__ promises -/
def rLenC (C : Addr) (sp : Sp) : List V → Hp → VK → Prop := fun xs H Q => ∃ a dx fs, xs = [V.ref a] ∧ H a = some (.ins C dx fs) ∧
  sp [.ref a] H (fun v H' => ∃ n : Int, v = .int n ∧ 0 ≤ n ∧ n < 2 ^ 63 ∧ Q (.int n) H') fun _ _ _ => False
end
/-- the length of a field -/
def lenSp (K : PySem.W.Frag) (C : Addr) (f : Str) : Sp := fun vs H Q _ => ∃ a dx fs b ys, vs = [V.ref a] ∧ H a = some (.ins C dx fs) ∧ fs.lookup f = some (.ref b) ∧ (SqL K H b ys ∨ SqT K H b ys) ∧ Q (.int (ys.length : Nat)) H
section
variable {X : Cx} {F : Fm} {ow : List Nat} {c : Str} {fs : List Str}
/-- the class's __len__ tells how long its field is -/
structure LnX (P : Program) (w : World) (K : PySem.W.Frag) (mg : Str → Option Value) (base : Heap) (c fld : Str) : Prop where
  ex : ∃ f fd, PySem.W.findIn K (.ref (He.ga K c)) "__len__" = some (some (.ref f)) ∧ PySem.W.typeIn K (.ref f) = some (.type "function") ∧ FnOk P w K mg base CX0 1 f fd ["self"] (lenSp K (He.ga K c) fld) ∧ L2.Binds K fd ["self"] []
def gLenC (c fld : Str) : List PV → Option PV
  | [.ins d l] => if d = c then (match l.lookup fld with
    | some p => (match gLen [p] with
      | some (.int n) => if n ≤ 16777216 then some (.int n) else none
      | _ => none)
    | none => none) else none
  | ps => gLen ps
end
end M

namespace M
open PySem PySem.Spec PyProof.Rows L2

/-! ### C(a, b): an own __init__ that looks at its arguments, then keeps them -/
inductive SI where
  | fin (l : List (Str × PV)) | exc (z : Ex) | bad
abbrev withX (O : Addr → Prop) (x : Addr) : Addr → Prop := fun a => O a ∨ a = x
def spI (S : Se) (C : Addr) (n : Nat) (mi : List PV → SI) : Sp := fun vs H Q E => ∃ (x dx : Addr) (ws : List V) (O : Addr → Prop) (ps : List PV), vs = .ref x :: ws ∧ ws.length = n ∧ ps.length = n ∧ Pre H O ∧ H x = some (.ins C dx []) ∧ LamX.Tabs S.T.l H ∧
  (∀ (k : Nat) (p : PV), ps[k]? = some p → ∃ v, ws[k]? = some v ∧ RV S H (withX O x) v p) ∧
  match mi ps with
  | .fin l => ∀ H' fs, Keep (fun a => a = x) H H' → LamX.Tabs S.T.l H' → H' x = some (.ins C dx fs) → FVs S H' (withX O x) fs l → Q .non H'
  | .exc z => ∀ cls d H', KeepA H H' → LamX.Tabs S.T.l H' → ExAt S H' (withX O x) cls d z → E cls d H'
  | .bad => False
section
variable {X : Cx} {F : Fm} {x C dx : Addr}
end
/-- the class's __init__ -/
structure MkX (P : Program) (w : World) (K : PySem.W.Frag) (mg : Str → Option Value) (T : Tt) (base : Heap) (c : Str) (k n : Nat) (mi : List PV → SI) : Prop where
  ex : ∃ fd ps, FnOk P w K mg base (L2.CX P w) k (He.ma K (He.ga K c) "__init__") fd ps (spI ⟨K, mg, T⟩ (He.ga K c) n mi) ∧ L2.Binds K fd ps []
end M

namespace M
open PySem PySem.Spec PyProof.Rows L2

/-! ### the head's facts, with the getters of properties -/
end M

namespace M
open PySem PySem.Spec PyProof.Rows L2

/-! ### set(xs) of a list of ints -/
section
variable {P : Program} {w : World} {A : Around} {E : Value → Shared → Prop} {s : Shared}
end
end M

namespace M
open PySem PySem.Spec PyProof.Rows L2

/-! ### ints in their order, once each -/

/-! ### sorted -/
section
variable {P : Program} {w : World} {A : Around} {E : Value → Shared → Prop} {s : Shared}
end
end M

namespace M
open PySem PySem.Spec PyProof.Rows L2

def mOne (g : PV → Option PV) (m : Mo PV) : Mo PV := fun e => (m e).bind fun p e1 => lift (g p) e1
section
variable {X : Cx} {F : Fm} {ow : List Nat} {σ : L2.St} {H : Hp}
theorem vals_ints : ∀ {vs : List Value} {ns : List Int}, IntsAre vs ns → Vals (ns.map V.int) vs
  | _, _, .nil => .nil
  | _, _, .cons n t r => .cons ⟨t, rfl⟩ (vals_ints r)
end
end M

namespace M
open PySem PySem.Spec PyProof.Rows L2

/-! ### dicts: what they hold -/
def keyP : PV → Option Key
  | .int i => some (.inl i)
  | .str x => some (.inr x)
  | _ => none
/-- a tuple of ints and texts, as a key -/
def keysL : List PV → Option (List Key)
  | [] => some []
  | p :: l => (keyP p).bind fun k => (keysL l).map fun ks => k :: ks
def keysP : PV → Option (List Key)
  | .tup l => keysL l
  | _ => none
def atT (l : List (List Key × PV)) (k : List Key) : Option PV := (l.find? fun kv => decide (kv.1 = k)).map (·.2)
def putT (l : List (List Key × PV)) (k : List Key) (p : PV) : List (List Key × PV) :=
  if (atT l k).isSome = true then l.map fun kv => if kv.1 = k then (kv.1, p) else kv else l ++ [(k, p)]
def atK (l : List (Key × PV)) (k : Key) : Option PV := (l.find? fun kv => decide (kv.1 = k)).map (·.2)
/-- in its place, or at the end -/
def putP (l : List (Key × PV)) (k : Key) (p : PV) : List (Key × PV) :=
  if (atK l k).isSome = true then l.map fun kv => if kv.1 = k then (kv.1, p) else kv else l ++ [(k, p)]
section
variable {S : Se} {H H' : Hp} {O O' : Addr → Prop}
theorem RV.key {v : V} {p : PV} {k : Key} (r : RV S H O v p) (h : keyP p = some k) : v = kV k := by
  unfold keyP at h
  split at h
  · cases h; cases r; rfl
  · cases h; cases r; rfl
  · cases h
theorem RVs.keys : ∀ {vs : List V} {l : List PV} {ks : List Key}, RVs S H O vs l → keysL l = some ks → vs = ks.map kV
  | _, _, _, .nil, h => by cases h; rfl
  | _, _, _, .cons (p := p) (l := l) r t, h => by
    simp only [keysL] at h
    cases h1 : keyP p with
    | none => rw [h1] at h; cases h
    | some k =>
      rw [h1] at h
      cases h2 : keysL l with
      | none => rw [h2] at h; cases h
      | some ks => rw [h2] at h; cases h; rw [r.key h1, RVs.keys t h2]; rfl
theorem RV.keys {v : V} {p : PV} {ks : List Key} (r : RV S H O v p) (h : keysP p = some ks) : ∃ b, v = .ref b ∧ H b = some (.tup (ks.map kV)) := by
  cases p with
  | tup l =>
    obtain ⟨a, vs, e, _, h1, t⟩ := r.tupAt
    exact ⟨a, e, by rw [h1, t.keys h]⟩
  | _ => cases h
theorem TVs.length : ∀ {vs : List (List Key × V)} {l : List (List Key × PV)}, TVs S H O vs l → vs.length = l.length
  | _, _, .nil => rfl
  | _, _, .cons _ t => congrArg Nat.succ (TVs.length t)
theorem TVs.at_ : ∀ {kvs : List (List Key × V)} {l : List (List Key × PV)} (k : List Key), TVs S H O kvs l → (∀ p, atT l k = some p → ∃ v, valV kvs k = some v ∧ RV S H O v p) ∧ (atT l k = none → valV kvs k = none)
  | _, _, k, .nil => ⟨fun p e => (by cases e), fun _ => rfl⟩
  | _, _, k, .cons (k := k0) (v := v) (p := p0) (vs := vs) (l := l) r t => by
    obtain ⟨h1, h2⟩ := TVs.at_ k t
    by_cases q : k0 = k
    · refine ⟨fun p e => ⟨v, valV_pos q, ?_⟩, fun e => ?_⟩
      · simp [atT, q] at e
        subst e
        exact r
      · simp [atT, q] at e
    · have e1 : atT ((k0, p0) :: l) k = atT l k := by simp [atT, q]
      rw [e1, valV_neg (p := (k0, v)) q]
      exact ⟨h1, h2⟩
theorem TVs.some_iff {kvs : List (List Key × V)} {l : List (List Key × PV)} (k : List Key) (t : TVs S H O kvs l) : (valV kvs k).isSome = (atT l k).isSome := by
  obtain ⟨h1, h2⟩ := t.at_ k
  cases e : atT l k with
  | none => rw [h2 e] <;> rfl
  | some p =>
    obtain ⟨v, h3, _⟩ := h1 p e
    rw [h3] <;> rfl
theorem TVs.repl {v : V} {p : PV} {k : List Key} (r : RV S H O v p) : ∀ {kvs : List (List Key × V)} {l : List (List Key × PV)}, TVs S H O kvs l → TVs S H O (kvs.map fun kv => if kv.1 = k then (kv.1, v) else kv) (l.map fun kv => if kv.1 = k then (kv.1, p) else kv)
  | _, _, .nil => .nil
  | _, _, .cons (k := k0) r0 t => by
    rw [List.map_cons, List.map_cons]
    by_cases q : k0 = k
    · rw [if_pos q, if_pos q]; exact .cons r (TVs.repl r t)
    · rw [if_neg q, if_neg q]; exact .cons r0 (TVs.repl r t)
theorem TVs.snoc {v : V} {p : PV} {k : List Key} (r : RV S H O v p) : ∀ {kvs : List (List Key × V)} {l : List (List Key × PV)}, TVs S H O kvs l → TVs S H O (kvs ++ [(k, v)]) (l ++ [(k, p)])
  | _, _, .nil => .cons r .nil
  | _, _, .cons r0 t => .cons r0 (TVs.snoc r t)
theorem TVs.put {v : V} {p : PV} {k : List Key} {kvs : List (List Key × V)} {l : List (List Key × PV)} (r : RV S H O v p) (t : TVs S H O kvs l) : TVs S H O (putK kvs k v) (putT l k p) := by
  unfold putK putT
  rw [valV_any, t.some_iff k]
  by_cases q : (atT l k).isSome = true
  · rw [if_pos q, if_pos q]; exact t.repl r
  · rw [if_neg q, if_neg q]; exact t.snoc r
theorem KVs.at_ : ∀ {kvs : List (Key × V)} {l : List (Key × PV)} (k : Key), KVs S H O kvs l → (∀ p, atK l k = some p → ∃ v, valV kvs k = some v ∧ RV S H O v p) ∧ (atK l k = none → valV kvs k = none)
  | _, _, k, .nil => ⟨fun p e => (by cases e), fun _ => rfl⟩
  | _, _, k, .cons (k := k0) (v := v) (p := p0) (vs := vs) (l := l) r t => by
    obtain ⟨h1, h2⟩ := KVs.at_ k t
    by_cases q : k0 = k
    · refine ⟨fun p e => ⟨v, valV_pos q, ?_⟩, fun e => ?_⟩
      · simp [atK, q] at e
        subst e
        exact r
      · simp [atK, q] at e
    · have e1 : atK ((k0, p0) :: l) k = atK l k := by simp [atK, q]
      rw [e1, valV_neg (p := (k0, v)) q]
      exact ⟨h1, h2⟩
theorem KVs.some_iff {kvs : List (Key × V)} {l : List (Key × PV)} (k : Key) (t : KVs S H O kvs l) : (valV kvs k).isSome = (atK l k).isSome := by
  obtain ⟨h1, h2⟩ := t.at_ k
  cases e : atK l k with
  | none => rw [h2 e] <;> rfl
  | some p =>
    obtain ⟨v, h3, _⟩ := h1 p e
    rw [h3] <;> rfl
theorem KVs.repl {v : V} {p : PV} {k : Key} (r : RV S H O v p) : ∀ {kvs : List (Key × V)} {l : List (Key × PV)}, KVs S H O kvs l → KVs S H O (kvs.map fun kv => if kv.1 = k then (kv.1, v) else kv) (l.map fun kv => if kv.1 = k then (kv.1, p) else kv)
  | _, _, .nil => .nil
  | _, _, .cons (k := k0) r0 t => by
    rw [List.map_cons, List.map_cons]
    by_cases q : k0 = k
    · rw [if_pos q, if_pos q]; exact .cons r (KVs.repl r t)
    · rw [if_neg q, if_neg q]; exact .cons r0 (KVs.repl r t)
theorem KVs.snoc {v : V} {p : PV} {k : Key} (r : RV S H O v p) : ∀ {kvs : List (Key × V)} {l : List (Key × PV)}, KVs S H O kvs l → KVs S H O (kvs ++ [(k, v)]) (l ++ [(k, p)])
  | _, _, .nil => .cons r .nil
  | _, _, .cons r0 t => .cons r0 (KVs.snoc r t)
theorem KVs.put {v : V} {p : PV} {k : Key} {kvs : List (Key × V)} {l : List (Key × PV)} (r : RV S H O v p) (t : KVs S H O kvs l) : KVs S H O (putK kvs k v) (putP l k p) := by
  unfold putK putP
  rw [valV_any, t.some_iff k]
  by_cases q : (atK l k).isSome = true
  · rw [if_pos q, if_pos q]; exact t.repl r
  · rw [if_neg q, if_neg q]; exact t.snoc r
end
/-! ### .. read -/
def pIxA : PV → PV → Option PV
  | .dK l, b => (keyP b).bind (atK l)
  | .fK l, b => (keyP b).bind (atK l)
  | .dT l, b => (keysP b).bind (atT l)
  | .fT l, b => (keysP b).bind (atT l)
  | a, b => pIx a b
def pInA (n : Bool) : PV → PV → Option PV
  | b, .dK l => (keyP b).map fun k => .bl ((atK l k).isSome != n)
  | b, .fK l => (keyP b).map fun k => .bl ((atK l k).isSome != n)
  | b, .dT l => (keysP b).map fun k => .bl ((atT l k).isSome != n)
  | b, .fT l => (keysP b).map fun k => .bl ((atT l k).isSome != n)
  | b, a => if n = true then pNotIn b a else pIn b a
section
variable {X : Cx} {F : Fm} {ow ow' ob : List Nat} {σ : L2.St} {H : Hp}
/-- x[b], of a cell of one's own -/
def mIxOA (i : Nat) (mb : Mo PV) : Mo PV := fun e => match e[i]? with
  | some (some _) => (mb e).bind fun b e1 => match e1[i]? with
    | some (some p) => lift (pIxA p b) e1
    | _ => .bad
  | _ => .bad
end
end M

namespace M
open PySem PySem.Spec PyProof.Rows L2

section
variable {X : Cx} {F : Fm} {ow ow' ob : List Nat} {σ : L2.St} {H : Hp}
/-! ### a key in a dict, or not -/

/-! ### a dict of one's own, written -/
def mSetIxA (i : Nat) (mj me : Mo PV) : Ms := fun e => SOut.of (me e) fun p e1 => match e1[i]? with
  | some (some _) => SOut.of (mj e1) fun j e2 => match e2[i]? with
    | some (some (.lst l)) => match j with
      | .int j => match ixN l.length j with
        | some n => .nxt (e2.set i (some (.lst (l.set n p))))
        | none => .bad
      | _ => .bad
    | some (some (.dK l)) => match keyP j with
      | some k => if l.length < sizeLine then .nxt (e2.set i (some (.dK (putP l k p)))) else .bad
      | none => .bad
    | some (some (.dT l)) => match keysP j with
      | some k => if l.length < sizeLine then .nxt (e2.set i (some (.dT (putT l k p)))) else .bad
      | none => .bad
    | _ => .bad
  | _ => .bad
end
end M

namespace M
open PySem PySem.Spec PyProof.Rows L2

/-! ### {k: v for ..} -/
def dcLoop (own : List Nat) (f : PV → En → Option En) (mt : Mo Bool) (mk mv : Mo PV) : List PV → List (Key × PV) → En → Out PV
  | [], acc, e => .ok (.dK acc) e
  | p :: l, acc, e => match f p (wipeE e own) with
    | none => .bad
    | some e1 => match mt e1 with
      | .ok true e2 => match mk e2 with
        | .ok kp e3 => match keyP kp with
          | some k => match mv e3 with
            | .ok q e4 => if acc.length < sizeLine then dcLoop own f mt mk mv l (putP acc k q) (restE own e e4) else .bad
            | _ => .bad
          | none => .bad
        | _ => .bad
      | .ok false e2 => dcLoop own f mt mk mv l acc (restE own e e2)
      | _ => .bad
def mDc (own : List Nat) (f : PV → En → Option En) (mt : Mo Bool) (mk mv : Mo PV) (mi : Mo (List PV)) : Mo PV := fun e => (mi e).bind fun l e1 => dcLoop own f mt mk mv l [] e1
section
variable {X : Cx} {F : Fm} {ow ow' ob : List Nat} {σ σ1 σ2 : L2.St} {H H1 H2 : Hp}
end
end M

namespace M
open PySem PySem.Spec PyProof.Rows L2

/-! ### d = {k: v for ..} -/
section
variable {X : Cx}
end
section
variable {X : Cx} {F : Fm} {ow ow' ob : List Nat} {σ : L2.St} {H : Hp}
end
end M

namespace M
open PySem PySem.Spec PyProof.Rows L2

/-! ### list(d), len(d) -/
def keyV : Key → PV
  | .inl i => .int i
  | .inr x => .str x
def gListA : List PV → Option PV
  | [.dK l] => some (.lst (l.map fun kv => keyV kv.1))
  | l => gList l
section
variable {X : Cx} {F : Fm} {ow ow' ob : List Nat} {σ : L2.St} {H : Hp}
theorem KVs.keys {S : Se} {O : Addr → Prop} : ∀ {kvs : List (Key × V)} {l : List (Key × PV)}, KVs S H O kvs l → RVs S H O (kvs.map fun kv => kV kv.1) (l.map fun kv => keyV kv.1)
  | _, _, .nil => .nil
  | _, _, .cons (k := k) r t => .cons (by cases k with
    | inl i => exact .int i
    | inr x => exact .str x) (KVs.keys t)
end
end M

namespace M
open PySem PySem.Spec PyProof.Rows L2

/-! ### (*t, x, ..) -/
def seqP : PV → Option (List PV)
  | .tup l => some l
  | .lst l => some l
  | _ => none
def mStar (m : Mo PV) (ml : Mo (List PV)) : Mo (List PV) := fun e => (m e).bind fun p e1 => match seqP p with
  | some r => (ml e1).bind fun l e2 => .ok (r ++ l) e2
  | none => .bad
section
variable {X : Cx} {F : Fm} {ow : List Nat} {σ : L2.St} {H : Hp}
end
end M

namespace M
open PySem PySem.Spec PyProof.Rows L2

section
variable {X : Cx} {F : Fm} {ow ow' ob : List Nat} {σ : L2.St} {H : Hp}
/-! ### xs[i] op= e -/
end
end M

namespace M
open PySem PySem.Spec PyProof.Rows L2

/-! ### a list of lists of one's own: each of its lists can grow -/
abbrev inN (a : Addr) (bs : List Addr) (z : Addr) : Prop := z = a ∨ z ∈ bs
structure Nst (S : Se) (O : Addr → Prop) (H : Hp) (a : Addr) (bs : List Addr) (ll : List (List PV)) : Prop where
  top : H a = some (.lst (bs.map V.ref))
  len : bs.length = ll.length
  at_ : ∀ (j : Nat) (b : Addr), bs[j]? = some b → ∃ vs l, ll[j]? = some l ∧ H b = some (.lst vs) ∧ RVs S H O vs l
inductive SO2 where
  | nxt (e : En) (ll : List (List PV)) | exc (x : Ex) (e : En) | bad
structure KeepN (a : Addr) (bs : List Addr) (ow : List Nat) (σ : L2.St) (H : Hp) (oz : List Nat) (σ' : L2.St) (H' : Hp) : Prop where
  kp : ∀ z o, H z = some o → ¬ Own ow σ z → ¬ inN a bs z → NT o → H' z = some o ∧ ¬ Own oz σ' z
/-- what stands all along -/
structure NsF (F : Fm) (i : Nat) (a : Addr) (bs : List Addr) : Prop where
  io : i ∈ F.io
  g : ∀ z, inN a bs z → F.G z
  nd : bs.Nodup
  na : a ∉ bs
def PostN (F : Fm) (a : Addr) (bs : List Addr) (ow : List Nat) (σ : L2.St) (H : Hp) (D : Ends) : SO2 → Prop
  | .nxt e ll => ∀ σ' H', KeepN a bs ow σ H ow σ' H' → Stay F.io σ σ' → ER F.S F.G ow σ' H' e → Nst F.S (Gd F.G ow σ') H' a bs ll → D.nx σ' H'
  | .exc x e => ∀ σ' oz H' cls d, KeepN a bs ow σ H oz σ' H' → Stay F.io σ σ' → ER F.S F.G oz σ' H' e → ExAt F.S H' (Gd F.G oz σ') cls d x → F.W cls d σ' H'
  | .bad => False
section
variable {X : Cx} {F : Fm} {i : Nat} {a : Addr} {bs : List Addr} {ow oz ow1 ob : List Nat} {σ σ1 σ2 : L2.St} {H H1 H2 : Hp}
theorem KeepN.refl : KeepN a bs ow σ H ow σ H := ⟨fun z o e n _ _ => ⟨e, n⟩⟩
theorem KeepN.trans (k : KeepN a bs ow σ H ow1 σ1 H1) (k2 : KeepN a bs ow1 σ1 H1 oz σ2 H2) : KeepN a bs ow σ H oz σ2 H2 := ⟨fun z o e n m t => let ⟨e1, n1⟩ := k.kp z o e n m t; k2.kp z o e1 n1 m t⟩
theorem KeepN.of (k : KeepS ow σ H oz σ1 H1) : KeepN a bs ow σ H oz σ1 H1 := ⟨fun z o e n _ t => k.kp z o e n t⟩
theorem KeepN.keep (N : NsF F i a bs) (k : KeepN a bs ow σ H oz σ1 H1) : Keep (Gd F.G ow σ) H H1 := ⟨fun z o e n t => (k.kp z o e (fun w => n (.inr w)) (fun w => n (.inl (N.g z w))) t).1⟩
theorem KeepN.less (N : NsF F i a bs) (k : KeepN a bs ow σ H oz σ1 H1) : Less H (Gd F.G ow σ) (Gd F.G oz σ1) := fun z h g => by
  rcases g with g | g
  · exact .inl g
  · by_cases w : Own ow σ z
    · exact .inr w
    · by_cases m : inN a bs z
      · exact .inl (N.g z m)
      · obtain ⟨o, e, t⟩ := h
        exact absurd g (k.kp z o e w m t).2
theorem PostN.from {D : Ends} {o : SO2} (p : PostN F a bs ow σ H D o) (k : KeepN a bs ow σ H ow σ1 H1) (st : Stay F.io σ σ1) : PostN F a bs ow σ1 H1 D o := by
  cases o with
  | nxt e ll => exact fun σ2 H2 k2 s2 R n => p σ2 H2 (k.trans k2) (st.trans s2) R n
  | exc x e => exact fun σ2 oz H2 c d k2 s2 R xa => p σ2 oz H2 c d (k.trans k2) (st.trans s2) R xa
  | bad => exact p
end
end M

namespace M
open PySem PySem.Spec PyProof.Rows L2

section
variable {X : Cx} {F : Fm} {i : Nat} {a : Addr} {bs : List Addr} {ow oz ow1 ob : List Nat} {σ σ1 σ2 : L2.St} {H H1 H2 : Hp}
/-! ### the loop -/
/-! ### x[j].append(e) -/
theorem Nst.upd (N : NsF F i a bs) {ll : List (List PV)} (n : Nst F.S (Gd F.G ow σ) H a bs ll) {j : Nat} {b : Addr} {vs : List V} {l : List PV} {y : V} {p : PV} (hb : bs[j]? = some b) (h1 : ll[j]? = some l) (h2 : H b = some (.lst vs)) (h3 : RVs F.S H (Gd F.G ow σ) vs l) (ry : RV F.S H (Gd F.G ow σ) y p) :
    Nst F.S (Gd F.G ow σ) (upd H b (.lst (vs ++ [y]))) a bs (ll.set j (l ++ [p])) := by
  have mb : b ∈ bs := List.mem_of_getElem? hb
  have kD : Keep (Gd F.G ow σ) H (L2.upd H b (.lst (vs ++ [y]))) := Keep.own h2 (.inl (N.g b (.inr mb)))
  have nab : a ≠ b := fun z => N.na (z ▸ mb)
  refine ⟨by rw [upd_ne nab]; exact n.top, by rw [List.length_set]; exact n.len, fun k c hc => ?_⟩
  obtain ⟨ws, m, g1, g2, g3⟩ := n.at_ k c hc
  by_cases q : j = k
  · subst q
    rw [hb] at hc
    cases hc
    refine ⟨vs ++ [y], l ++ [p], ?_, upd_same, (h3.append (.cons ry .nil)).mono kD Less.refl⟩
    rw [List.getElem?_set_self (List.getElem?_eq_some_iff.mp h1).1]
  · have hne : c ≠ b := fun z => by
      subst z
      obtain ⟨l1, e1⟩ := List.getElem?_eq_some_iff.mp hb
      obtain ⟨l2, e2⟩ := List.getElem?_eq_some_iff.mp hc
      have pw := List.pairwise_iff_getElem.mp N.nd
      rcases Nat.lt_or_gt_of_ne q with w | w
      · exact pw j k l1 l2 w (e1.trans e2.symm)
      · exact pw k j l2 l1 w (e2.trans e1.symm)
    exact ⟨ws, m, by rw [List.getElem?_set_ne q]; exact g1, by rw [upd_ne hne]; exact g2, g3.mono kD Less.refl⟩
end
end M

namespace M
open PySem PySem.Spec PyProof.Rows L2

/-! ### x = no lists yet; a loop; the rest -/
def spNst (T : Tt) : Sp := fun vs H Q _ => ∃ k : Nat, vs = [V.int k] ∧ k ≤ 1000 ∧ (∀ p ∈ T.l, LamX.TabS H p.1 p.2) ∧ ∀ (a : Addr) (bs : List Addr) (H' : Hp), bs.length = k → bs.Nodup → a ∉ bs → (∀ z, inN a bs z → ¬ Hd H z) → KeepA H H' → LamX.Tabs T.l H' →
  H' a = some (.lst (bs.map V.ref)) → (∀ b ∈ bs, H' b = some (.lst [])) → Q (.ref a) H'
structure DnN (P : Program) (w : World) (K : PySem.W.Frag) (mg : Str → Option Value) (T : Tt) (base : Heap) (x : Str) (k : Nat) : Prop where
  ex : ∃ f fd ps, FnOk P w K mg base CX0 k f fd ps (spNst T) ∧ mg x = some (.ref f) ∧ PySem.W.keepIn K (.ref f) = true ∧ L2.Binds K fd ps []
section
variable {X : Cx} {F : Fm} {i : Nat} {a : Addr} {bs : List Addr} {ow ow' oz ow1 ob : List Nat} {σ σ1 σ2 : L2.St} {H H1 H2 : Hp}
theorem ER.drop {S : Se} {G : Addr → Prop} {e : En} (R : ER S (fun z => G z ∨ inN a bs z) ow σ H e) : ER S G ow σ H e := by
  have q : Less H (Gd (fun z => G z ∨ inN a bs z) ow σ) (Gd G ow σ) := fun a _ z => z.imp .inl id
  exact ⟨fun i p h1 h2 => let ⟨v, h3, h4⟩ := R.val i p h1 h2; ⟨v, h3, h4.mono Keep.refl q⟩, fun i p h1 h2 => let ⟨v, h3, h4⟩ := R.own i p h1 h2; ⟨v, h3, h4.mono Keep.refl q fun _ _ => rfl⟩, R.off, R.sep, fun i a hi h g => R.ng i a hi h (.inl g), fun a g => R.gt a (.inl g), R.tb, R.len⟩
end
end M

namespace M
open PySem PySem.Spec PyProof.Rows L2

/-! ### the def that makes lists that are empty -/
section
variable {X : Cx} {σ : L2.St} {H : Hp}
end
end M

namespace M
open PySem PySem.Spec PyProof.Rows L2

/-! ### a dict that is never written again: it can be walked -/
def mFz (m : Mo PV) : Mo PV := fun e => (m e).bind fun p e1 => lift (match p with
  | .dK l => some (.fK l)
  | _ => none) e1
def keysOf : PV → Option (List PV)
  | .fK l => some (l.map fun kv => keyV kv.1)
  | _ => none
def mItK (m : Mo PV) : Mo (List PV) := fun e => (m e).bind fun p e1 => lift (keysOf p) e1
section
variable {X : Cx} {F : Fm} {ow ow' ob : List Nat} {σ : L2.St} {H : Hp}
end
end M

namespace M
open PySem PySem.Spec PyProof.Rows L2

/-! ### evaluation -/
section
variable {e : En}
@[simp] theorem mIxOA_ap {i : Nat} {mb : Mo PV} : mIxOA i mb e = getE e[i]? fun _ => (mb e).bind fun b e1 => getE e1[i]? fun p => lift (pIxA p b) e1 := by
  unfold mIxOA getE; exact (rfl)
@[simp] theorem gLenC_lst {c fld : Str} {l : List PV} : gLenC c fld [.lst l] = gLen [.lst l] := (rfl)
@[simp] theorem gLenC_tup {c fld : Str} {l : List PV} : gLenC c fld [.tup l] = gLen [.tup l] := (rfl)
@[simp] theorem gLenC_fz {c fld : Str} {l : List PV} : gLenC c fld [.fz l] = gLen [.fz l] := (rfl)
@[simp] theorem pIxA_lst {l : List PV} {b : PV} : pIxA (.lst l) b = pIx (.lst l) b := (by simp only [pIxA])
@[simp] theorem pIxA_tup {l : List PV} {b : PV} : pIxA (.tup l) b = pIx (.tup l) b := (rfl)
@[simp] theorem pIxA_fz {l : List PV} {b : PV} : pIxA (.fz l) b = pIx (.fz l) b := (rfl)
@[simp] theorem pIxA_dK {l : List (Key × PV)} {b : PV} : pIxA (.dK l) b = (keyP b).bind (atK l) := (rfl)
@[simp] theorem pIxA_dT {l : List (List Key × PV)} {b : PV} : pIxA (.dT l) b = (keysP b).bind (atT l) := (rfl)
@[simp] theorem pIxA_fT {l : List (List Key × PV)} {b : PV} : pIxA (.fT l) b = (keysP b).bind (atT l) := (rfl)
@[simp] theorem pIxA_fK {l : List (Key × PV)} {b : PV} : pIxA (.fK l) b = (keyP b).bind (atK l) := (rfl)
def setIxA (q p j : PV) (i : Nat) (e : En) : SOut := match q with
  | .lst l => match j with
    | .int j => match ixN l.length j with
      | some n => .nxt (e.set i (some (.lst (l.set n p))))
      | none => .bad
    | _ => .bad
  | .dK l => match keyP j with
    | some k => if l.length < sizeLine then .nxt (e.set i (some (.dK (putP l k p)))) else .bad
    | none => .bad
  | .dT l => match keysP j with
    | some k => if l.length < sizeLine then .nxt (e.set i (some (.dT (putT l k p)))) else .bad
    | none => .bad
  | _ => .bad
@[simp] theorem setIxA_int {l : List PV} {p : PV} {j : Int} {i : Nat} : setIxA (.lst l) p (.int j) i e = setN (ixN l.length j) fun n => .nxt (e.set i (some (.lst (l.set n p)))) := by
  simp only [setIxA]; unfold setN; rfl
@[simp] theorem mSetIxA_ap {i : Nat} {mj me : Mo PV} : mSetIxA i mj me e = SOut.of (me e) fun p e1 => getS e1[i]? fun _ => SOut.of (mj e1) fun j e2 => getS e2[i]? fun q => setIxA q p j i e2 := by
  unfold mSetIxA
  congr 1
  funext p e1
  unfold getS
  split <;> rename_i h2
  · simp only [h2]
    congr 1
    funext j e2
    split <;> rename_i h3
    · simp only [h3]; cases j <;> rfl
    · simp only [h3]; rfl
    · simp only [h3]; rfl
    · split
      · rename_i q h4
        cases q <;> first | rfl | (exfalso; simp_all)
      · rfl
  · first | rfl | (split <;> first | rfl | (exfalso; simp_all))
@[simp] theorem mUn_ap {g : PV → Option PV} {m : Mo PV} : mUn g m e = (m e).bind fun p e1 => lift (g p) e1 := (rfl)
@[simp] theorem mOne_ap {g : PV → Option PV} {m : Mo PV} : mOne g m e = (m e).bind fun p e1 => lift (g p) e1 := (rfl)
@[simp] theorem mFz_ap {m : Mo PV} : mFz m e = (m e).bind fun p e1 => lift (match p with
  | .dK l => some (.fK l)
  | _ => none) e1 := (rfl)
@[simp] theorem mItK_ap {m : Mo PV} : mItK m e = (m e).bind fun p e1 => lift (keysOf p) e1 := (rfl)
end
end M

namespace M
open PySem PySem.Spec PyProof.Rows L2

/-! ### a list of one's own, passed on to be read: nothing that comes back is it -/
def aprt : PV → PV → Bool
  | .int i, .int j => decide (i ≠ j)
  | .int _, .gl _ => false
  | .gl _, _ => false
  | .int _, _ => true
  | _, _ => false
def aprtL : List PV → List PV → Bool
  | [], [] => false
  | [], _ :: _ => true
  | _ :: _, [] => true
  | p :: l, q :: m => aprt p q || aprt q p || aprtL l m
mutual
/-- no list of p can be the list l -/
def noL (l : List PV) : PV → Bool
  | .lst m => aprtL m l && noLs l m
  | .tup m => noLs l m
  | .fz m => noLs l m
  | .dK m => noLk l m
  | .fK m => noLk l m
  | .dT m => noLt l m
  | .fT m => noLt l m
  | .clo _ => true
  | .ins _ m => noLf l m
  | .exn _ _ _ m => noLf l m
  | _ => true
def noLs (l : List PV) : List PV → Bool
  | [] => true
  | p :: m => noL l p && noLs l m
def noLk (l : List PV) : List (Key × PV) → Bool
  | [] => true
  | (_, p) :: m => noL l p && noLk l m
def noLt (l : List PV) : List (List Key × PV) → Bool
  | [] => true
  | (_, p) :: m => noL l p && noLt l m
def noLf (l : List PV) : List (Str × PV) → Bool
  | [] => true
  | (_, p) :: m => noL l p && noLf l m
end
section
variable {S : Se} {H : Hp} {O O' O0 : Addr → Prop}
theorem aprt_no {v : V} {p q : PV} (h : aprt p q = true) (r : RV S H O v p) (s : RV S H O0 v q) : False := by
  unfold aprt at h
  split at h
  · cases r; cases s; simp at h
  · cases h
  · cases h
  · cases r; cases s <;> simp_all
  · cases h
theorem aprtL_no : ∀ {vs : List V} {l m : List PV}, aprtL l m = true → RVs S H O vs l → RVs S H O0 vs m → False
  | _, _, _, h, .nil, .nil => by simp [aprtL] at h
  | _, _, _, h, .cons r t, .cons s u => by
    simp only [aprtL, Bool.or_eq_true] at h
    rcases h with (h | h) | h
    · exact aprt_no h r s
    · exact aprt_no h s r
    · exact aprtL_no h t u
end
section
variable {S : Se} {H : Hp} {O : Addr → Prop} {a : Addr} {ws : List V} {l : List PV} {O0 : Addr → Prop}
def plus (O : Addr → Prop) (a : Addr) : Addr → Prop := fun b => O b ∨ b = a
mutual
theorem RV.more (ha : H a = some (.lst ws)) (hl : RVs S H O0 ws l) {v : V} {p : PV} (h : noL l p = true) : RV S H O v p → RV S H (plus O a) v p
  | .non => .non
  | .bl b => .bl b
  | .int i => .int i
  | .str x => .str x
  | .ty n => .ty n
  | .gl h r => .gl h r
  | .tup n r t => .tup (fun z => z.elim n fun e => by subst e; rw [r] at ha; cases ha) r (RVs.more ha hl (by simpa [noL] using h) t)
  | .lst n r t => by
    simp only [noL, Bool.and_eq_true] at h
    refine .lst (fun z => z.elim n fun e => ?_) r (RVs.more ha hl h.2 t)
    subst e
    rw [r] at ha
    cases ha
    exact aprtL_no h.1 t hl
  | .fz n r t => .fz (fun z => z.elim n fun e => by subst e; rw [r] at ha; cases ha) r (RVs.more ha hl (by simpa [noL] using h) t)
  | .fzK r t => .fzK r (RVs.more ha hl (by simpa [noL] using h) t)
  | .dK n r t => .dK (fun z => z.elim n fun e => by subst e; rw [r] at ha; cases ha) r (KVs.more ha hl (by simpa [noL] using h) t)
  | .fK n r t => .fK (fun z => z.elim n fun e => by subst e; rw [r] at ha; cases ha) r (KVs.more ha hl (by simpa [noL] using h) t)
  | .dT n r t => .dT (fun z => z.elim n fun e => by subst e; rw [r] at ha; cases ha) r (TVs.more ha hl (by simpa [noL] using h) t)
  | .fT n r t => .fT (fun z => z.elim n fun e => by subst e; rw [r] at ha; cases ha) r (TVs.more ha hl (by simpa [noL] using h) t)
  | .clo m n n2 r e0 r2 => .clo m (fun z => z.elim n fun e => by subst e; rw [r] at ha; cases ha) (fun z => z.elim n2 fun e => by subst e; rw [r2] at ha; cases ha) r e0 r2
  | .ins n r m t => .ins (fun z => z.elim n fun e => by subst e; rw [r] at ha; cases ha) r m (FVs.more ha hl (by simpa [noL] using h) t)
  | .exn n r m t => .exn (fun z => z.elim n fun e => by subst e; rw [r] at ha; cases ha) r m (FVs.more ha hl (by simpa [noL] using h) t)
theorem RVs.more (ha : H a = some (.lst ws)) (hl : RVs S H O0 ws l) {vs : List V} {m : List PV} (h : noLs l m = true) : RVs S H O vs m → RVs S H (plus O a) vs m
  | .nil => .nil
  | .cons r t => by
    simp only [noLs, Bool.and_eq_true] at h
    exact .cons (RV.more ha hl h.1 r) (RVs.more ha hl h.2 t)
theorem KVs.more (ha : H a = some (.lst ws)) (hl : RVs S H O0 ws l) {vs : List (Key × V)} {m : List (Key × PV)} (h : noLk l m = true) : KVs S H O vs m → KVs S H (plus O a) vs m
  | .nil => .nil
  | .cons r t => by
    simp only [noLk, Bool.and_eq_true] at h
    exact .cons (RV.more ha hl h.1 r) (KVs.more ha hl h.2 t)
theorem TVs.more (ha : H a = some (.lst ws)) (hl : RVs S H O0 ws l) {vs : List (List Key × V)} {m : List (List Key × PV)} (h : noLt l m = true) : TVs S H O vs m → TVs S H (plus O a) vs m
  | .nil => .nil
  | .cons r t => by
    simp only [noLt, Bool.and_eq_true] at h
    exact .cons (RV.more ha hl h.1 r) (TVs.more ha hl h.2 t)
theorem FVs.more (ha : H a = some (.lst ws)) (hl : RVs S H O0 ws l) {vs : List (Str × V)} {m : List (Str × PV)} (h : noLf l m = true) : FVs S H O vs m → FVs S H (plus O a) vs m
  | .nil => .nil
  | .cons r t => by
    simp only [noLf, Bool.and_eq_true] at h
    exact .cons (RV.more ha hl h.1 r) (FVs.more ha hl h.2 t)
end
end
def IsDict (o : HO) : Prop := (∃ l, o = .dK l) ∨ ∃ l, o = .dT l
section
variable {S : Se} {H : Hp} {O : Addr → Prop} {a : Addr} {od : HO}
theorem IsDict.ne {u : HO} (hd : IsDict od) (ha : H a = some od) {b : Addr} (hb : H b = some u) (h1 : ∀ l, u ≠ .dK l) (h2 : ∀ l, u ≠ .dT l) : b ≠ a := fun e => by
  subst e
  rw [hb] at ha
  cases ha
  rcases hd with ⟨l, e⟩ | ⟨l, e⟩
  · exact h1 l e
  · exact h2 l e
end
section
variable {X : Cx} {F : Fm} {ow : List Nat} {σ : L2.St} {H : Hp}
end
end M

namespace M
open PySem PySem.Spec PyProof.Rows L2

/-! ### a dict of one's own is let go: it is frozen, and can be walked -/
section
variable {X : Cx} {F : Fm} {ow ow' ow1 ob : List Nat} {σ : L2.St} {H : Hp}
end
end M

namespace M
open PySem PySem.Spec PyProof.Rows L2

/-! ### xs.index(i) of ints -/
section
variable {X : Cx} {F : Fm} {ow : List Nat} {σ : L2.St} {H : Hp}
/-! ### d.get(k, x) -/
/-! ### list(range(n)) -/
end
end M

namespace M
open PySem PySem.Spec PyProof.Rows L2

/-! ### xs[i], ys[j] = a, b of one's own -/
section
variable {X : Cx} {F : Fm} {ow ow' ob : List Nat} {σ : L2.St} {H : Hp}
/-! ### a target of three -/
end
end M

namespace M
open PySem PySem.Spec PyProof.Rows L2

/-! ### list(d) of a frozen dict too -/
def gListB : List PV → Option PV
  | [.fK l] => some (.lst (l.map fun kv => keyV kv.1))
  | l => gListA l
section
variable {X : Cx} {F : Fm}
end
end M

namespace M
open PySem PySem.Spec PyProof.Rows L2

/-! ### sum of a tuple too -/
def gSumB : List PV → Option PV
  | [.tup l] => (toIs l).map fun ns => .int ns.sum
  | l => gSum l
section
variable {X : Cx} {F : Fm}
end
end M

namespace M
open PySem PySem.Spec PyProof.Rows L2

/-! ### enumerate of a list too -/
section
variable {X : Cx} {F : Fm} {ow : List Nat}
end
end M

namespace M
open PySem PySem.Spec PyProof.Rows L2

/-! ### zip of a list and a tuple, in any mix -/
section
variable {X : Cx} {pins : List (Addr × Obj)} {σ : L2.St} {H : Hp} {s : Shared}
end
section
variable {X : Cx} {F : Fm} {ow : List Nat}
end
end M

namespace M
open PySem PySem.Spec PyProof.Rows L2

/-! ### a call without arguments, while no repr is under way -/
section
variable {X : Cx} {F : Fm} {ow : List Nat}
end
end M


namespace M
open PySem PySem.Spec PyProof.Rows L2

/-! ### min(xs, key=lambda k: ys[k][c]) -/
section
variable {prog : Program} {w : World} {A : Around} {E : Value → Shared → Prop} {s : Shared}
end
/-- all that stood stands, as it was -/
structure Old (s1 s : Shared) : Prop where
  heap : ∀ b o, s1.heap.get? b = some o → s.heap.get? b = some o
  gens : s.gens = s1.gens
  drawn : s.drawn = s1.drawn
  os : s.os = s1.os
theorem Old.is {s1 s : Shared} (h : Old s1 s) : s = { s1 with heap := s.heap, toks := s.toks } := by
  obtain ⟨a, b, c, d, e⟩ := s
  obtain ⟨h1, h2, h3, h4⟩ := h
  simp only at h2 h3 h4
  subst h2 h3 h4
  rfl
section
variable {prog : Program} {w : World} {A : Around} {E : Value → Shared → Prop} {s : Shared}
/-- what the lambda needs, at a state and all that keep it -/
structure LamAt (s : Shared) (f c' cs a : Addr) (qual sn kn : Str) (params : Arguments) (body : Expr) (scope : Scope) (clos : List (Str × Addr)) (pm ctv : Value) (its : Array Value) : Prop where
  ho : s.heap.get? f = some (PySem.W.kla_obj "<lambda>" qual params body scope clos pm c' ctv)
  hcd : ∃ (oc : Obj) (vs : Array Value) (t : Tok), s.heap.get? c' = some oc ∧ oc.data = .fields vs ∧ vs[1]? = some (.str qual t)
  nl : s.heap.NoLimit
  hc : clos.lookup sn = some cs
  hcell : s.heap.IsCell cs (some (.ref a))
  ha : IsTup s.heap a its
theorem LamAt.old {s s' : Shared} {f c' cs a : Addr} {qual sn kn : Str} {params : Arguments} {body : Expr} {scope : Scope} {clos : List (Str × Addr)} {pm ctv : Value} {its : Array Value} (h : LamAt s f c' cs a qual sn kn params body scope clos pm ctv its) (o : Old s s') : LamAt s' f c' cs a qual sn kn params body scope clos pm ctv its := by
  obtain ⟨oc, vs, t, h1, h2, h3⟩ := h.hcd
  obtain ⟨oq, hq, dq⟩ := h.hcell
  exact ⟨o.heap _ _ h.ho, ⟨oc, vs, t, o.heap _ _ h1, h2, h3⟩, h.nl.keeps o.heap, h.hc, ⟨oq, o.heap _ _ hq, dq⟩, h.ha.keeps o.heap⟩
end
end M

namespace M
open PySem PySem.Spec PyProof.Rows L2

/-! ### min and max of ints by ys[k][c], as a rule -/
section
variable {X : Cx} {F : Fm} {ow : List Nat}
/-- what is needed of the text -/
structure KeyLam (X : Cx) (params : Arguments) (sn kn : Str) (scope : Scope) (body : Expr) : Prop where
  co : scope.isCoroutine = false
  gn : scope.isGenerator = false
  hk : scope.kind = .function
  hnc : ∀ y ∈ scope.names, y.2 ≠ .cell
  hl : scope.names.lookup kn = some .local
  hf : scope.names.lookup sn = some .free
  hfr : ∀ y ∈ scope.names, y.2 = .free → X.env.scope.names.lookup y.1 = some .cell ∨ X.env.scope.names.lookup y.1 = some .free
  hdef : defaultsOf params X.env = ([], [])
  hbind : ∀ (q : Str) (cl : List (Str × Addr)) (pm cv ctv : Value) (i : Int) (t : Tok), bindArgs (PySem.W.kla_fn "<lambda>" q params body scope cl pm cv ctv) ⟨[.int i t], []⟩ = pure [(kn, .int i t)]
end
end M

namespace M
open PySem PySem.Spec PyProof.Rows L2

/-! ### defs whose code objects are known, wherever they are called -/


/-! ### the text of a key lambda, judged -/
end M

namespace M
open PySem PySem.Spec PyProof.Rows L2

/-! ### str of None too -/
section
variable {X : Cx} {F : Fm} {ow : List Nat}
end
end M

namespace M
open PySem PySem.Spec PyProof.Rows L2

/-! ### (a, b), (c, d) = value -/
section
variable {X : Cx} {F : Fm} {ow ob : List Nat}
end
end M

namespace M
open PySem PySem.Spec PyProof.Rows L2

/-! ### f(g(x)): a fresh list, changed by f and then let go -/
section
variable {X : Cx} {F : Fm} {ow : List Nat}
end
end M

namespace M
open PySem PySem.Spec PyProof.Rows L2

/-! ### {k: v, ..} with constant keys -/
section
variable {X : Cx} {F : Fm} {ow : List Nat}
def rdP (F : Fm) (ow : List Nat) (ks : List Key) (ml : Mo (List PV)) (σ : L2.St) (H : Hp) (Q : List (V × V) → Hp → Prop) : Prop := ∃ e, ER F.S F.G ow σ H e ∧ Post F ow σ H (ml e) fun ps _ H1 =>
  ps.length = ks.length → ∀ kvs, KVs F.S H1 (Gd F.G ow σ) kvs (ks.zip ps) → kvs.map (·.1) = ks → Q (kvs.map fun kv => (kV kv.1, kv.2)) H1
structure PD (X : Cx) (F : Fm) (ow : List Nat) (pos : Pos) (keys : List (Option Expr)) (values : List Expr) (ks : List Key) (ml : Mo (List PV)) : Prop where
  ex : ∃ trs, PPs X pos keys values trs ∧ ∀ z σ H Q, rdP (F.ext z) ow ks ml σ H Q → tPairs trs σ H Q
end
end M

namespace M
open PySem PySem.Spec PyProof.Rows L2

/-! ### a list of one's own, passed on to be read by a def that returns a fresh list -/
section
variable {X : Cx} {F : Fm} {ow : List Nat} {σ : L2.St} {H : Hp}
end
end M

namespace M
open PySem PySem.Spec PyProof.Rows L2

/-! ### {k: v for ..}, its keys tuples of ints and texts -/
def mDictT0 : Mo PV := fun e => .ok (.dT []) e
@[simp] theorem mDictT0_ap {e : En} : mDictT0 e = .ok (.dT []) e := (rfl)
/-! ### {k: v for ..} -/
section
variable {X : Cx} {F : Fm} {ow ow' ob : List Nat} {σ σ1 σ2 : L2.St} {H H1 H2 : Hp}
end
section
variable {X : Cx}
end
section
variable {X : Cx} {F : Fm} {ow ow' ob : List Nat} {σ : L2.St} {H : Hp}
end
end M

namespace M
open PySem PySem.Spec PyProof.Rows L2

/-! ### a test that only looks at cells of one's own -/
def mShrT (m : Mo Bool) : Mo Bool := fun e => match m e with
  | .ok b _ => .ok b e
  | _ => .bad
section
variable {X : Cx} {F : Fm} {ow : List Nat} {σ : L2.St} {H H' : Hp} {e e1 : En}
@[simp] theorem mShrT_ap {m : Mo Bool} : mShrT m e = match m e with
  | .ok b _ => .ok b e
  | _ => .bad := rfl
end
end M

namespace M
open PySem PySem.Spec PyProof.Rows L2

/-! ### either way -/
/-! ### calls of more arguments -/
@[simp] theorem dcallX0 {mf : List PV → Out PV} {e : En} : dcallX 0 mf [] e = liftX (outX mf []) e := (rfl)
@[simp] theorem dcallX5 {mf : List PV → Out PV} {e : En} {a b c d g : PV} : dcallX 5 mf [.v a, .v b, .v c, .v d, .v g] e = liftX (outX mf [a, b, c, d, g]) e := (rfl)
@[simp] theorem dcallX6 {mf : List PV → Out PV} {e : En} {a b c d g h : PV} : dcallX 6 mf [.v a, .v b, .v c, .v d, .v g, .v h] e = liftX (outX mf [a, b, c, d, g, h]) e := (rfl)
@[simp] theorem dcallX7 {mf : List PV → Out PV} {e : En} {a b c d g h i : PV} : dcallX 7 mf [.v a, .v b, .v c, .v d, .v g, .v h, .v i] e = liftX (outX mf [a, b, c, d, g, h, i]) e := (rfl)
@[simp] theorem dcall6 {mf : List PV → Out PV} {e : En} {a b c d g h : PV} : dcall 6 mf [.v a, .v b, .v c, .v d, .v g, .v h] e = lift (outV mf [a, b, c, d, g, h]) e := (rfl)
@[simp] theorem dcall7 {mf : List PV → Out PV} {e : En} {a b c d g h i : PV} : dcall 7 mf [.v a, .v b, .v c, .v d, .v g, .v h, .v i] e = lift (outV mf [a, b, c, d, g, h, i]) e := (rfl)
end M

namespace M
open PySem PySem.Spec PyProof.Rows L2

/-! ### lambdas that stand as values: they are made -/
section
variable {X : Cx} {pins : List (Addr × Obj)} {σ : L2.St} {H : Hp} {s : Shared}
end
section
variable {X : Cx} {F : Fm} {ow : List Nat}
end

/-! ### .. and called: what such a lambda promises -/
structure LOk (P : Program) (w : World) (K : PySem.W.Frag) (mg : Str → Option Value) (base : Heap) (CX : CXT) (k : Nat) (f : Addr) (F : LF) (ps fr : List Str) (sp : List (Option V) → Sp) : Prop where
  len : ∀ ws vs H Q E, sp ws vs H Q E → vs.length = ps.length
  run : ∀ (A : Around) (outer : List Env) (s : Shared) (H : Hp) (us : List Value) (vs : List V) (ws : List (Option V)) (Q : VK) (E : XK), Room k A → Env0 P w K mg base A outer s H → H f = some (LamO f F) → H F.c = some (LamX.CodeO F.c F.qual) →
    NdefX.CellsAt F.cl fr ws s.heap H → Vals vs us → sp ws vs H Q E → codeAny (model P w) A (.call (.ref f) ⟨us, []⟩) (CR CX outer P w H s Q E) s
theorem LOk.mono {P : Program} {w : World} {K : PySem.W.Frag} {mg : Str → Option Value} {base : Heap} {CX : CXT} {j k : Nat} {f : Addr} {F : LF} {ps fr : List Str} {sp : List (Option V) → Sp} (o : LOk P w K mg base CX j f F ps fr sp) (h : j ≤ k) : LOk P w K mg base CX k f F ps fr sp :=
  ⟨o.len, fun A outer s H us vs ws Q E hr => o.run A outer s H us vs ws Q E (hr.mono h)⟩

/-! ### .. by its mirror, over its arguments and what it captured -/
def spL (S : Se) (n m : Nat) (mf : List PV → Out PV) : List (Option V) → Sp := fun ws vs H Q E => ∃ (O : Addr → Prop) (ps cs : List PV), vs.length = n ∧ ps.length = n ∧ cs.length = m ∧ ws.length = m ∧ Pre H O ∧ LamX.Tabs S.T.l H ∧
  (∀ (k : Nat) (p : PV), ps[k]? = some p → ∃ v, vs[k]? = some v ∧ RV S H O v p) ∧ (∀ (k : Nat) (p : PV), cs[k]? = some p → ∃ v, ws[k]? = some (some v) ∧ RV S H O v p) ∧
  match mf (ps ++ cs) with
  | .ok p _ => ∀ v H', KeepA H H' → LamX.Tabs S.T.l H' → RV S H' O v p → Q v H'
  | .exc x _ => ∀ cls d H', KeepA H H' → LamX.Tabs S.T.l H' → ExAt S H' O cls d x → E cls d H'
  | .bad => False
end M

namespace M
open PySem PySem.Spec PyProof.Rows L2

/-! ### a lambda that stands as a value, called in another lambda of the same frame -/
def capsOf (e : En) : List Nat → Option (List PV)
  | [] => some []
  | j :: js => match e[j]? with
    | some (some p) => (capsOf e js).map (p :: ·)
    | _ => none
/-- the arguments, none of them one's own cell -/
def valsA : List Ar → Option (List PV)
  | [] => some []
  | .v p :: l => (valsA l).map (p :: ·)
  | .o _ :: _ => none
abbrev Ctb := Str → Option ((List PV → Out PV) × List Nat)
def mCallC (i n : Nat) (ctb : Ctb) (ml : Mo (List Ar)) : Mo PV := fun e => match e[i]? with
  | some (some (.clo k)) => match ctb k with
    | some (mf, js) => (ml e).bind fun l e1 => match e1[i]?, valsA l, capsOf e1 js with
      | some (some (.clo k')), some ps, some cs => if k' = k ∧ ps.length = n then (match mf (ps ++ cs) with
        | .ok p _ => .ok p e1
        | .exc x _ => .exc x e1
        | .bad => .bad) else .bad
      | _, _, _ => .bad
    | none => .bad
  | _ => .bad
/-- the lambdas of the table stand as it says -/
structure CtOk (X : Cx) (T : Tt) (ow : List Nat) (CX : CXT) (kk n : Nat) (ctb : Ctb) : Prop where
  at_ : ∀ k mf js, ctb k = some (mf, js) → (∀ j ∈ js, j ∉ ow) ∧ ∃ (mk : Addr → LF) (ps fr : List Str), T.C k = some mk ∧ (∀ c', (mk c').c = c') ∧ (∀ c', X.Ok → NdefX.Caps X (mk c').cl fr js) ∧ js.length = fr.length ∧
    ∀ f c', LOk X.prog X.w X.K X.mg X.base CX kk f (mk c') ps fr (spL ⟨X.K, X.mg, T⟩ n fr.length mf)
section
variable {X Y : Cx} {F : Fm} {ow : List Nat}
end
end M

namespace M
open PySem PySem.Spec PyProof.Rows L2

/-! ### x(lambda: f(..)), f a lambda that stands as a value -/
section
variable {X : Cx} {pins : List (Addr × Obj)} {σ : L2.St} {H : Hp} {s : Shared}
end
section
variable {X : Cx}
end
end M

namespace M
open PySem PySem.Spec PyProof.Rows L2

/-! ### a call of a def or of a lambda that stands as a value -/
def mEitherC (i : Nat) (m1 m2 : Mo PV) : Mo PV := fun e => match e[i]? with
  | some (some (.clo _)) => m2 e
  | _ => m1 e

/-! ### values without such lambdas -/
section
variable {K : PySem.W.Frag} {mg : Str → Option Value} {T T' : Tt} {H : Hp} {O : Addr → Prop}
end
/-! ### a def whose lambdas stand as values -/
end M
namespace M
open PySem PySem.Spec PyProof.Rows L2

/-! ### where a lambda stands in a def's text -/
end M

namespace M
open PySem PySem.Spec PyProof.Rows L2

/-! ### lambdas that stand as values: evaluation -/
def getCl (o : Option (Option PV)) (a b : Out PV) : Out PV := match o with
  | some (some (.clo _)) => a
  | _ => b
@[simp] theorem getCl_clo {k : Str} {a b : Out PV} : getCl (some (some (.clo k))) a b = a := (rfl)
@[simp] theorem getCl_gl {k : Str} {a b : Out PV} : getCl (some (some (.gl k))) a b = b := (rfl)
@[simp] theorem mEitherC_ap {i : Nat} {m1 m2 : Mo PV} {e : En} : mEitherC i m1 m2 e = getCl e[i]? (m2 e) (m1 e) := by unfold mEitherC getCl; rfl
def finC (mf : List PV → Out PV) (n : Nat) (e : En) : Option (List PV) → Option (List PV) → Out PV
  | some ps, some cs => if ps.length = n then liftX (outX mf (ps ++ cs)) e else .bad
  | _, _ => .bad
@[simp] theorem finC_some {mf : List PV → Out PV} {n : Nat} {e : En} {ps cs : List PV} : finC mf n e (some ps) (some cs) = if ps.length = n then liftX (outX mf (ps ++ cs)) e else .bad := (rfl)
def getC (o : Option (Option PV)) (ctb : Ctb) (f : Str → (List PV → Out PV) → List Nat → Out PV) : Out PV := match o with
  | some (some (.clo k)) => match ctb k with
    | some (mf, js) => f k mf js
    | none => .bad
  | _ => .bad
def getK (o : Option (Option PV)) (k : Str) (r : Out PV) : Out PV := match o with
  | some (some (.clo k')) => if k' = k then r else .bad
  | _ => .bad
@[simp] theorem getK_clo {k : Str} {r : Out PV} : getK (some (some (.clo k))) k r = r := if_pos rfl
theorem fin_eq {mf : List PV → Out PV} {n : Nat} {e1 : En} {k : Str} (o : Option (Option PV)) (a b : Option (List PV)) : (match o, a, b with
      | some (some (.clo k')), some ps, some cs => if k' = k ∧ ps.length = n then (match mf (ps ++ cs) with
        | .ok p _ => .ok p e1
        | .exc x _ => .exc x e1
        | .bad => .bad) else .bad
      | _, _, _ => Out.bad) = getK o k (finC mf n e1 a b) := by
  match o with
  | none => rfl
  | some none => rfl
  | some (some p) =>
    cases p with
    | clo k' =>
      show _ = if k' = k then finC mf n e1 a b else .bad
      cases a with
      | none => by_cases h : k' = k <;> simp [h, finC]
      | some ps =>
        cases b with
        | none => by_cases h : k' = k <;> simp [h, finC]
        | some cs =>
          by_cases h : k' = k
          · by_cases h2 : ps.length = n
            · simp only [h, h2, and_self, if_true, finC]
              unfold liftX outX
              cases mf (ps ++ cs) <;> rfl
            · simp [h, h2, finC]
          · simp [h]
    | _ => rfl
@[simp] theorem mCallC_ap {i n : Nat} {ctb : Ctb} {ml : Mo (List Ar)} {e : En} : mCallC i n ctb ml e = getC e[i]? ctb fun k mf js => (ml e).bind fun l e1 => getK e1[i]? k (finC mf n e1 (valsA l) (capsOf e1 js)) := by
  unfold mCallC
  generalize e[i]? = o
  match o with
  | none => rfl
  | some none => rfl
  | some (some p) =>
    cases p with
    | clo k =>
      simp only [getC]
      cases ctb k with
      | none => rfl
      | some q => exact congrArg (Out.bind (ml e)) (funext fun l => funext fun e1 => fin_eq e1[i]? (valsA l) (capsOf e1 q.2))
    | _ => rfl
@[simp] theorem valsA_nil : valsA [] = some [] := (rfl)
@[simp] theorem valsA_v {p : PV} {l : List Ar} : valsA (.v p :: l) = (valsA l).map (p :: ·) := (rfl)
@[simp] theorem capsOf_nil {e : En} : capsOf e [] = some [] := (rfl)
def capP (o : Option (Option PV)) (r : Option (List PV)) : Option (List PV) := match o with
  | some (some p) => r.map (p :: ·)
  | _ => none
@[simp] theorem capP_some {p : PV} {r : Option (List PV)} : capP (some (some p)) r = r.map (p :: ·) := (rfl)
@[simp] theorem capsOf_cons {e : En} {j : Nat} {js : List Nat} : capsOf e (j :: js) = capP e[j]? (capsOf e js) := by
  unfold capP
  simp only [capsOf] <;> (split <;> rename_i h <;> simp only [h])
end M

namespace M
open PySem PySem.Spec PyProof.Rows L2
/-! ### bool -/
section
variable {X : Cx} {F : Fm}
def gBool : List PV → Option PV
  | [.int i] => some (.bl (i != 0))
  | [.bl b] => some (.bl b)
  | [.lst l] => some (.bl (!l.isEmpty))
  | _ => none
end
@[simp] theorem gBool_int {i : Int} : gBool [.int i] = some (.bl (i != 0)) := (rfl)
@[simp] theorem gBool_bl {b : Bool} : gBool [.bl b] = some (.bl b) := (rfl)
@[simp] theorem gBool_lst {l : List PV} : gBool [.lst l] = some (.bl (!l.isEmpty)) := (rfl)
end M

namespace M
open PySem PySem.Spec PyProof.Rows L2
/-! ### sorted of tuples of ints -/
/-! the call -/
section
variable {prog : Program} {w : World} {A : Around} {E : Value → Shared → Prop} {s : Shared}
end
section
variable {X : Cx} {F : Fm} {pins : List (Addr × Obj)} {σ : L2.St} {H : Hp} {s : Shared} {S : Se} {O : Addr → Prop}
end
end M

namespace M
open PySem PySem.Spec PyProof.Rows L2
/-! ### [.. for .. for ..] -/
def lcLoop2 (own : List Nat) (f : PV → En → Option En) (mt : Mo Bool) (mi1 : Mo (List PV)) (own1 : List Nat) (f1 : PV → En → Option En) (mt1 : Mo Bool) (me : Mo PV) : List PV → List PV → En → Out PV
  | [], acc, e => .ok (.lst acc) e
  | p :: l, acc, e => match f p (wipeE e own) with
    | none => .bad
    | some e1 => match mt e1 with
      | .ok true e2 => match mi1 e2 with
        | .ok l1 e3 => match lcLoop own1 f1 mt1 me l1 acc e3 with
          | .ok (.lst acc') e4 => lcLoop2 own f mt mi1 own1 f1 mt1 me l acc' (restE own e e4)
          | _ => .bad
        | _ => .bad
      | .ok false e2 => lcLoop2 own f mt mi1 own1 f1 mt1 me l acc (restE own e e2)
      | _ => .bad
def mLc2 (own : List Nat) (f : PV → En → Option En) (mt : Mo Bool) (mi1 : Mo (List PV)) (own1 : List Nat) (f1 : PV → En → Option En) (mt1 : Mo Bool) (me : Mo PV) (mi : Mo (List PV)) : Mo PV := fun e => (mi e).bind fun l e1 => lcLoop2 own f mt mi1 own1 f1 mt1 me l [] e1
section
variable {X : Cx} {F : Fm} {ow ow' ow1 ow2 ob : List Nat} {σ σ1 σ2 : L2.St} {H H1 H2 : Hp}
end
@[simp] theorem mLc2_ap {own : List Nat} {f : PV → En → Option En} {mt : Mo Bool} {mi1 : Mo (List PV)} {own1 : List Nat} {f1 : PV → En → Option En} {mt1 : Mo Bool} {me : Mo PV} {mi : Mo (List PV)} {e : En} : mLc2 own f mt mi1 own1 f1 mt1 me mi e = (mi e).bind fun l e1 => lcLoop2 own f mt mi1 own1 f1 mt1 me l [] e1 := (rfl)
end M

namespace M
open PySem PySem.Spec PyProof.Rows L2
/-! ### {k: v, ..} with keys that are made, one's own -/
def pairU : List PV → Option (List (Key × PV))
  | [] => some []
  | [_] => none
  | k :: v :: r => match keyP k, pairU r with
    | some k', some l => some ((k', v) :: l)
    | _, _ => none
def mergeU (acc more : List (Key × PV)) : List (Key × PV) := more.foldl (fun a kv => putP a kv.1 kv.2) acc
def mDispC (ml : Mo (List PV)) : Mo PV := fun e => (ml e).bind fun l e1 => match pairU l with
  | some kvs => if kvs.length ≤ 15 then .ok (.dK (mergeU [] kvs)) e1 else .bad
  | none => .bad
section
variable {X : Cx} {F : Fm} {ow : List Nat} {S : Se} {H : Hp} {O : Addr → Prop}
theorem KVs.len : ∀ {kvs : List (Key × V)} {l : List (Key × PV)}, KVs S H O kvs l → kvs.length = l.length
  | _, _, .nil => rfl
  | _, _, .cons _ t => by simp [KVs.len t]
def rdC (F : Fm) (ow : List Nat) (ml : Mo (List PV)) (σ : L2.St) (H : Hp) (Q : List (V × V) → Hp → Prop) : Prop := ∃ e, ER F.S F.G ow σ H e ∧ Post F ow σ H (ml e) fun ps _ H1 =>
  ∃ kvs, pairU ps = some kvs ∧ ∀ xs : List (Key × V), KVs F.S H1 (Gd F.G ow σ) xs kvs → Q (xs.map fun kv => (kV kv.1, kv.2)) H1
structure PDc (X : Cx) (F : Fm) (ow : List Nat) (pos : Pos) (keys : List (Option Expr)) (values : List Expr) (ml : Mo (List PV)) : Prop where
  ex : ∃ trs, PPs X pos keys values trs ∧ ∀ z σ H Q, rdC (F.ext z) ow ml σ H Q → tPairs trs σ H Q
end
def dispC (l : List PV) (e1 : En) : Out PV := match pairU l with
  | some kvs => if kvs.length ≤ 15 then .ok (.dK (mergeU [] kvs)) e1 else .bad
  | none => .bad
@[simp] theorem mDispC_ap {ml : Mo (List PV)} {e : En} : mDispC ml e = (ml e).bind dispC := (rfl)
end M

namespace M
open PySem PySem.Spec PyProof.Rows L2
/-! ### isinstance of an instance of a class of the program, by a built-in type -/
def gIsiO (c : Str) : List PV → Option PV
  | [.ins d l, .ty n] => if d = c ∧ n ∈ kitT then some (.bl false) else none
  | ps => gIsi ps
section
variable {X : Cx} {F : Fm} {c : Str} {fs : List Str}
theorem co_isiO (T : OC X.K X.mg c fs) (hS : F.S = ⟨X.K, X.mg, F.S.T⟩ := by rfl) : CallOk X F (.builtin "isinstance") (gIsiO c) := by
  intro O
  refine ⟨_, call_isi, fun H xs ps r Q hp rs e q => ?_⟩
  have hK : F.S.K = X.K := by rw [hS]
  have hM : F.S.mg = X.mg := by rw [hS]
  unfold gIsiO at e
  split at e
  · rename_i d l n
    by_cases hd : d = c ∧ n ∈ kitT
    · rw [if_pos hd] at e
      cases e
      obtain ⟨rfl, hn⟩ := hd
      obtain ⟨x, y, rfl, rx, ry⟩ := rs.two
      cases ry.rv
      cases rx.rv with
      | ins n ea m t =>
        rw [hM, T.g] at m
        cases m
        exact ⟨_, _, .ref (He.ga X.K d), _, false, rfl, .ty _, .base (.ins ea T.ins.cl T.ins.ha T.ins.hn T.ins.htk T.ins.hm), T.kit1 _ hn, q _ H (fun _ _ z => z) (.bl _)⟩
    · rw [if_neg hd] at e; cases e
  · unfold gIsi at e
    split at e
    · rename_i p n _
      cases h : tyN p with
      | none => rw [h] at e; cases e
      | some t =>
        rw [h] at e
        simp only [Option.bind] at e
        cases h2 : kitB t n with
        | none => rw [h2] at e; cases e
        | some b =>
          rw [h2] at e
          cases e
          obtain ⟨x, y, rfl, rx, ry⟩ := rs.two
          cases ry.rv
          exact ⟨x, _, _, _, b, rfl, .ty n, hK ▸ WV.tyX rx h, kit_ty h2, q _ H (fun _ _ z => z) (.bl _)⟩
    · cases e
end
end M

namespace M
open PySem PySem.Spec PyProof.Rows L2
/-! ### where a mirror gives up -/
def mNone0 : Mo PV := fun _ => .bad
@[simp] theorem mNone0_ap {e : En} : mNone0 e = .bad := (rfl)
section
variable {X : Cx} {F : Fm} {ow : List Nat}
end
end M

namespace M
open PySem PySem.Spec PyProof.Rows L2
/-! ### xs.pop(), xs.pop(k), a list of one's own -/
def popO (i : Nat) (e : En) : PV → Out PV
  | .lst l => match l.getLast? with
    | some p => .ok p (e.set i (some (.lst l.dropLast)))
    | none => .bad
  | _ => .bad
def popAtO (i : Nat) (e : En) : PV → PV → Out PV
  | .lst l, .int k => if -(2 ^ 63) ≤ k ∧ k < 2 ^ 63 then (match seqIndex? k l.length with
    | some n => match l[n]? with
      | some p => .ok p (e.set i (some (.lst (l.eraseIdx n))))
      | none => .bad
    | none => .bad) else .bad
  | _, _ => .bad
def mPop (i : Nat) : Mo PV := fun e => getE e[i]? fun q => popO i e q
def mPopAt (i : Nat) (m : Mo PV) : Mo PV := fun e => getE e[i]? fun p0 => isLst p0 ((m e).bind fun k e1 => getE e1[i]? fun q => popAtO i e1 q k)
@[simp] theorem mPop_ap {i : Nat} {e : En} : mPop i e = getE e[i]? fun q => popO i e q := (rfl)
@[simp] theorem mPopAt_ap {i : Nat} {m : Mo PV} {e : En} : mPopAt i m e = getE e[i]? fun p0 => isLst p0 ((m e).bind fun k e1 => getE e1[i]? fun q => popAtO i e1 q k) := (rfl)
section
variable {X : Cx} {F : Fm} {ow : List Nat} {S : Se} {H : Hp} {O : Addr → Prop}
theorem RVs.dropLast : ∀ {vs : List V} {l : List PV}, RVs S H O vs l → RVs S H O vs.dropLast l.dropLast
  | _, _, .nil => .nil
  | _, _, .cons r .nil => .nil
  | _, _, .cons r (.cons r2 t) => .cons r (RVs.dropLast (.cons r2 t))
theorem RVs.eraseIdx : ∀ {vs : List V} {l : List PV} (n : Nat), RVs S H O vs l → RVs S H O (vs.eraseIdx n) (l.eraseIdx n)
  | _, _, _, .nil => .nil
  | _, _, 0, .cons r t => t
  | _, _, n + 1, .cons r t => .cons r (RVs.eraseIdx n t)
end
end M

namespace M
open PySem PySem.Spec PyProof.Rows L2
/-! ### one mirror, else the other -/
def elseO {α : Type} (a b : Out α) : Out α := match a with
  | .bad => b
  | o => o
def mElse {α : Type} (m1 m2 : Mo α) : Mo α := fun e => elseO (m1 e) (m2 e)
@[simp] theorem mElse_ap {α : Type} {m1 m2 : Mo α} {e : En} : mElse m1 m2 e = elseO (m1 e) (m2 e) := (rfl)
@[simp] theorem elseO_ok {α : Type} {p : α} {e : En} {o : Out α} : elseO (.ok p e) o = .ok p e := (rfl)
@[simp] theorem elseO_bad {α : Type} {o : Out α} : elseO .bad o = o := (rfl)
/-! ### l.count(i) of ints -/
/-! ### sorted of ints in a tuple, of a dict's keys -/
section
variable {X : Cx} {F : Fm} {ow : List Nat} {σ : L2.St} {H : Hp}
/-! sorted -/
/-! ### tuple(range(n)) -/
/-! ### list(range(n)), one's own -/
end
end M

namespace M
open PySem PySem.Spec PyProof.Rows L2
/-! ### a tuple many times over, any number of times -/
theorem tuple_mul0 (l : Addr) (items : Array Value) (n : Nat) (dd : Option Addr) (sl : Array (Option Value)) (x : Int) (u : Tok) (c0 : (decide (x < -(2 ^ 63)) || decide (x ≥ 2 ^ 63)) = false) (c1 : (items.isEmpty || x == 1) = false) (c2 : (decide (x ≤ 0) || items.isEmpty) = true) :
    Meets (Builtin.«tuple.__mul__» ⟨[.ref l, .int x u], []⟩) (fun _ R s => s.heap.get? l = some { cls := .type "tuple", dict := dd, data := .seq items n, slots := sl } ∧
      R (.ok (.ret (Value.ref s.heap.objs.size))) { s with heap := s.heap.push { cls := Value.type "tuple", data := Data.seq #[] }, toks := s.toks }) :=
  .of_wp fun prog w A R s h => by
    obtain ⟨hp, g, d, tk, os⟩ := s
    obtain ⟨hl, h⟩ := h
    have f1 := AutoSeq1.idx_int
    wp_walk using wpAny_loadPart' hl
    repeat (first
      | (refine wpAny_ite_false (decide_eq_false (by rw [c0]; exact Bool.false_ne_true)) ?_; wp_walk using wpAny_loadPart' hl)
      | (refine wpAny_ite_false (decide_eq_false (by rw [c1]; exact Bool.false_ne_true)) ?_; wp_walk using wpAny_loadPart' hl)
      | (refine wpAny_ite_true (decide_eq_true c2) ?_; wp_walk using wpAny_loadPart' hl))
    exact ⟨_, rfl, h⟩
theorem tuple_mul1 (l : Addr) (items : Array Value) (n : Nat) (dd : Option Addr) (sl : Array (Option Value)) (x : Int) (u : Tok) (c0 : (decide (x < -(2 ^ 63)) || decide (x ≥ 2 ^ 63)) = false) (c1 : (items.isEmpty || x == 1) = true) :
    Meets (Builtin.«tuple.__mul__» ⟨[.ref l, .int x u], []⟩) (fun _ R s => s.heap.get? l = some { cls := .type "tuple", dict := dd, data := .seq items n, slots := sl } ∧
      R (.ok (.ret (Value.ref l))) s) :=
  .of_wp fun prog w A R s h => by
    obtain ⟨hp, g, d, tk, os⟩ := s
    obtain ⟨hl, h⟩ := h
    have f1 := AutoSeq1.idx_int
    wp_walk using wpAny_loadPart' hl
    repeat (first
      | (refine wpAny_ite_false (decide_eq_false (by rw [c0]; exact Bool.false_ne_true)) ?_; wp_walk using wpAny_loadPart' hl)
      | (refine wpAny_ite_true (decide_eq_true c1) ?_; wp_walk using wpAny_loadPart' hl))
    exact ⟨_, rfl, h⟩
def rRep1 (K : PySem.W.Frag) : R2 := fun x y H Q => ∃ l k xs, x = .ref l ∧ y = .int k ∧ SqT K H l xs ∧ -(2 ^ 63) ≤ k ∧ k < 2 ^ 63 ∧ (((xs = [] ∨ k = 1) ∧ Q (.ref l) H) ∨ (xs ≠ [] ∧ k ≤ 0 ∧ ∀ p, H p = none → Q (.ref p) (upd H p (.tup []))))
section
variable {X : Cx} {F : Fm}
theorem op_rep1 : OpR X (binaryOp .Mult) (rRep1 X.K) := by
  intro pins s σ H x y v u Q I rx ry h
  obtain ⟨l, k, xs, rfl, rfl, hT, hk1, hk2, h⟩ := h
  cases rx
  obtain ⟨t, rfl⟩ := ry
  obtain ⟨its, r, ⟨⟨cls, dd, data, sl⟩, ho, hc, n, hd⟩, hs⟩ := I.tuple hT
  simp only at hc hd
  subst hc hd
  have hle : its.length = xs.length := r.length.symm
  have c0 : (decide (k < -(2 ^ 63)) || decide (k ≥ 2 ^ 63)) = false := by
    rw [decide_eq_false (by omega), decide_eq_false (by omega)] <;> rfl
  rcases h with ⟨h1, q⟩ | ⟨hne, hk, q⟩
  · have c1 : (its.toArray.isEmpty || k == 1) = true := by
      rcases h1 with h1 | h1
      · subst h1
        have : its = [] := List.length_eq_zero_iff.1 hle
        subst this
        rfl
      · subst h1
        cases its.toArray.isEmpty <;> rfl
    refine wpAny_binaryOp_repeat_ref (T := "tuple") (U := "int") (by decide) ⟨_, ho, rfl⟩ (fun s' => typeIs_int s' k t) noFill_tuple_mul F.fills_int_mul F.slot_int_rmul repeat_tuple F.slot_int_index.lookup
      (call_meets F.slot_int_rmul (typeIs_int s k t) F.entry_int_rmul (F.args_int_rmul_2 _ _) (int_rmul_tuple k t l its.toArray n dd sl)
        ⟨ho, rfl, ⟨_, ho, rfl⟩, call_meets F.slot_tuple_mul ⟨_, ho, rfl⟩ F.entry_tuple_mul (F.args_tuple_mul_2 _ _) (tuple_mul1 l its.toArray n dd sl k t c0 c1) ⟨ho, ?_⟩⟩)
    exact ⟨.ref l, H, I, rfl, q⟩
  · have hi : its.toArray.isEmpty = false := by
      cases its with
      | nil =>
        have : xs = [] := List.length_eq_zero_iff.1 hle.symm
        exact absurd this hne
      | cons a b => rfl
    have c1 : (its.toArray.isEmpty || k == 1) = false := by
      rw [hi, Bool.false_or]
      exact beq_eq_false_iff_ne.mpr (by omega)
    have c2 : (decide (k ≤ 0) || its.toArray.isEmpty) = true := by rw [decide_eq_true hk]; rfl
    refine wpAny_binaryOp_repeat_ref (T := "tuple") (U := "int") (by decide) ⟨_, ho, rfl⟩ (fun s' => typeIs_int s' k t) noFill_tuple_mul F.fills_int_mul F.slot_int_rmul repeat_tuple F.slot_int_index.lookup
      (call_meets F.slot_int_rmul (typeIs_int s k t) F.entry_int_rmul (F.args_int_rmul_2 _ _) (int_rmul_tuple k t l its.toArray n dd sl)
        ⟨ho, rfl, ⟨_, ho, rfl⟩, call_meets F.slot_tuple_mul ⟨_, ho, rfl⟩ F.entry_tuple_mul (F.args_tuple_mul_2 _ _) (tuple_mul0 l its.toArray n dd sl k t c0 c1 c2) ⟨ho, ?_⟩⟩)
    refine ⟨.ref s.heap.objs.size, _, I.laid (t' := s.toks) (o := .tup []) (fun b ob q => Heap.get?_push_of_some _ q) (Nat.le_refl _) ?_, rfl, q _ (I.hok.fresh (Nat.le_refl _))⟩
    exact ⟨by rw [sizeLine_eq]; simp, [], .nil, IsTup.new _ _⟩
def pRep1 : PV → PV → Option PV
  | .tup a, .int k => if (-(2 ^ 63) ≤ k ∧ k < 2 ^ 63) ∧ (a = [] ∨ k ≤ 1) then some (.tup (List.replicate k.toNat a).flatten) else none
  | _, _ => none
theorem bin_rep1 (hS : F.S = ⟨X.K, X.mg, F.S.T⟩ := by rfl) : BinOk X F (binaryOp .Mult) pRep1 := by
  intro O
  refine ⟨_, op_rep1, fun H x y a b c Q hp ra rb e q => ?_⟩
  unfold pRep1 at e
  split at e
  · rename_i a k
    split at e
    · rename_i hc
      cases e
      obtain ⟨p1, vs, rfl, h1, t1⟩ := ra.isT
      cases rb
      have hK : F.S.K = X.K := by rw [hS]
      rw [hK] at h1
      refine ⟨p1, k, vs, rfl, rfl, h1, hc.1.1, hc.1.2, ?_⟩
      by_cases ha : a = []
      · subst ha
        have hv : vs = [] := List.length_eq_zero_iff.1 (by rw [t1.length]; rfl)
        refine .inl ⟨.inl hv, q _ H (fun _ _ z => z) ?_⟩
        have : (List.replicate k.toNat ([] : List PV)).flatten = [] := by simp
        rw [this]; exact ra
      · have hv : vs ≠ [] := fun z => ha (List.length_eq_zero_iff.1 (by rw [← t1.length, z]; rfl))
        by_cases hk : k = 1
        · subst hk
          refine .inl ⟨.inr rfl, q _ H (fun _ _ z => z) ?_⟩
          have : (List.replicate (1 : Int).toNat a).flatten = a := by simp
          rw [this]; exact ra
        · have hk0 : k ≤ 0 := by
            rcases hc.2 with z | z
            · exact absurd z ha
            · omega
          refine .inr ⟨hv, hk0, fun p hn => q _ _ (fun z u e => ?_) ?_⟩
          · rw [upd_ne (ne_of_none e hn)]; exact e
          · have : (List.replicate k.toNat a).flatten = [] := by rw [show k.toNat = 0 by omega]; rfl
            rw [this]; exact RVs.nil.newT hn hp
    · cases e
  · cases e
/-- .. any number of times -/
def pMulU : PV → PV → Option PV
  | .tup a, .int k => if -(2 ^ 63) ≤ k ∧ k < 2 ^ 63 ∧ a.length * k.toNat ≤ 1000000 then some (.tup (List.replicate k.toNat a).flatten) else none
  | a, b => pMul a b
theorem bin_mulU (hS : F.S = ⟨X.K, X.mg, F.S.T⟩ := by rfl) : BinOk X F (binaryOp .Mult) pMulU := by
  refine ((bin_rep1 hS).or (bin_mul hS)).eq fun a b c h => ?_
  unfold pMulU at h
  split at h
  · rename_i a k
    simp only [pOr, pRep1, pMul]
    split at h
    · rename_i hc
      by_cases z : a = [] ∨ k ≤ 1
      · rw [if_pos ⟨⟨hc.1, hc.2.1⟩, z⟩]; exact h
      · rw [if_neg fun y => z y.2]
        simp only
        have : a ≠ [] ∧ 2 ≤ k ∧ a.length * k.toNat ≤ 1000000 := ⟨fun y => z (.inl y), by omega, hc.2.2⟩
        rw [if_pos this]; exact h
    · cases h
  · rename_i hn
    have : pRep1 a b = none := by
      unfold pRep1
      split
      · exact (hn _ _ rfl rfl).elim
      · rfl
    unfold pOr
    rw [this]
    exact h
end
@[simp] theorem pMulU_tup {a : List PV} {k : Int} : pMulU (.tup a) (.int k) = if -(2 ^ 63) ≤ k ∧ k < 2 ^ 63 ∧ a.length * k.toNat ≤ 1000000 then some (.tup (List.replicate k.toNat a).flatten) else none := (rfl)
@[simp] theorem pMulU_int {i : Int} {b : PV} : pMulU (.int i) b = pMul (.int i) b := (rfl)
@[simp] theorem pMulU_lst {a : List PV} {b : PV} : pMulU (.lst a) b = pMul (.lst a) b := (rfl)
end M

namespace M
open PySem PySem.Spec PyProof.Rows L2
/-! ### any(xs) of ints -/
section
variable {X : Cx} {F : Fm}
end
end M

namespace M
open PySem PySem.Spec PyProof.Rows L2
/-! ### evaluation, where dicts are about -/
@[simp] theorem pIxA_pt {p : P2} {b : PV} : pIxA (pt p) b = pIx (pt p) b := (rfl)
@[simp] theorem pInA_tup {n : Bool} {a : PV} {l : List PV} : pInA n a (.tup l) = (inD a (.tup l)).map fun k => .bl (k != n) := by
  cases n <;> simp only [pInA, if_true, if_false, pIn, pNotIn, Bool.false_eq_true] <;> cases inD a (.tup l) <;> simp
@[simp] theorem pInA_lst {n : Bool} {a : PV} {l : List PV} : pInA n a (.lst l) = (inD a (.lst l)).map fun k => .bl (k != n) := by
  cases n <;> simp only [pInA, if_true, if_false, pIn, pNotIn, Bool.false_eq_true] <;> cases inD a (.lst l) <;> simp
@[simp] theorem pInA_dK {n : Bool} {a : PV} {l : List (Key × PV)} : pInA n a (.dK l) = (keyP a).map fun k => .bl ((atK l k).isSome != n) := (rfl)
@[simp] theorem pInA_fK {n : Bool} {a : PV} {l : List (Key × PV)} : pInA n a (.fK l) = (keyP a).map fun k => .bl ((atK l k).isSome != n) := (rfl)
@[simp] theorem keyP_int {i : Int} : keyP (.int i) = some (.inl i) := (rfl)
@[simp] theorem keyP_str {x : Str} : keyP (.str x) = some (.inr x) := (rfl)
def inK (n : Bool) (p : PV) : PV → Option PV
  | .dK l => (keyP p).map fun k => .bl ((atK l k).isSome != n)
  | _ => none
@[simp] theorem inK_dK {n : Bool} {p : PV} {l : List (Key × PV)} : inK n p (.dK l) = (keyP p).map fun k => .bl ((atK l k).isSome != n) := (rfl)
def inOO (n : Bool) (p : PV) (o : Option (Option PV)) (e : En) : Out PV := match o with
  | some (some q) => lift (inK n p q) e
  | _ => .bad
@[simp] theorem inOO_some {n : Bool} {p q : PV} {e : En} : inOO n p (some (some q)) e = lift (inK n p q) e := (rfl)
@[simp] theorem mStar_tup {m : Mo PV} {ml : Mo (List PV)} {e : En} : mStar m ml e = (m e).bind fun p e1 => match seqP p with
  | some l => (ml e1).bind fun r e2 => .ok (l ++ r) e2
  | none => .bad := by
  unfold mStar
  rfl
@[simp] theorem seqP_tup {l : List PV} : seqP (.tup l) = some l := (rfl)
@[simp] theorem seqP_lst {l : List PV} : seqP (.lst l) = some l := (rfl)
@[simp] theorem mDc_ap {own : List Nat} {f : PV → En → Option En} {mt : Mo Bool} {mk mv : Mo PV} {mi : Mo (List PV)} {e : En} : mDc own f mt mk mv mi e = (mi e).bind fun l e1 => dcLoop own f mt mk mv l [] e1 := (rfl)
@[simp] theorem setIxA_dK {l : List (Key × PV)} {p j : PV} {i : Nat} {e : En} : setIxA (.dK l) p j i e = match keyP j with
  | some k => if l.length < 16777216 then .nxt (e.set i (some (.dK (putP l k p)))) else .bad
  | none => .bad := by
  simp only [setIxA, sizeLine_eq]
  all_goals (cases keyP j <;> rfl)
@[simp] theorem gListA_lst {l : List PV} : gListA [.lst l] = some (.lst l) := (rfl)
@[simp] theorem gListA_tupE {l : List PV} : gListA [.tup l] = some (.lst l) := (rfl)
@[simp] theorem gListB_lst {l : List PV} : gListB [.lst l] = some (.lst l) := (rfl)
@[simp] theorem gListB_tupE {l : List PV} : gListB [.tup l] = some (.lst l) := (rfl)
@[simp] theorem gSumB_lst {l : List PV} : gSumB [.lst l] = gSum [.lst l] := (rfl)
/-! the lists of lists -/
end M

namespace M
open PySem PySem.Spec PyProof.Rows L2
/-! ### dict(xs), xs a list of pairs whose keys are tuples -/
section
variable {X : Cx} {pins : List (Addr × Obj)} {σ : L2.St} {H : Hp} {s : Shared}
end
/-! the same, of values -/
section
variable {X : Cx} {F : Fm} {ow : List Nat} {S : Se} {H : Hp} {O : Addr → Prop}
/-! d.get(k, x) of one's own dict with tuples as keys -/
end
end M

namespace M
open PySem PySem.Spec PyProof.Rows L2
/-! ### try: return e; except C as x: return h, in a def's own frame -/
end M

namespace M
open PySem PySem.Spec PyProof.Rows L2
/-! ### d.update(e) of one's own dict -/
section
variable {X : Cx} {F : Fm} {ow ow' ow1 ow2 ob : List Nat} {σ σ1 σ2 : L2.St} {H H1 H2 : Hp}
def updD (p q : PV) (i : Nat) (e : En) : Out PV := match p, q with
  | .dK l, .dK k => if l.length + k.length ≤ sizeLine then .ok .non (e.set i (some (.dK (mergeU l k)))) else .bad
  | .dK l, .fK k => if l.length + k.length ≤ sizeLine then .ok .non (e.set i (some (.dK (mergeU l k)))) else .bad
  | _, _ => .bad
@[simp] theorem updD_k {l k : List (Key × PV)} {i : Nat} {e : En} : updD (.dK l) (.dK k) i e = if l.length + k.length ≤ sizeLine then .ok .non (e.set i (some (.dK (mergeU l k)))) else .bad := (rfl)
@[simp] theorem updD_f {l k : List (Key × PV)} {i : Nat} {e : En} : updD (.dK l) (.fK k) i e = if l.length + k.length ≤ sizeLine then .ok .non (e.set i (some (.dK (mergeU l k)))) else .bad := (rfl)
end
end M

namespace M
open PySem PySem.Spec PyProof.Rows L2
/-! ### min of a tuple too -/
def gMinB : List PV → Option PV
  | [.tup l] => match toIs l with
    | some (n :: ns) => some (.int (minI n ns))
    | _ => none
  | l => gMin l
section
variable {X : Cx} {F : Fm}
@[simp] theorem gMinB_2 {i j : Int} : gMinB [.int i, .int j] = some (.int (min i j)) := by
  show gMin [.int i, .int j] = _
  exact gMin_2
end
end M

namespace K03
open PySem PySem.Spec PyProof.Rows L2 M
structure Tx (mg : Str → Option Value) : Prop where
  g_abs : mg "abs" = none
  g_all : mg "all" = none
  g_bool : mg "bool" = none
  g_int : mg "int" = none
  g_isinstance : mg "isinstance" = none
  g_len : mg "len" = none
  g_list : mg "list" = none
  g_max : mg "max" = none
  g_min : mg "min" = none
  g_range : mg "range" = none
  g_tuple : mg "tuple" = none
  g_zip : mg "zip" = none
  g_FAR : ∃ t, mg "FAR" = some (.int 1000000000000000000 t)
  g_MOST_CORNERS : ∃ t, mg "MOST_CORNERS" = some (.int 400 t)
  g_TOO_LONG : ∃ t, mg "TOO_LONG" = some (.int 1000000000000000000000000000000000000000000000000000000000000 t)
theorem tabs_at {K : PySem.W.Frag} {H : Hp} (h : ∀ p ∈ [].map (He.cT K), H p.2 = some (.tbl #[])) : ∀ p ∈ tabs K, LamX.TabS H p.1 p.2 := by
  intro p hp
  unfold tabs at hp
  simp only [List.mem_cons, List.not_mem_nil, or_false] at hp
section

variable {P : Program} {w : World} {K : PySem.W.Frag} {mg : Str → Option Value} {base : Heap} {tt : Tt}
theorem sc_is_whole : FnScope ["value"] ["value"] (defScope s_is_whole) := ⟨rfl, rfl, rfl, by decide +kernel, rfl, by decide +kernel, by decide +kernel⟩
def ms_is_whole : Ms := (mRet (mAndV (mCall gIsi (mCons (mVar 0) (mCons (mC (.ty "int")) mNil))) (mNotV (mCall gIsi (mCons (mVar 0) (mCons (mC (.ty "bool")) mNil))))))
def m_is_whole : List PV → Out PV := runN 1 ms_is_whole
instance : NoEx m_is_whole := runN_noex _ _
theorem ok_is_whole (T : Tx mg) {f : Addr} {fd : FuncData} (Fd : FnP K "is_whole" s_is_whole f fd) : FnOk P w K mg base CX0 1 f fd ["value"] (spM ⟨K, mg, tt⟩ 1 [] m_is_whole) :=
  have nd := (sc_is_whole).nd
  fnN (oz := []) Fd sc_is_whole fun G cdv A outer s H E hr => (pms_one (ow1 := []) (pmt_ret (pm_andV (pm_callB co_isi rfl T.g_isinstance (by decide +kernel) (pma_cons (pm_var 0) (pma_cons (pm_ty rfl T.g_int (by decide +kernel)) pma_nil))) (pe_one (pm_notV (pm_callB co_isi rfl T.g_isinstance (by decide +kernel) (pma_cons (pm_var 0) (pma_cons (pm_ty rfl T.g_bool (by decide +kernel)) pma_nil))))))))
theorem dn_is_whole (T : Tx mg) {f : Addr} {fd : FuncData} (Fd : FnP K "is_whole" s_is_whole f fd) (hm : mg "is_whole" = some (.ref f)) : Dn P w K mg tt base CX0 "is_whole" 1 1 [] m_is_whole :=
  ⟨f, fd, ["value"], ok_is_whole T  Fd, hm, Fd.kp, Fd.bindsN fun _ _ _ _ _ _ us hl => match us, hl with | [_], _ => rfl⟩
theorem sc_is_short : FnScope ["value"] ["value"] (defScope s_is_short) := ⟨rfl, rfl, rfl, by decide +kernel, rfl, by decide +kernel, by decide +kernel⟩
def ms_is_short : Ms := (mRet (mAndV (mDef 1 [] m_is_whole (mrV (mVar 0) mrNil)) (mBin (pB fun i j => decide (i < j)) (mCall gAbs (mCons (mVar 0) mNil)) (mC (.int 1000000000000000000000000000000000000000000000000000000000000)))))
def m_is_short : List PV → Out PV := runN 1 ms_is_short
instance : NoEx m_is_short := runN_noex _ _
theorem ok_is_short (T : Tx mg) (c_is_whole : Dn P w K mg tt base CX0 "is_whole" 1 1 [] m_is_whole) {f : Addr} {fd : FuncData} (Fd : FnP K "is_short" s_is_short f fd) : FnOk P w K mg base CX0 2 f fd ["value"] (spM ⟨K, mg, tt⟩ 1 [] m_is_short) :=
  have nd := (sc_is_short).nd
  fnN (oz := []) Fd sc_is_short fun G cdv A outer s H E hr => (pms_one (ow1 := []) (pmt_ret (pm_andV (pm_def c_is_whole (hr.mono (by decide)) rfl pass0 (fun _ _ _ _ z => z) (pmr_v (pm_var 0) pmr_nil)) (pe_one (pm_cmp bin_lt (pm_callB co_abs rfl T.g_abs (by decide +kernel) (pma_cons (pm_var 0) pma_nil)) (pm_glE rfl T.g_TOO_LONG) (nomark _))))))
theorem dn_is_short (T : Tx mg) (c_is_whole : Dn P w K mg tt base CX0 "is_whole" 1 1 [] m_is_whole) {f : Addr} {fd : FuncData} (Fd : FnP K "is_short" s_is_short f fd) (hm : mg "is_short" = some (.ref f)) : Dn P w K mg tt base CX0 "is_short" 2 1 [] m_is_short :=
  ⟨f, fd, ["value"], ok_is_short T c_is_whole Fd, hm, Fd.kp, Fd.bindsN fun _ _ _ _ _ _ us hl => match us, hl with | [_], _ => rfl⟩
theorem sc_check_number : FnScope ["value"] ["value"] (defScope s_check_number) := ⟨rfl, rfl, rfl, by decide +kernel, rfl, by decide +kernel, by decide +kernel⟩
def ms_check_number : Ms := (mIfS (mNot (mTr (mDef 1 [] m_is_short (mrV (mVar 0) mrNil)))) mBad mNext)
def m_check_number : List PV → Out PV := runN 1 ms_check_number
instance : NoEx m_check_number := runN_noex _ _
theorem ok_check_number (T : Tx mg) (c_is_short : Dn P w K mg tt base CX0 "is_short" 2 1 [] m_is_short) {f : Addr} {fd : FuncData} (Fd : FnP K "check_number" s_check_number f fd) : FnOk P w K mg base CX0 3 f fd ["value"] (spM ⟨K, mg, tt⟩ 1 [] m_check_number) :=
  have nd := (sc_check_number).nd
  fnN (oz := []) Fd sc_check_number fun G cdv A outer s H E hr => (pms_one (ow1 := []) (pmt_if (pm_not (pm_tr (pm_def c_is_short (hr.mono (by decide)) rfl pass0 (fun _ _ _ _ z => z) (pmr_v (pm_var 0) pmr_nil)))) (pms_one (ow1 := []) pmt_never) (pms_nil)))
theorem dn_check_number (T : Tx mg) (c_is_short : Dn P w K mg tt base CX0 "is_short" 2 1 [] m_is_short) {f : Addr} {fd : FuncData} (Fd : FnP K "check_number" s_check_number f fd) (hm : mg "check_number" = some (.ref f)) : Dn P w K mg tt base CX0 "check_number" 3 1 [] m_check_number :=
  ⟨f, fd, ["value"], ok_check_number T c_is_short Fd, hm, Fd.kp, Fd.bindsN fun _ _ _ _ _ _ us hl => match us, hl with | [_], _ => rfl⟩
theorem sc_is_tuple_of : FnScope ["value", "count"] ["value", "count"] (defScope s_is_tuple_of) := ⟨rfl, rfl, rfl, by decide +kernel, rfl, by decide +kernel, by decide +kernel⟩
def ms_is_tuple_of : Ms := (mRet (mAndV (mCall gIsi (mCons (mVar 0) (mCons (mC (.ty "tuple")) mNil))) (mBin pEq (mCall gLen (mCons (mVar 0) mNil)) (mVar 1))))
def m_is_tuple_of : List PV → Out PV := runN 2 ms_is_tuple_of
instance : NoEx m_is_tuple_of := runN_noex _ _
theorem ok_is_tuple_of (T : Tx mg) {f : Addr} {fd : FuncData} (Fd : FnP K "is_tuple_of" s_is_tuple_of f fd) : FnOk P w K mg base CX0 1 f fd ["value", "count"] (spM ⟨K, mg, tt⟩ 2 [] m_is_tuple_of) :=
  have nd := (sc_is_tuple_of).nd
  fnN (oz := []) Fd sc_is_tuple_of fun G cdv A outer s H E hr => (pms_one (ow1 := []) (pmt_ret (pm_andV (pm_callB co_isi rfl T.g_isinstance (by decide +kernel) (pma_cons (pm_var 0) (pma_cons (pm_ty rfl T.g_tuple (by decide +kernel)) pma_nil))) (pe_one (pm_cmp (bin_eq (room64 hr)) (pm_callB co_len rfl T.g_len (by decide +kernel) (pma_cons (pm_var 0) pma_nil)) (pm_var 1) (nomark _))))))
theorem dn_is_tuple_of (T : Tx mg) {f : Addr} {fd : FuncData} (Fd : FnP K "is_tuple_of" s_is_tuple_of f fd) (hm : mg "is_tuple_of" = some (.ref f)) : Dn P w K mg tt base CX0 "is_tuple_of" 1 2 [] m_is_tuple_of :=
  ⟨f, fd, ["value", "count"], ok_is_tuple_of T  Fd, hm, Fd.kp, Fd.bindsN fun _ _ _ _ _ _ us hl => match us, hl with | [_, _], _ => rfl⟩
theorem sc_is_row : FnScope ["value", "count", "item"] ["value", "count"] (defScope s_is_row) := ⟨rfl, rfl, rfl, by decide +kernel, rfl, by decide +kernel, by decide +kernel⟩
def cE1_is_row : Mo PV := (mDef 1 [] m_is_whole (mrV (mVar 2) mrNil))
def ms_is_row : Ms := (mRet (mAndV (mDef 2 [] m_is_tuple_of (mrV (mVar 0) (mrV (mVar 1) mrNil))) (mCall gAll (mCons (mLc [2] (tN 2) mYes cE1_is_row (mIt (mVar 0))) mNil))))
def m_is_row : List PV → Out PV := runN 3 ms_is_row
instance : NoEx m_is_row := runN_noex _ _
theorem ok_is_row (T : Tx mg) (c_is_tuple_of : Dn P w K mg tt base CX0 "is_tuple_of" 1 2 [] m_is_tuple_of) (c_is_whole : Dn P w K mg tt base CX0 "is_whole" 1 1 [] m_is_whole) {f : Addr} {fd : FuncData} (Fd : FnP K "is_row" s_is_row f fd) : FnOk P w K mg base CX0 2 f fd ["value", "count"] (spM ⟨K, mg, tt⟩ 2 [] m_is_row) :=
  have nd := (sc_is_row).nd
  fnN (oz := []) Fd sc_is_row fun G cdv A outer s H E hr => (pms_one (ow1 := []) (pmt_ret (pm_andV (pm_def c_is_tuple_of (hr.mono (by decide)) rfl pass0 (fun _ _ _ _ z => z) (pmr_v (pm_var 0) (pmr_v (pm_var 1) pmr_nil))) (pe_one (pm_callB co_all rfl T.g_all (by decide +kernel) (pma_cons (pm_lc (own := [("item", 2)]) nd (pmi_seq (pm_var 0)) (blkOk_by (own := [("item", 2)]) (N := ["value", "count", "item"]) (sc := defScope s_is_row) (by decide +kernel)) (fun _ _ _ _ _ => (pg_name (i := 2) nd rfl (.inl rfl))) (fun _ _ _ _ _ _ => pmts_nil) (fun _ _ _ _ _ _ => (pm_def c_is_whole (hr.mono (by decide)) rfl pass0 (fun _ _ _ _ z => z) (pmr_v (pm_var 2) pmr_nil))) (fun _ => (tg_name 2))) pma_nil))))))
theorem dn_is_row (T : Tx mg) (c_is_tuple_of : Dn P w K mg tt base CX0 "is_tuple_of" 1 2 [] m_is_tuple_of) (c_is_whole : Dn P w K mg tt base CX0 "is_whole" 1 1 [] m_is_whole) {f : Addr} {fd : FuncData} (Fd : FnP K "is_row" s_is_row f fd) (hm : mg "is_row" = some (.ref f)) : Dn P w K mg tt base CX0 "is_row" 2 2 [] m_is_row :=
  ⟨f, fd, ["value", "count"], ok_is_row T c_is_tuple_of c_is_whole Fd, hm, Fd.kp, Fd.bindsN fun _ _ _ _ _ _ us hl => match us, hl with | [_, _], _ => rfl⟩
theorem sc_holds : FnScope ["span", "number", "least", "most"] ["span", "number"] (defScope s_holds) := ⟨rfl, rfl, rfl, by decide +kernel, rfl, by decide +kernel, by decide +kernel⟩
def ms_holds : Ms := (mSeq (mUnp [2, 3] (mVar 0)) (mRet (mAndV (mOrV (mBin pIsN (mVar 2) (mC .non)) (mBin (pB fun i j => decide (i ≤ j)) (mVar 2) (mVar 1))) (mOrV (mBin pIsN (mVar 3) (mC .non)) (mBin (pB fun i j => decide (i ≤ j)) (mVar 1) (mVar 3))))))
def m_holds : List PV → Out PV := runN 4 ms_holds
instance : NoEx m_holds := runN_noex _ _
theorem ok_holds (T : Tx mg) {f : Addr} {fd : FuncData} (Fd : FnP K "holds" s_holds f fd) : FnOk P w K mg base CX0 1 f fd ["span", "number"] (spM ⟨K, mg, tt⟩ 2 [] m_holds) :=
  have nd := (sc_holds).nd
  fnN (oz := []) Fd sc_holds fun G cdv A outer s H E hr => (pms_cons (ow1 := []) (ow2 := []) (pmt_unp [2, 3] (pm_var 0) (pgs_cons (pg_name (i := 2) nd rfl (by first | exact .inl rfl | exact .inr rfl)) (pgs_cons (pg_name (i := 3) nd rfl (by first | exact .inl rfl | exact .inr rfl)) pgs_nil))) (pms_one (ow1 := []) (pmt_ret (pm_andV (pm_orV (pm_cmp bin_isN (pm_var 2) pm_non (nomark _)) (pe_one (pm_cmp bin_le (pm_var 2) (pm_var 1) (nomark _)))) (pe_one (pm_orV (pm_cmp bin_isN (pm_var 3) pm_non (nomark _)) (pe_one (pm_cmp bin_le (pm_var 1) (pm_var 3) (nomark _)))))))))
theorem dn_holds (T : Tx mg) {f : Addr} {fd : FuncData} (Fd : FnP K "holds" s_holds f fd) (hm : mg "holds" = some (.ref f)) : Dn P w K mg tt base CX0 "holds" 1 2 [] m_holds :=
  ⟨f, fd, ["span", "number"], ok_holds T  Fd, hm, Fd.kp, Fd.bindsN fun _ _ _ _ _ _ us hl => match us, hl with | [_, _], _ => rfl⟩
theorem sc_is_far_point : FnScope ["value"] ["value"] (defScope s_is_far_point) := ⟨rfl, rfl, rfl, by decide +kernel, rfl, by decide +kernel, by decide +kernel⟩
def ms_is_far_point : Ms := (mRet (mAndV (mDef 2 [] m_is_row (mrV (mVar 0) (mrV (mC (.int 2)) mrNil))) (mAndV (mBin (pB fun i j => decide (i ≤ j)) (mCall gAbs (mCons (mBin pIx (mVar 0) (mC (.int 0))) mNil)) (mC (.int 1000000000000000000))) (mBin (pB fun i j => decide (i ≤ j)) (mCall gAbs (mCons (mBin pIx (mVar 0) (mC (.int 1))) mNil)) (mC (.int 1000000000000000000))))))
def m_is_far_point : List PV → Out PV := runN 1 ms_is_far_point
instance : NoEx m_is_far_point := runN_noex _ _
theorem ok_is_far_point (T : Tx mg) (c_is_row : Dn P w K mg tt base CX0 "is_row" 2 2 [] m_is_row) {f : Addr} {fd : FuncData} (Fd : FnP K "is_far_point" s_is_far_point f fd) : FnOk P w K mg base CX0 3 f fd ["value"] (spM ⟨K, mg, tt⟩ 1 [] m_is_far_point) :=
  have nd := (sc_is_far_point).nd
  fnN (oz := []) Fd sc_is_far_point fun G cdv A outer s H E hr => (pms_one (ow1 := []) (pmt_ret (pm_andV (pm_def c_is_row (hr.mono (by decide)) rfl pass0 (fun _ _ _ _ z => z) (pmr_v (pm_var 0) (pmr_v pm_int pmr_nil))) (pm_andV (pm_cmp bin_le (pm_callB co_abs rfl T.g_abs (by decide +kernel) (pma_cons (pm_ix (pm_var 0) pm_int) pma_nil)) (pm_glE rfl T.g_FAR) (nomark _)) (pe_one (pm_cmp bin_le (pm_callB co_abs rfl T.g_abs (by decide +kernel) (pma_cons (pm_ix (pm_var 0) pm_int) pma_nil)) (pm_glE rfl T.g_FAR) (nomark _)))))))
theorem dn_is_far_point (T : Tx mg) (c_is_row : Dn P w K mg tt base CX0 "is_row" 2 2 [] m_is_row) {f : Addr} {fd : FuncData} (Fd : FnP K "is_far_point" s_is_far_point f fd) (hm : mg "is_far_point" = some (.ref f)) : Dn P w K mg tt base CX0 "is_far_point" 3 1 [] m_is_far_point :=
  ⟨f, fd, ["value"], ok_is_far_point T c_is_row Fd, hm, Fd.kp, Fd.bindsN fun _ _ _ _ _ _ us hl => match us, hl with | [_], _ => rfl⟩
theorem sc_kind_between : FnScope ["start", "end"] ["start", "end"] (defScope s_kind_between) := ⟨rfl, rfl, rfl, by decide +kernel, rfl, by decide +kernel, by decide +kernel⟩
def ms_kind_between : Ms := (mSeq (mIfS (mAnd (mTB (mBin pEq (mBin pIx (mVar 0) (mC (.int 1))) (mBin pIx (mVar 1) (mC (.int 1))))) (mTB (mBin (pB fun i j => decide (i < j)) (mBin pIx (mVar 0) (mC (.int 0))) (mBin pIx (mVar 1) (mC (.int 0)))))) (mRet (mC (.str "flat"))) mNext) (mSeq (mIfS (mAnd (mTB (mBin pEq (mBin pIx (mVar 0) (mC (.int 0))) (mBin pIx (mVar 1) (mC (.int 0))))) (mTB (mBin (pB fun i j => decide (i < j)) (mBin pIx (mVar 0) (mC (.int 1))) (mBin pIx (mVar 1) (mC (.int 1)))))) (mRet (mC (.str "steep"))) mNext) (mRet (mC .non))))
def m_kind_between : List PV → Out PV := runN 2 ms_kind_between
instance : NoEx m_kind_between := runN_noex _ _
theorem ok_kind_between (T : Tx mg) {f : Addr} {fd : FuncData} (Fd : FnP K "kind_between" s_kind_between f fd) : FnOk P w K mg base CX0 1 f fd ["start", "end"] (spM ⟨K, mg, tt⟩ 2 [] m_kind_between) :=
  have nd := (sc_kind_between).nd
  fnN (oz := []) Fd sc_kind_between fun G cdv A outer s H E hr => (pms_cons (ow1 := []) (ow2 := []) (pmt_if (PW.pt (pw_andM (pm_tcmp (bin_eq (room64 hr)) (pm_ix (pm_var 0) pm_int) (pm_ix (pm_var 1) pm_int) (nomark _)) (pw_and1 (pm_tcmp bin_lt (pm_ix (pm_var 0) pm_int) (pm_ix (pm_var 1) pm_int) (nomark _))))) (pms_one (ow1 := []) (pmt_ret pm_str)) (pms_nil)) (pms_cons (ow1 := []) (ow2 := []) (pmt_if (PW.pt (pw_andM (pm_tcmp (bin_eq (room64 hr)) (pm_ix (pm_var 0) pm_int) (pm_ix (pm_var 1) pm_int) (nomark _)) (pw_and1 (pm_tcmp bin_lt (pm_ix (pm_var 0) pm_int) (pm_ix (pm_var 1) pm_int) (nomark _))))) (pms_one (ow1 := []) (pmt_ret pm_str)) (pms_nil)) (pms_one (ow1 := []) (pmt_ret pm_non))))
theorem dn_kind_between (T : Tx mg) {f : Addr} {fd : FuncData} (Fd : FnP K "kind_between" s_kind_between f fd) (hm : mg "kind_between" = some (.ref f)) : Dn P w K mg tt base CX0 "kind_between" 1 2 [] m_kind_between :=
  ⟨f, fd, ["start", "end"], ok_kind_between T  Fd, hm, Fd.kp, Fd.bindsN fun _ _ _ _ _ _ us hl => match us, hl with | [_, _], _ => rfl⟩
theorem sc_other_kind : FnScope ["kind"] ["kind"] (defScope s_other_kind) := ⟨rfl, rfl, rfl, by decide +kernel, rfl, by decide +kernel, by decide +kernel⟩
def ms_other_kind : Ms := (mRet (mIf (mTB (mBin pEq (mVar 0) (mC (.str "flat")))) (mC (.str "steep")) (mC (.str "flat"))))
def m_other_kind : List PV → Out PV := runN 1 ms_other_kind
instance : NoEx m_other_kind := runN_noex _ _
theorem ok_other_kind (T : Tx mg) {f : Addr} {fd : FuncData} (Fd : FnP K "other_kind" s_other_kind f fd) : FnOk P w K mg base CX0 1 f fd ["kind"] (spM ⟨K, mg, tt⟩ 1 [] m_other_kind) :=
  have nd := (sc_other_kind).nd
  fnN (oz := []) Fd sc_other_kind fun G cdv A outer s H E hr => (pms_one (ow1 := []) (pmt_ret (pm_if (pm_tcmp (bin_eq (room64 hr)) (pm_var 0) pm_str (nomark _)) pm_str pm_str)))
theorem dn_other_kind (T : Tx mg) {f : Addr} {fd : FuncData} (Fd : FnP K "other_kind" s_other_kind f fd) (hm : mg "other_kind" = some (.ref f)) : Dn P w K mg tt base CX0 "other_kind" 1 1 [] m_other_kind :=
  ⟨f, fd, ["kind"], ok_other_kind T  Fd, hm, Fd.kp, Fd.bindsN fun _ _ _ _ _ _ us hl => match us, hl with | [_], _ => rfl⟩
theorem sc_are_corners : FnScope ["first", "value", "kind", "k", "point"] ["first", "value"] (defScope s_are_corners) := ⟨rfl, rfl, rfl, by decide +kernel, rfl, by decide +kernel, by decide +kernel⟩
def cE1_are_corners : Mo PV := (mDef 1 [] m_is_far_point (mrV (mVar 4) mrNil))
def lB1_are_corners : Ms := (mSeq (mSet 2 (mDef 1 [] m_other_kind (mrV (mVar 2) mrNil))) (mIfS (mTB (mBin pNe (mDef 2 [] m_kind_between (mrV (mBin pIx (mVar 1) (mVar 3)) (mrV (mBin pIx (mVar 1) (mBin pAdd (mVar 3) (mC (.int 1)))) mrNil))) (mVar 2))) (mRet (mC (.bl false))) mNext))
def ms_are_corners : Ms := (mSeq (mIfS (mOr (mNot (mTr (mCall gIsi (mCons (mVar 1) (mCons (mC (.ty "tuple")) mNil))))) (mNot (mTB (mChain (pB fun i j => decide (i ≤ j)) (pB fun i j => decide (i ≤ j)) (mC (.int 1)) (mCall gLen (mCons (mVar 1) mNil)) (mC (.int 400)))))) (mRet (mC (.bl false))) mNext) (mSeq (mIfS (mNot (mTr (mCall gAll (mCons (mLc [4] (tN 4) mYes cE1_are_corners (mIt (mVar 1))) mNil)))) (mRet (mC (.bl false))) mNext) (mSeq (mSet 2 (mVar 0)) (mSeq (mFor (mItA iRange1 (mCons (mBin (pI fun i j => i - j) (mCall gLen (mCons (mVar 1) mNil)) (mC (.int 1))) mNil)) (tN 3) lB1_are_corners) (mRet (mC (.bl true)))))))
def m_are_corners : List PV → Out PV := runN 5 ms_are_corners
instance : NoEx m_are_corners := runN_noex _ _
theorem ok_are_corners (T : Tx mg) (c_is_far_point : Dn P w K mg tt base CX0 "is_far_point" 3 1 [] m_is_far_point) (c_kind_between : Dn P w K mg tt base CX0 "kind_between" 1 2 [] m_kind_between) (c_other_kind : Dn P w K mg tt base CX0 "other_kind" 1 1 [] m_other_kind) {f : Addr} {fd : FuncData} (Fd : FnP K "are_corners" s_are_corners f fd) : FnOk P w K mg base CX0 4 f fd ["first", "value"] (spM ⟨K, mg, tt⟩ 2 [] m_are_corners) :=
  have nd := (sc_are_corners).nd
  fnN (oz := []) Fd sc_are_corners fun G cdv A outer s H E hr => (pms_cons (ow1 := []) (ow2 := []) (pmt_if (PW.pt (pw_orM (pm_not (pm_tr (pm_callB co_isi rfl T.g_isinstance (by decide +kernel) (pma_cons (pm_var 1) (pma_cons (pm_ty rfl T.g_tuple (by decide +kernel)) pma_nil))))) (pw_or1 (pm_not (pm_tchain bin_le bin_le pm_int (pm_callB co_len rfl T.g_len (by decide +kernel) (pma_cons (pm_var 1) pma_nil)) (pm_glE rfl T.g_MOST_CORNERS)))))) (pms_one (ow1 := []) (pmt_ret pm_bl)) (pms_nil)) (pms_cons (ow1 := []) (ow2 := []) (pmt_if (pm_not (pm_tr (pm_callB co_all rfl T.g_all (by decide +kernel) (pma_cons (pm_lc (own := [("point", 4)]) nd (pmi_seq (pm_var 1)) (blkOk_by (own := [("point", 4)]) (N := ["first", "value", "kind", "k", "point"]) (sc := defScope s_are_corners) (by decide +kernel)) (fun _ _ _ _ _ => (pg_name (i := 4) nd rfl (.inl rfl))) (fun _ _ _ _ _ _ => pmts_nil) (fun _ _ _ _ _ _ => (pm_def c_is_far_point (hr.mono (by decide)) rfl pass0 (fun _ _ _ _ z => z) (pmr_v (pm_var 4) pmr_nil))) (fun _ => (tg_name 4))) pma_nil)))) (pms_one (ow1 := []) (pmt_ret pm_bl)) (pms_nil)) (pms_cons (ow1 := []) (ow2 := []) (pmt_set 2 nd (pm_var 0)) (pms_cons (ow1 := []) (ow2 := []) (pmt_for PassesOwn.never (pmi_range1 rfl T.g_range (pma_cons (pm_bin bin_sub (pm_callB co_len rfl T.g_len (by decide +kernel) (pma_cons (pm_var 1) pma_nil)) pm_int) pma_nil)) (pg_name (i := 3) nd rfl (by first | exact .inl rfl | exact .inr rfl)) (tg_name 3) (pms_cons (ow1 := []) (ow2 := []) (pmt_set 2 nd (pm_def c_other_kind (hr.mono (by decide)) rfl pass0 (fun _ _ _ _ z => z) (pmr_v (pm_var 2) pmr_nil))) (pms_one (ow1 := []) (pmt_if (pm_tcmp (bin_ne (room64 hr)) (pm_def c_kind_between (hr.mono (by decide)) rfl pass0 (fun _ _ _ _ z => z) (pmr_v (pm_ix (pm_var 1) (pm_var 3)) (pmr_v (pm_ix (pm_var 1) (pm_bin bin_add (pm_var 3) pm_int)) pmr_nil))) (pm_var 2) (nomark _)) (pms_one (ow1 := []) (pmt_ret pm_bl)) (pms_nil))))) (pms_one (ow1 := []) (pmt_ret pm_bl))))))
theorem dn_are_corners (T : Tx mg) (c_is_far_point : Dn P w K mg tt base CX0 "is_far_point" 3 1 [] m_is_far_point) (c_kind_between : Dn P w K mg tt base CX0 "kind_between" 1 2 [] m_kind_between) (c_other_kind : Dn P w K mg tt base CX0 "other_kind" 1 1 [] m_other_kind) {f : Addr} {fd : FuncData} (Fd : FnP K "are_corners" s_are_corners f fd) (hm : mg "are_corners" = some (.ref f)) : Dn P w K mg tt base CX0 "are_corners" 4 2 [] m_are_corners :=
  ⟨f, fd, ["first", "value"], ok_are_corners T c_is_far_point c_kind_between c_other_kind Fd, hm, Fd.kp, Fd.bindsN fun _ _ _ _ _ _ us hl => match us, hl with | [_, _], _ => rfl⟩
theorem sc_is_rise : FnScope ["value", "word", "told"] ["value"] (defScope s_is_rise) := ⟨rfl, rfl, rfl, by decide +kernel, rfl, by decide +kernel, by decide +kernel⟩
def ms_is_rise : Ms := (mSeq (mIfS (mNot (mTr (mDef 2 [] m_is_tuple_of (mrV (mVar 0) (mrV (mC (.int 2)) mrNil))))) (mRet (mC (.bl false))) mNext) (mSeq (mUnp [1, 2] (mVar 0)) (mSeq (mIfS (mTB (mBin pIn (mVar 1) (mTup (mCons (mC (.str "level")) (mCons (mC (.str "plumb")) mNil))))) (mRet (mAndV (mDef 1 [] m_is_whole (mrV (mVar 2) mrNil)) (mBin (pB fun i j => decide (i ≤ j)) (mCall gAbs (mCons (mVar 2) mNil)) (mC (.int 1000000000000000000))))) mNext) (mRet (mAndV (mBin pIn (mVar 1) (mTup (mCons (mC (.str "flat")) (mCons (mC (.str "steep")) mNil)))) (mDef 2 [] m_are_corners (mrV (mVar 1) (mrV (mVar 2) mrNil))))))))
def m_is_rise : List PV → Out PV := runN 3 ms_is_rise
instance : NoEx m_is_rise := runN_noex _ _
theorem ok_is_rise (T : Tx mg) (c_are_corners : Dn P w K mg tt base CX0 "are_corners" 4 2 [] m_are_corners) (c_is_tuple_of : Dn P w K mg tt base CX0 "is_tuple_of" 1 2 [] m_is_tuple_of) (c_is_whole : Dn P w K mg tt base CX0 "is_whole" 1 1 [] m_is_whole) {f : Addr} {fd : FuncData} (Fd : FnP K "is_rise" s_is_rise f fd) : FnOk P w K mg base CX0 5 f fd ["value"] (spM ⟨K, mg, tt⟩ 1 [] m_is_rise) :=
  have nd := (sc_is_rise).nd
  fnN (oz := []) Fd sc_is_rise fun G cdv A outer s H E hr => (pms_cons (ow1 := []) (ow2 := []) (pmt_if (pm_not (pm_tr (pm_def c_is_tuple_of (hr.mono (by decide)) rfl pass0 (fun _ _ _ _ z => z) (pmr_v (pm_var 0) (pmr_v pm_int pmr_nil))))) (pms_one (ow1 := []) (pmt_ret pm_bl)) (pms_nil)) (pms_cons (ow1 := []) (ow2 := []) (pmt_unp [1, 2] (pm_var 0) (pgs_cons (pg_name (i := 1) nd rfl (by first | exact .inl rfl | exact .inr rfl)) (pgs_cons (pg_name (i := 2) nd rfl (by first | exact .inl rfl | exact .inr rfl)) pgs_nil))) (pms_cons (ow1 := []) (ow2 := []) (pmt_if (pm_tcmp (bin_in (room65 hr)) (pm_var 1) (pm_tup (pma_cons pm_str (pma_cons pm_str pma_nil))) rfl) (pms_one (ow1 := []) (pmt_ret (pm_andV (pm_def c_is_whole (hr.mono (by decide)) rfl pass0 (fun _ _ _ _ z => z) (pmr_v (pm_var 2) pmr_nil)) (pe_one (pm_cmp bin_le (pm_callB co_abs rfl T.g_abs (by decide +kernel) (pma_cons (pm_var 2) pma_nil)) (pm_glE rfl T.g_FAR) (nomark _)))))) (pms_nil)) (pms_one (ow1 := []) (pmt_ret (pm_andV (pm_cmp (bin_in (room65 hr)) (pm_var 1) (pm_tup (pma_cons pm_str (pma_cons pm_str pma_nil))) rfl) (pe_one (pm_def c_are_corners (hr.mono (by decide)) rfl pass0 (fun _ _ _ _ z => z) (pmr_v (pm_var 1) (pmr_v (pm_var 2) pmr_nil))))))))))
theorem dn_is_rise (T : Tx mg) (c_are_corners : Dn P w K mg tt base CX0 "are_corners" 4 2 [] m_are_corners) (c_is_tuple_of : Dn P w K mg tt base CX0 "is_tuple_of" 1 2 [] m_is_tuple_of) (c_is_whole : Dn P w K mg tt base CX0 "is_whole" 1 1 [] m_is_whole) {f : Addr} {fd : FuncData} (Fd : FnP K "is_rise" s_is_rise f fd) (hm : mg "is_rise" = some (.ref f)) : Dn P w K mg tt base CX0 "is_rise" 5 1 [] m_is_rise :=
  ⟨f, fd, ["value"], ok_is_rise T c_are_corners c_is_tuple_of c_is_whole Fd, hm, Fd.kp, Fd.bindsN fun _ _ _ _ _ _ us hl => match us, hl with | [_], _ => rfl⟩
theorem sc_check_rise : FnScope ["value"] ["value"] (defScope s_check_rise) := ⟨rfl, rfl, rfl, by decide +kernel, rfl, by decide +kernel, by decide +kernel⟩
def ms_check_rise : Ms := (mIfS (mNot (mTr (mDef 1 [] m_is_rise (mrV (mVar 0) mrNil)))) mBad mNext)
def m_check_rise : List PV → Out PV := runN 1 ms_check_rise
instance : NoEx m_check_rise := runN_noex _ _
theorem ok_check_rise (T : Tx mg) (c_is_rise : Dn P w K mg tt base CX0 "is_rise" 5 1 [] m_is_rise) {f : Addr} {fd : FuncData} (Fd : FnP K "check_rise" s_check_rise f fd) : FnOk P w K mg base CX0 6 f fd ["value"] (spM ⟨K, mg, tt⟩ 1 [] m_check_rise) :=
  have nd := (sc_check_rise).nd
  fnN (oz := []) Fd sc_check_rise fun G cdv A outer s H E hr => (pms_one (ow1 := []) (pmt_if (pm_not (pm_tr (pm_def c_is_rise (hr.mono (by decide)) rfl pass0 (fun _ _ _ _ z => z) (pmr_v (pm_var 0) pmr_nil)))) (pms_one (ow1 := []) pmt_never) (pms_nil)))
theorem dn_check_rise (T : Tx mg) (c_is_rise : Dn P w K mg tt base CX0 "is_rise" 5 1 [] m_is_rise) {f : Addr} {fd : FuncData} (Fd : FnP K "check_rise" s_check_rise f fd) (hm : mg "check_rise" = some (.ref f)) : Dn P w K mg tt base CX0 "check_rise" 6 1 [] m_check_rise :=
  ⟨f, fd, ["value"], ok_check_rise T c_is_rise Fd, hm, Fd.kp, Fd.bindsN fun _ _ _ _ _ _ us hl => match us, hl with | [_], _ => rfl⟩
theorem sc_piece_between : FnScope ["kind", "start", "end", "along", "across", "place", "least", "most"] ["kind", "start", "end"] (defScope s_piece_between) := ⟨rfl, rfl, rfl, by decide +kernel, rfl, by decide +kernel, by decide +kernel⟩
def ms_piece_between : Ms := (mSeq (mUnp [3, 4] (mIf (mTB (mBin pEq (mVar 0) (mC (.str "flat")))) (mTup (mCons (mC (.int 0)) (mCons (mC (.int 1)) mNil))) (mTup (mCons (mC (.int 1)) (mCons (mC (.int 0)) mNil))))) (mSeq (mSet 5 (mIf (mTB (mBin pIsN (mVar 1) (mC .non))) (mBin pIx (mVar 2) (mVar 4)) (mBin pIx (mVar 1) (mVar 4)))) (mSeq (mSet 6 (mIf (mTB (mBin pIsN (mVar 1) (mC .non))) (mC .non) (mBin pIx (mVar 1) (mVar 3)))) (mSeq (mSet 7 (mIf (mTB (mBin pIsN (mVar 2) (mC .non))) (mC .non) (mBin pIx (mVar 2) (mVar 3)))) (mRet (mTup (mCons (mVar 0) (mCons (mVar 5) (mCons (mVar 6) (mCons (mVar 7) mNil))))))))))
def m_piece_between : List PV → Out PV := runN 8 ms_piece_between
instance : NoEx m_piece_between := runN_noex _ _
theorem ok_piece_between (T : Tx mg) {f : Addr} {fd : FuncData} (Fd : FnP K "piece_between" s_piece_between f fd) : FnOk P w K mg base CX0 1 f fd ["kind", "start", "end"] (spM ⟨K, mg, tt⟩ 3 [] m_piece_between) :=
  have nd := (sc_piece_between).nd
  fnN (oz := []) Fd sc_piece_between fun G cdv A outer s H E hr => (pms_cons (ow1 := []) (ow2 := []) (pmt_unp [3, 4] (pm_if (pm_tcmp (bin_eq (room64 hr)) (pm_var 0) pm_str (nomark _)) (pm_tup (pma_cons pm_int (pma_cons pm_int pma_nil))) (pm_tup (pma_cons pm_int (pma_cons pm_int pma_nil)))) (pgs_cons (pg_name (i := 3) nd rfl (by first | exact .inl rfl | exact .inr rfl)) (pgs_cons (pg_name (i := 4) nd rfl (by first | exact .inl rfl | exact .inr rfl)) pgs_nil))) (pms_cons (ow1 := []) (ow2 := []) (pmt_set 5 nd (pm_if (pm_tcmp bin_isN (pm_var 1) pm_non (nomark _)) (pm_ix (pm_var 2) (pm_var 4)) (pm_ix (pm_var 1) (pm_var 4)))) (pms_cons (ow1 := []) (ow2 := []) (pmt_set 6 nd (pm_if (pm_tcmp bin_isN (pm_var 1) pm_non (nomark _)) pm_non (pm_ix (pm_var 1) (pm_var 3)))) (pms_cons (ow1 := []) (ow2 := []) (pmt_set 7 nd (pm_if (pm_tcmp bin_isN (pm_var 2) pm_non (nomark _)) pm_non (pm_ix (pm_var 2) (pm_var 3)))) (pms_one (ow1 := []) (pmt_ret (pm_tup (pma_cons (pm_var 0) (pma_cons (pm_var 5) (pma_cons (pm_var 6) (pma_cons (pm_var 7) pma_nil)))))))))))
theorem dn_piece_between (T : Tx mg) {f : Addr} {fd : FuncData} (Fd : FnP K "piece_between" s_piece_between f fd) (hm : mg "piece_between" = some (.ref f)) : Dn P w K mg tt base CX0 "piece_between" 1 3 [] m_piece_between :=
  ⟨f, fd, ["kind", "start", "end"], ok_piece_between T  Fd, hm, Fd.kp, Fd.bindsN fun _ _ _ _ _ _ us hl => match us, hl with | [_, _, _], _ => rfl⟩
theorem sc_row_of : FnScope ["rise", "word", "told", "kind", "row", "k"] ["rise"] (defScope s_row_of) := ⟨rfl, rfl, rfl, by decide +kernel, rfl, by decide +kernel, by decide +kernel⟩
def lB1_row_of : Ms := (mSeq (mSet 3 (mDef 1 [] m_other_kind (mrV (mVar 3) mrNil))) (mExpr (mApp 4 (mDef 3 [] m_piece_between (mrV (mVar 3) (mrV (mBin pIx (mVar 2) (mVar 5)) (mrV (mIf (mTB (mBin (pB fun i j => decide (i < j)) (mBin pAdd (mVar 5) (mC (.int 1))) (mCall gLen (mCons (mVar 2) mNil)))) (mBin pIx (mVar 2) (mBin pAdd (mVar 5) (mC (.int 1)))) (mC .non)) mrNil)))))))
def ms_row_of : Ms := (mSeq (mUnp [1, 2] (mVar 0)) (mSeq (mIfS (mTB (mBin pEq (mVar 1) (mC (.str "level")))) (mRet (mTup (mCons (mTup (mCons (mC (.str "flat")) (mCons (mVar 2) (mCons (mC .non) (mCons (mC .non) mNil))))) mNil))) mNext) (mSeq (mIfS (mTB (mBin pEq (mVar 1) (mC (.str "plumb")))) (mRet (mTup (mCons (mTup (mCons (mC (.str "steep")) (mCons (mVar 2) (mCons (mC .non) (mCons (mC .non) mNil))))) mNil))) mNext) (mSeq (mSet 3 (mVar 1)) (mSeq (mSetO 4 (mLst (mCons (mDef 3 [] m_piece_between (mrV (mVar 3) (mrV (mC .non) (mrV (mBin pIx (mVar 2) (mC (.int 0))) mrNil)))) mNil))) (mSeq (mFor (mItA iRange1 (mCons (mCall gLen (mCons (mVar 2) mNil)) mNil)) (tN 5) lB1_row_of) (mRet (mCall gTuple (mCons (mVar 4) mNil)))))))))
def m_row_of : List PV → Out PV := runN 6 ms_row_of
instance : NoEx m_row_of := runN_noex _ _
theorem ok_row_of (T : Tx mg) (c_other_kind : Dn P w K mg tt base CX0 "other_kind" 1 1 [] m_other_kind) (c_piece_between : Dn P w K mg tt base CX0 "piece_between" 1 3 [] m_piece_between) {f : Addr} {fd : FuncData} (Fd : FnP K "row_of" s_row_of f fd) : FnOk P w K mg base CX0 2 f fd ["rise"] (spM ⟨K, mg, tt⟩ 1 [] m_row_of) :=
  have nd := (sc_row_of).nd
  fnN (oz := []) Fd sc_row_of fun G cdv A outer s H E hr => (pms_cons (ow1 := []) (ow2 := []) (pmt_unp [1, 2] (pm_var 0) (pgs_cons (pg_name (i := 1) nd rfl (by first | exact .inl rfl | exact .inr rfl)) (pgs_cons (pg_name (i := 2) nd rfl (by first | exact .inl rfl | exact .inr rfl)) pgs_nil))) (pms_cons (ow1 := []) (ow2 := []) (pmt_if (pm_tcmp (bin_eq (room64 hr)) (pm_var 1) pm_str (nomark _)) (pms_one (ow1 := []) (pmt_ret (pm_tup (pma_cons (pm_tup (pma_cons pm_str (pma_cons (pm_var 2) (pma_cons pm_non (pma_cons pm_non pma_nil))))) pma_nil)))) (pms_nil)) (pms_cons (ow1 := []) (ow2 := []) (pmt_if (pm_tcmp (bin_eq (room64 hr)) (pm_var 1) pm_str (nomark _)) (pms_one (ow1 := []) (pmt_ret (pm_tup (pma_cons (pm_tup (pma_cons pm_str (pma_cons (pm_var 2) (pma_cons pm_non (pma_cons pm_non pma_nil))))) pma_nil)))) (pms_nil)) (pms_cons (ow1 := []) (ow2 := []) (pmt_set 3 nd (pm_var 1)) (pms_cons (ow1 := [4]) (ow2 := [4]) (pmt_setO 4 (ow' := [4]) nd (pmf_lst (pma_cons (pm_def c_piece_between (hr.mono (by decide)) rfl pass0 (fun _ _ _ _ z => z) (pmr_v (pm_var 3) (pmr_v pm_non (pmr_v (pm_ix (pm_var 2) pm_int) pmr_nil)))) pma_nil))) (pms_cons (ow1 := [4]) (ow2 := []) (pmt_for PassesOwn.never (pmi_range1 rfl T.g_range (pma_cons (pm_callB co_len rfl T.g_len (by decide +kernel) (pma_cons (pm_var 2) pma_nil)) pma_nil)) (pg_name (i := 5) nd rfl (by first | exact .inl rfl | exact .inr rfl)) (tg_name 5) (pms_cons (ow1 := [4]) (ow2 := [4]) (pmt_set 3 nd (pm_def c_other_kind (hr.mono (by decide)) rfl pass0 (fun _ _ _ _ z => z) (pmr_v (pm_var 3) pmr_nil))) (pms_one (ow1 := [4]) (pmt_expr (pm_app 4 (pm_def c_piece_between (hr.mono (by decide)) rfl pass0 (fun _ _ _ _ z => z) (pmr_v (pm_var 3) (pmr_v (pm_ix (pm_var 2) (pm_var 5)) (pmr_v (pm_if (pm_tcmp bin_lt (pm_bin bin_add (pm_var 5) pm_int) (pm_callB co_len rfl T.g_len (by decide +kernel) (pma_cons (pm_var 2) pma_nil)) (nomark _)) (pm_ix (pm_var 2) (pm_bin bin_add (pm_var 5) pm_int)) pm_non) pmr_nil))))))))) (pms_one (ow1 := []) (pmt_ret (pm_callTy co_tuple rfl T.g_tuple (by decide +kernel) (pma_cons (pm_var 4) pma_nil))))))))))
theorem dn_row_of (T : Tx mg) (c_other_kind : Dn P w K mg tt base CX0 "other_kind" 1 1 [] m_other_kind) (c_piece_between : Dn P w K mg tt base CX0 "piece_between" 1 3 [] m_piece_between) {f : Addr} {fd : FuncData} (Fd : FnP K "row_of" s_row_of f fd) (hm : mg "row_of" = some (.ref f)) : Dn P w K mg tt base CX0 "row_of" 2 1 [] m_row_of :=
  ⟨f, fd, ["rise"], ok_row_of T c_other_kind c_piece_between Fd, hm, Fd.kp, Fd.bindsN fun _ _ _ _ _ _ us hl => match us, hl with | [_], _ => rfl⟩
theorem sc_span_of : FnScope ["row", "along", "least", "most"] ["row", "along"] (defScope s_span_of) := ⟨rfl, rfl, rfl, by decide +kernel, rfl, by decide +kernel, by decide +kernel⟩
def ms_span_of : Ms := (mSeq (mSet 2 (mIf (mTB (mBin pEq (mBin pIx (mBin pIx (mVar 0) (mC (.int 0))) (mC (.int 0))) (mVar 1))) (mC .non) (mBin pIx (mBin pIx (mVar 0) (mC (.int 0))) (mC (.int 1))))) (mSeq (mSet 3 (mIf (mTB (mBin pEq (mBin pIx (mBin pIx (mVar 0) (mNeg (mC (.int 1)))) (mC (.int 0))) (mVar 1))) (mC .non) (mBin pIx (mBin pIx (mVar 0) (mNeg (mC (.int 1)))) (mC (.int 1))))) (mRet (mTup (mCons (mVar 2) (mCons (mVar 3) mNil))))))
def m_span_of : List PV → Out PV := runN 4 ms_span_of
instance : NoEx m_span_of := runN_noex _ _
theorem ok_span_of (T : Tx mg) {f : Addr} {fd : FuncData} (Fd : FnP K "span_of" s_span_of f fd) : FnOk P w K mg base CX0 1 f fd ["row", "along"] (spM ⟨K, mg, tt⟩ 2 [] m_span_of) :=
  have nd := (sc_span_of).nd
  fnN (oz := []) Fd sc_span_of fun G cdv A outer s H E hr => (pms_cons (ow1 := []) (ow2 := []) (pmt_set 2 nd (pm_if (pm_tcmp (bin_eq (room64 hr)) (pm_ix (pm_ix (pm_var 0) pm_int) pm_int) (pm_var 1) (nomark _)) pm_non (pm_ix (pm_ix (pm_var 0) pm_int) pm_int))) (pms_cons (ow1 := []) (ow2 := []) (pmt_set 3 nd (pm_if (pm_tcmp (bin_eq (room64 hr)) (pm_ix (pm_ix (pm_var 0) (pm_neg pm_int)) pm_int) (pm_var 1) (nomark _)) pm_non (pm_ix (pm_ix (pm_var 0) (pm_neg pm_int)) pm_int))) (pms_one (ow1 := []) (pmt_ret (pm_tup (pma_cons (pm_var 2) (pma_cons (pm_var 3) pma_nil)))))))
theorem dn_span_of (T : Tx mg) {f : Addr} {fd : FuncData} (Fd : FnP K "span_of" s_span_of f fd) (hm : mg "span_of" = some (.ref f)) : Dn P w K mg tt base CX0 "span_of" 1 2 [] m_span_of :=
  ⟨f, fd, ["row", "along"], ok_span_of T  Fd, hm, Fd.kp, Fd.bindsN fun _ _ _ _ _ _ us hl => match us, hl with | [_, _], _ => rfl⟩
theorem sc_currents_of : FnScope ["rise"] ["rise"] (defScope s_currents_of) := ⟨rfl, rfl, rfl, by decide +kernel, rfl, by decide +kernel, by decide +kernel⟩
def ms_currents_of : Ms := (mSeq (mExpr (mDef 1 [] m_check_rise (mrV (mVar 0) mrNil))) (mRet (mDef 2 [] m_span_of (mrV (mDef 1 [] m_row_of (mrV (mVar 0) mrNil)) (mrV (mC (.str "flat")) mrNil)))))
def m_currents_of : List PV → Out PV := runN 1 ms_currents_of
instance : NoEx m_currents_of := runN_noex _ _
theorem ok_currents_of (T : Tx mg) (c_check_rise : Dn P w K mg tt base CX0 "check_rise" 6 1 [] m_check_rise) (c_row_of : Dn P w K mg tt base CX0 "row_of" 2 1 [] m_row_of) (c_span_of : Dn P w K mg tt base CX0 "span_of" 1 2 [] m_span_of) {f : Addr} {fd : FuncData} (Fd : FnP K "currents_of" s_currents_of f fd) : FnOk P w K mg base CX0 7 f fd ["rise"] (spM ⟨K, mg, tt⟩ 1 [] m_currents_of) :=
  have nd := (sc_currents_of).nd
  fnN (oz := []) Fd sc_currents_of fun G cdv A outer s H E hr => (pms_cons (ow1 := []) (ow2 := []) (pmt_expr (pm_def c_check_rise (hr.mono (by decide)) rfl pass0 (fun _ _ _ _ z => z) (pmr_v (pm_var 0) pmr_nil))) (pms_one (ow1 := []) (pmt_ret (pm_def c_span_of (hr.mono (by decide)) rfl pass0 (fun _ _ _ _ z => z) (pmr_v (pm_def c_row_of (hr.mono (by decide)) rfl pass0 (fun _ _ _ _ z => z) (pmr_v (pm_var 0) pmr_nil)) (pmr_v pm_str pmr_nil))))))
theorem dn_currents_of (T : Tx mg) (c_check_rise : Dn P w K mg tt base CX0 "check_rise" 6 1 [] m_check_rise) (c_row_of : Dn P w K mg tt base CX0 "row_of" 2 1 [] m_row_of) (c_span_of : Dn P w K mg tt base CX0 "span_of" 1 2 [] m_span_of) {f : Addr} {fd : FuncData} (Fd : FnP K "currents_of" s_currents_of f fd) (hm : mg "currents_of" = some (.ref f)) : Dn P w K mg tt base CX0 "currents_of" 7 1 [] m_currents_of :=
  ⟨f, fd, ["rise"], ok_currents_of T c_check_rise c_row_of c_span_of Fd, hm, Fd.kp, Fd.bindsN fun _ _ _ _ _ _ us hl => match us, hl with | [_], _ => rfl⟩
theorem sc_tensions_of : FnScope ["rise"] ["rise"] (defScope s_tensions_of) := ⟨rfl, rfl, rfl, by decide +kernel, rfl, by decide +kernel, by decide +kernel⟩
def ms_tensions_of : Ms := (mSeq (mExpr (mDef 1 [] m_check_rise (mrV (mVar 0) mrNil))) (mRet (mDef 2 [] m_span_of (mrV (mDef 1 [] m_row_of (mrV (mVar 0) mrNil)) (mrV (mC (.str "steep")) mrNil)))))
def m_tensions_of : List PV → Out PV := runN 1 ms_tensions_of
instance : NoEx m_tensions_of := runN_noex _ _
theorem ok_tensions_of (T : Tx mg) (c_check_rise : Dn P w K mg tt base CX0 "check_rise" 6 1 [] m_check_rise) (c_row_of : Dn P w K mg tt base CX0 "row_of" 2 1 [] m_row_of) (c_span_of : Dn P w K mg tt base CX0 "span_of" 1 2 [] m_span_of) {f : Addr} {fd : FuncData} (Fd : FnP K "tensions_of" s_tensions_of f fd) : FnOk P w K mg base CX0 7 f fd ["rise"] (spM ⟨K, mg, tt⟩ 1 [] m_tensions_of) :=
  have nd := (sc_tensions_of).nd
  fnN (oz := []) Fd sc_tensions_of fun G cdv A outer s H E hr => (pms_cons (ow1 := []) (ow2 := []) (pmt_expr (pm_def c_check_rise (hr.mono (by decide)) rfl pass0 (fun _ _ _ _ z => z) (pmr_v (pm_var 0) pmr_nil))) (pms_one (ow1 := []) (pmt_ret (pm_def c_span_of (hr.mono (by decide)) rfl pass0 (fun _ _ _ _ z => z) (pmr_v (pm_def c_row_of (hr.mono (by decide)) rfl pass0 (fun _ _ _ _ z => z) (pmr_v (pm_var 0) pmr_nil)) (pmr_v pm_str pmr_nil))))))
theorem dn_tensions_of (T : Tx mg) (c_check_rise : Dn P w K mg tt base CX0 "check_rise" 6 1 [] m_check_rise) (c_row_of : Dn P w K mg tt base CX0 "row_of" 2 1 [] m_row_of) (c_span_of : Dn P w K mg tt base CX0 "span_of" 1 2 [] m_span_of) {f : Addr} {fd : FuncData} (Fd : FnP K "tensions_of" s_tensions_of f fd) (hm : mg "tensions_of" = some (.ref f)) : Dn P w K mg tt base CX0 "tensions_of" 7 1 [] m_tensions_of :=
  ⟨f, fd, ["rise"], ok_tensions_of T c_check_rise c_row_of c_span_of Fd, hm, Fd.kp, Fd.bindsN fun _ _ _ _ _ _ us hl => match us, hl with | [_], _ => rfl⟩
theorem sc_extent_of : FnScope ["piece", "along", "kind", "place", "least", "most"] ["piece", "along"] (defScope s_extent_of) := ⟨rfl, rfl, rfl, by decide +kernel, rfl, by decide +kernel, by decide +kernel⟩
def ms_extent_of : Ms := (mSeq (mUnp [2, 3, 4, 5] (mVar 0)) (mRet (mIf (mTB (mBin pEq (mVar 2) (mVar 1))) (mTup (mCons (mVar 4) (mCons (mVar 5) mNil))) (mTup (mCons (mVar 3) (mCons (mVar 3) mNil))))))
def m_extent_of : List PV → Out PV := runN 6 ms_extent_of
instance : NoEx m_extent_of := runN_noex _ _
theorem ok_extent_of (T : Tx mg) {f : Addr} {fd : FuncData} (Fd : FnP K "extent_of" s_extent_of f fd) : FnOk P w K mg base CX0 1 f fd ["piece", "along"] (spM ⟨K, mg, tt⟩ 2 [] m_extent_of) :=
  have nd := (sc_extent_of).nd
  fnN (oz := []) Fd sc_extent_of fun G cdv A outer s H E hr => (pms_cons (ow1 := []) (ow2 := []) (pmt_unp [2, 3, 4, 5] (pm_var 0) (pgs_cons (pg_name (i := 2) nd rfl (by first | exact .inl rfl | exact .inr rfl)) (pgs_cons (pg_name (i := 3) nd rfl (by first | exact .inl rfl | exact .inr rfl)) (pgs_cons (pg_name (i := 4) nd rfl (by first | exact .inl rfl | exact .inr rfl)) (pgs_cons (pg_name (i := 5) nd rfl (by first | exact .inl rfl | exact .inr rfl)) pgs_nil))))) (pms_one (ow1 := []) (pmt_ret (pm_if (pm_tcmp (bin_eq (room64 hr)) (pm_var 2) (pm_var 1) (nomark _)) (pm_tup (pma_cons (pm_var 4) (pma_cons (pm_var 5) pma_nil))) (pm_tup (pma_cons (pm_var 3) (pma_cons (pm_var 3) pma_nil)))))))
theorem dn_extent_of (T : Tx mg) {f : Addr} {fd : FuncData} (Fd : FnP K "extent_of" s_extent_of f fd) (hm : mg "extent_of" = some (.ref f)) : Dn P w K mg tt base CX0 "extent_of" 1 2 [] m_extent_of :=
  ⟨f, fd, ["piece", "along"], ok_extent_of T  Fd, hm, Fd.kp, Fd.bindsN fun _ _ _ _ _ _ us hl => match us, hl with | [_, _], _ => rfl⟩
theorem sc_first_not_below : FnScope ["row", "along", "number", "start", "end", "middle"] ["row", "along", "number"] (defScope s_first_not_below) := ⟨rfl, rfl, rfl, by decide +kernel, rfl, by decide +kernel, by decide +kernel⟩
def wT1_first_not_below : Mo Bool := (mTB (mBin (pB fun i j => decide (i < j)) (mVar 3) (mVar 4)))
def wB1_first_not_below : Ms := (mSeq (mSet 5 (mBin (pIc CDivW fun i j => i / j) (mBin pAdd (mVar 3) (mVar 4)) (mC (.int 2)))) (mIfS (mTr (mDef 2 [] m_holds (mrV (mTup (mCons (mC .non) (mCons (mBin pIx (mDef 2 [] m_extent_of (mrV (mBin pIx (mVar 0) (mVar 5)) (mrV (mVar 1) mrNil))) (mC (.int 1))) mNil))) (mrV (mVar 2) mrNil)))) (mSet 4 (mVar 5)) (mSet 3 (mBin pAdd (mVar 5) (mC (.int 1))))))
def ms_first_not_below : Ms := (mSeq (mPar [3, 4] (mCons (mC (.int 0)) (mCons (mCall gLen (mCons (mVar 0) mNil)) mNil))) (mSeq (wloop wT1_first_not_below wB1_first_not_below 1000000000000000000000000000000) (mRet (mVar 3))))
def m_first_not_below : List PV → Out PV := runN 6 ms_first_not_below
instance : NoEx m_first_not_below := runN_noex _ _
theorem ok_first_not_below (T : Tx mg) (c_extent_of : Dn P w K mg tt base CX0 "extent_of" 1 2 [] m_extent_of) (c_holds : Dn P w K mg tt base CX0 "holds" 1 2 [] m_holds) {f : Addr} {fd : FuncData} (Fd : FnP K "first_not_below" s_first_not_below f fd) : FnOk P w K mg base CX0 2 f fd ["row", "along", "number"] (spM ⟨K, mg, tt⟩ 3 [] m_first_not_below) :=
  have nd := (sc_first_not_below).nd
  fnN (oz := []) Fd sc_first_not_below fun G cdv A outer s H E hr => (pms_cons (ow1 := []) (ow2 := []) (pmt_par2 [false, false] 3 4 (ow' := []) nd (pmg_v pm_int (pmg_v (pm_callB co_len rfl T.g_len (by decide +kernel) (pma_cons (pm_var 0) pma_nil)) pmg_nil))) (pms_cons (ow1 := []) (ow2 := []) (pmt_while 1000000000000000000000000000000 PassesOwn.never (pm_tcmp bin_lt (pm_var 3) (pm_var 4) (nomark _)) (pms_cons (ow1 := []) (ow2 := []) (pmt_set 5 nd (pm_bin bin_div (pm_bin bin_add (pm_var 3) (pm_var 4)) pm_int)) (pms_one (ow1 := []) (pmt_if (pm_tr (pm_def c_holds (hr.mono (by decide)) rfl pass0 (fun _ _ _ _ z => z) (pmr_v (pm_tup (pma_cons pm_non (pma_cons (pm_ix (pm_def c_extent_of (hr.mono (by decide)) rfl pass0 (fun _ _ _ _ z => z) (pmr_v (pm_ix (pm_var 0) (pm_var 5)) (pmr_v (pm_var 1) pmr_nil))) pm_int) pma_nil))) (pmr_v (pm_var 2) pmr_nil)))) (pms_one (ow1 := []) (pmt_set 4 nd (pm_var 5))) (pms_one (ow1 := []) (pmt_set 3 nd (pm_bin bin_add (pm_var 5) pm_int))))))) (pms_one (ow1 := []) (pmt_ret (pm_var 3)))))
theorem dn_first_not_below (T : Tx mg) (c_extent_of : Dn P w K mg tt base CX0 "extent_of" 1 2 [] m_extent_of) (c_holds : Dn P w K mg tt base CX0 "holds" 1 2 [] m_holds) {f : Addr} {fd : FuncData} (Fd : FnP K "first_not_below" s_first_not_below f fd) (hm : mg "first_not_below" = some (.ref f)) : Dn P w K mg tt base CX0 "first_not_below" 2 3 [] m_first_not_below :=
  ⟨f, fd, ["row", "along", "number"], ok_first_not_below T c_extent_of c_holds Fd, hm, Fd.kp, Fd.bindsN fun _ _ _ _ _ _ us hl => match us, hl with | [_, _, _], _ => rfl⟩
theorem sc_span_across : FnScope ["row", "along", "number", "start", "inside", "across", "piece"] ["row", "along", "number"] (defScope s_span_across) := ⟨rfl, rfl, rfl, by decide +kernel, rfl, by decide +kernel, by decide +kernel⟩
def cT1_span_across : Mo Bool := (mTr (mDef 2 [] m_holds (mrV (mDef 2 [] m_extent_of (mrV (mVar 6) (mrV (mVar 1) mrNil))) (mrV (mVar 2) mrNil))))
def ms_span_across : Ms := (mSeq (mSet 3 (mDef 3 [] m_first_not_below (mrV (mVar 0) (mrV (mVar 1) (mrV (mVar 2) mrNil))))) (mSeq (mSet 4 (mLc [6] (tN 6) cT1_span_across (mVar 6) (mIt (mSl (mVar 0) (mPart (mVar 3)) (mPart (mBin pAdd (mVar 3) (mC (.int 3)))))))) (mSeq (mIfS (mNot (mTr (mVar 4))) (mRet (mC .non)) mNext) (mSeq (mSet 5 (mDef 1 [] m_other_kind (mrV (mVar 1) mrNil))) (mRet (mTup (mCons (mBin pIx (mDef 2 [] m_extent_of (mrV (mBin pIx (mVar 4) (mC (.int 0))) (mrV (mVar 5) mrNil))) (mC (.int 0))) (mCons (mBin pIx (mDef 2 [] m_extent_of (mrV (mBin pIx (mVar 4) (mNeg (mC (.int 1)))) (mrV (mVar 5) mrNil))) (mC (.int 1))) mNil))))))))
def m_span_across : List PV → Out PV := runN 7 ms_span_across
instance : NoEx m_span_across := runN_noex _ _
theorem ok_span_across (T : Tx mg) (c_extent_of : Dn P w K mg tt base CX0 "extent_of" 1 2 [] m_extent_of) (c_first_not_below : Dn P w K mg tt base CX0 "first_not_below" 2 3 [] m_first_not_below) (c_holds : Dn P w K mg tt base CX0 "holds" 1 2 [] m_holds) (c_other_kind : Dn P w K mg tt base CX0 "other_kind" 1 1 [] m_other_kind) {f : Addr} {fd : FuncData} (Fd : FnP K "span_across" s_span_across f fd) : FnOk P w K mg base CX0 3 f fd ["row", "along", "number"] (spM ⟨K, mg, tt⟩ 3 [] m_span_across) :=
  have nd := (sc_span_across).nd
  fnN (oz := []) Fd sc_span_across fun G cdv A outer s H E hr => (pms_cons (ow1 := []) (ow2 := []) (pmt_set 3 nd (pm_def c_first_not_below (hr.mono (by decide)) rfl pass0 (fun _ _ _ _ z => z) (pmr_v (pm_var 0) (pmr_v (pm_var 1) (pmr_v (pm_var 2) pmr_nil))))) (pms_cons (ow1 := []) (ow2 := []) (pmt_setLc 4 (own := [("piece", 6)]) nd (pmi_seq (pm_sl (pm_var 0) (pmo_some (pm_var 3)) (pmo_some (pm_bin bin_add (pm_var 3) pm_int)))) (blkOk_by (own := [("piece", 6)]) (N := ["row", "along", "number", "start", "inside", "across", "piece"]) (sc := defScope s_span_across) (by decide +kernel)) (fun _ _ _ _ _ => (pg_name (i := 6) nd rfl (.inl rfl))) (fun _ _ _ _ _ _ => (pmts_one (pm_tr (pm_def c_holds (hr.mono (by decide)) rfl pass0 (fun _ _ _ _ z => z) (pmr_v (pm_def c_extent_of (hr.mono (by decide)) rfl pass0 (fun _ _ _ _ z => z) (pmr_v (pm_var 6) (pmr_v (pm_var 1) pmr_nil))) (pmr_v (pm_var 2) pmr_nil)))))) (fun _ _ _ _ _ _ => (pm_var 6)) (fun _ => (tg_name 6)) (sw_true rfl rfl rfl (by decide +kernel))) (pms_cons (ow1 := []) (ow2 := []) (pmt_if (pm_not (pm_tr (pm_var 4))) (pms_one (ow1 := []) (pmt_ret pm_non)) (pms_nil)) (pms_cons (ow1 := []) (ow2 := []) (pmt_set 5 nd (pm_def c_other_kind (hr.mono (by decide)) rfl pass0 (fun _ _ _ _ z => z) (pmr_v (pm_var 1) pmr_nil))) (pms_one (ow1 := []) (pmt_ret (pm_tup (pma_cons (pm_ix (pm_def c_extent_of (hr.mono (by decide)) rfl pass0 (fun _ _ _ _ z => z) (pmr_v (pm_ix (pm_var 4) pm_int) (pmr_v (pm_var 5) pmr_nil))) pm_int) (pma_cons (pm_ix (pm_def c_extent_of (hr.mono (by decide)) rfl pass0 (fun _ _ _ _ z => z) (pmr_v (pm_ix (pm_var 4) (pm_neg pm_int)) (pmr_v (pm_var 5) pmr_nil))) pm_int) pma_nil)))))))))
theorem dn_span_across (T : Tx mg) (c_extent_of : Dn P w K mg tt base CX0 "extent_of" 1 2 [] m_extent_of) (c_first_not_below : Dn P w K mg tt base CX0 "first_not_below" 2 3 [] m_first_not_below) (c_holds : Dn P w K mg tt base CX0 "holds" 1 2 [] m_holds) (c_other_kind : Dn P w K mg tt base CX0 "other_kind" 1 1 [] m_other_kind) {f : Addr} {fd : FuncData} (Fd : FnP K "span_across" s_span_across f fd) (hm : mg "span_across" = some (.ref f)) : Dn P w K mg tt base CX0 "span_across" 3 3 [] m_span_across :=
  ⟨f, fd, ["row", "along", "number"], ok_span_across T c_extent_of c_first_not_below c_holds c_other_kind Fd, hm, Fd.kp, Fd.bindsN fun _ _ _ _ _ _ us hl => match us, hl with | [_, _, _], _ => rfl⟩
theorem sc_tensions_at : FnScope ["rise", "current"] ["rise", "current"] (defScope s_tensions_at) := ⟨rfl, rfl, rfl, by decide +kernel, rfl, by decide +kernel, by decide +kernel⟩
def ms_tensions_at : Ms := (mSeq (mExpr (mDef 1 [] m_check_rise (mrV (mVar 0) mrNil))) (mSeq (mExpr (mDef 1 [] m_check_number (mrV (mVar 1) mrNil))) (mRet (mDef 3 [] m_span_across (mrV (mDef 1 [] m_row_of (mrV (mVar 0) mrNil)) (mrV (mC (.str "flat")) (mrV (mVar 1) mrNil)))))))
def m_tensions_at : List PV → Out PV := runN 2 ms_tensions_at
instance : NoEx m_tensions_at := runN_noex _ _
theorem ok_tensions_at (T : Tx mg) (c_check_number : Dn P w K mg tt base CX0 "check_number" 3 1 [] m_check_number) (c_check_rise : Dn P w K mg tt base CX0 "check_rise" 6 1 [] m_check_rise) (c_row_of : Dn P w K mg tt base CX0 "row_of" 2 1 [] m_row_of) (c_span_across : Dn P w K mg tt base CX0 "span_across" 3 3 [] m_span_across) {f : Addr} {fd : FuncData} (Fd : FnP K "tensions_at" s_tensions_at f fd) : FnOk P w K mg base CX0 7 f fd ["rise", "current"] (spM ⟨K, mg, tt⟩ 2 [] m_tensions_at) :=
  have nd := (sc_tensions_at).nd
  fnN (oz := []) Fd sc_tensions_at fun G cdv A outer s H E hr => (pms_cons (ow1 := []) (ow2 := []) (pmt_expr (pm_def c_check_rise (hr.mono (by decide)) rfl pass0 (fun _ _ _ _ z => z) (pmr_v (pm_var 0) pmr_nil))) (pms_cons (ow1 := []) (ow2 := []) (pmt_expr (pm_def c_check_number (hr.mono (by decide)) rfl pass0 (fun _ _ _ _ z => z) (pmr_v (pm_var 1) pmr_nil))) (pms_one (ow1 := []) (pmt_ret (pm_def c_span_across (hr.mono (by decide)) rfl pass0 (fun _ _ _ _ z => z) (pmr_v (pm_def c_row_of (hr.mono (by decide)) rfl pass0 (fun _ _ _ _ z => z) (pmr_v (pm_var 0) pmr_nil)) (pmr_v pm_str (pmr_v (pm_var 1) pmr_nil))))))))
theorem dn_tensions_at (T : Tx mg) (c_check_number : Dn P w K mg tt base CX0 "check_number" 3 1 [] m_check_number) (c_check_rise : Dn P w K mg tt base CX0 "check_rise" 6 1 [] m_check_rise) (c_row_of : Dn P w K mg tt base CX0 "row_of" 2 1 [] m_row_of) (c_span_across : Dn P w K mg tt base CX0 "span_across" 3 3 [] m_span_across) {f : Addr} {fd : FuncData} (Fd : FnP K "tensions_at" s_tensions_at f fd) (hm : mg "tensions_at" = some (.ref f)) : Dn P w K mg tt base CX0 "tensions_at" 7 2 [] m_tensions_at :=
  ⟨f, fd, ["rise", "current"], ok_tensions_at T c_check_number c_check_rise c_row_of c_span_across Fd, hm, Fd.kp, Fd.bindsN fun _ _ _ _ _ _ us hl => match us, hl with | [_, _], _ => rfl⟩
theorem sc_currents_at : FnScope ["rise", "tension"] ["rise", "tension"] (defScope s_currents_at) := ⟨rfl, rfl, rfl, by decide +kernel, rfl, by decide +kernel, by decide +kernel⟩
def ms_currents_at : Ms := (mSeq (mExpr (mDef 1 [] m_check_rise (mrV (mVar 0) mrNil))) (mSeq (mExpr (mDef 1 [] m_check_number (mrV (mVar 1) mrNil))) (mRet (mDef 3 [] m_span_across (mrV (mDef 1 [] m_row_of (mrV (mVar 0) mrNil)) (mrV (mC (.str "steep")) (mrV (mVar 1) mrNil)))))))
def m_currents_at : List PV → Out PV := runN 2 ms_currents_at
instance : NoEx m_currents_at := runN_noex _ _
theorem ok_currents_at (T : Tx mg) (c_check_number : Dn P w K mg tt base CX0 "check_number" 3 1 [] m_check_number) (c_check_rise : Dn P w K mg tt base CX0 "check_rise" 6 1 [] m_check_rise) (c_row_of : Dn P w K mg tt base CX0 "row_of" 2 1 [] m_row_of) (c_span_across : Dn P w K mg tt base CX0 "span_across" 3 3 [] m_span_across) {f : Addr} {fd : FuncData} (Fd : FnP K "currents_at" s_currents_at f fd) : FnOk P w K mg base CX0 7 f fd ["rise", "tension"] (spM ⟨K, mg, tt⟩ 2 [] m_currents_at) :=
  have nd := (sc_currents_at).nd
  fnN (oz := []) Fd sc_currents_at fun G cdv A outer s H E hr => (pms_cons (ow1 := []) (ow2 := []) (pmt_expr (pm_def c_check_rise (hr.mono (by decide)) rfl pass0 (fun _ _ _ _ z => z) (pmr_v (pm_var 0) pmr_nil))) (pms_cons (ow1 := []) (ow2 := []) (pmt_expr (pm_def c_check_number (hr.mono (by decide)) rfl pass0 (fun _ _ _ _ z => z) (pmr_v (pm_var 1) pmr_nil))) (pms_one (ow1 := []) (pmt_ret (pm_def c_span_across (hr.mono (by decide)) rfl pass0 (fun _ _ _ _ z => z) (pmr_v (pm_def c_row_of (hr.mono (by decide)) rfl pass0 (fun _ _ _ _ z => z) (pmr_v (pm_var 0) pmr_nil)) (pmr_v pm_str (pmr_v (pm_var 1) pmr_nil))))))))
theorem dn_currents_at (T : Tx mg) (c_check_number : Dn P w K mg tt base CX0 "check_number" 3 1 [] m_check_number) (c_check_rise : Dn P w K mg tt base CX0 "check_rise" 6 1 [] m_check_rise) (c_row_of : Dn P w K mg tt base CX0 "row_of" 2 1 [] m_row_of) (c_span_across : Dn P w K mg tt base CX0 "span_across" 3 3 [] m_span_across) {f : Addr} {fd : FuncData} (Fd : FnP K "currents_at" s_currents_at f fd) (hm : mg "currents_at" = some (.ref f)) : Dn P w K mg tt base CX0 "currents_at" 7 2 [] m_currents_at :=
  ⟨f, fd, ["rise", "tension"], ok_currents_at T c_check_number c_check_rise c_row_of c_span_across Fd, hm, Fd.kp, Fd.bindsN fun _ _ _ _ _ _ us hl => match us, hl with | [_, _], _ => rfl⟩
theorem sc_place_by : FnScope ["row", "current", "tension", "span", "least"] ["row", "current", "tension"] (defScope s_place_by) := ⟨rfl, rfl, rfl, by decide +kernel, rfl, by decide +kernel, by decide +kernel⟩
def ms_place_by : Ms := (mSeq (mSet 3 (mDef 3 [] m_span_across (mrV (mVar 0) (mrV (mC (.str "flat")) (mrV (mVar 1) mrNil))))) (mSeq (mIfS (mTB (mBin pIsN (mVar 3) (mC .non))) (mSeq (mSet 4 (mBin pIx (mDef 2 [] m_span_of (mrV (mVar 0) (mrV (mC (.str "flat")) mrNil))) (mC (.int 0)))) (mRet (mIf (mAnd (mTB (mBin pNotN (mVar 4) (mC .non))) (mTB (mBin (pB fun i j => decide (i < j)) (mVar 1) (mVar 4)))) (mC (.str "above")) (mC (.str "below"))))) mNext) (mSeq (mIfS (mTr (mDef 2 [] m_holds (mrV (mVar 3) (mrV (mVar 2) mrNil)))) (mRet (mC (.str "on"))) mNext) (mRet (mIf (mTr (mDef 2 [] m_holds (mrV (mTup (mCons (mC .non) (mCons (mBin pIx (mVar 3) (mC (.int 1))) mNil))) (mrV (mVar 2) mrNil)))) (mC (.str "below")) (mC (.str "above")))))))
def m_place_by : List PV → Out PV := runN 5 ms_place_by
instance : NoEx m_place_by := runN_noex _ _
theorem ok_place_by (T : Tx mg) (c_holds : Dn P w K mg tt base CX0 "holds" 1 2 [] m_holds) (c_span_across : Dn P w K mg tt base CX0 "span_across" 3 3 [] m_span_across) (c_span_of : Dn P w K mg tt base CX0 "span_of" 1 2 [] m_span_of) {f : Addr} {fd : FuncData} (Fd : FnP K "place_by" s_place_by f fd) : FnOk P w K mg base CX0 4 f fd ["row", "current", "tension"] (spM ⟨K, mg, tt⟩ 3 [] m_place_by) :=
  have nd := (sc_place_by).nd
  fnN (oz := []) Fd sc_place_by fun G cdv A outer s H E hr => (pms_cons (ow1 := []) (ow2 := []) (pmt_set 3 nd (pm_def c_span_across (hr.mono (by decide)) rfl pass0 (fun _ _ _ _ z => z) (pmr_v (pm_var 0) (pmr_v pm_str (pmr_v (pm_var 1) pmr_nil))))) (pms_cons (ow1 := []) (ow2 := []) (pmt_if (pm_tcmp bin_isN (pm_var 3) pm_non (nomark _)) (pms_cons (ow1 := []) (ow2 := []) (pmt_set 4 nd (pm_ix (pm_def c_span_of (hr.mono (by decide)) rfl pass0 (fun _ _ _ _ z => z) (pmr_v (pm_var 0) (pmr_v pm_str pmr_nil))) pm_int)) (pms_one (ow1 := []) (pmt_ret (pm_if (PW.pt (pw_andM (pm_tcmp bin_notN (pm_var 4) pm_non (nomark _)) (pw_and1 (pm_tcmp bin_lt (pm_var 1) (pm_var 4) (nomark _))))) pm_str pm_str)))) (pms_nil)) (pms_cons (ow1 := []) (ow2 := []) (pmt_if (pm_tr (pm_def c_holds (hr.mono (by decide)) rfl pass0 (fun _ _ _ _ z => z) (pmr_v (pm_var 3) (pmr_v (pm_var 2) pmr_nil)))) (pms_one (ow1 := []) (pmt_ret pm_str)) (pms_nil)) (pms_one (ow1 := []) (pmt_ret (pm_if (pm_tr (pm_def c_holds (hr.mono (by decide)) rfl pass0 (fun _ _ _ _ z => z) (pmr_v (pm_tup (pma_cons pm_non (pma_cons (pm_ix (pm_var 3) pm_int) pma_nil))) (pmr_v (pm_var 2) pmr_nil)))) pm_str pm_str))))))
theorem dn_place_by (T : Tx mg) (c_holds : Dn P w K mg tt base CX0 "holds" 1 2 [] m_holds) (c_span_across : Dn P w K mg tt base CX0 "span_across" 3 3 [] m_span_across) (c_span_of : Dn P w K mg tt base CX0 "span_of" 1 2 [] m_span_of) {f : Addr} {fd : FuncData} (Fd : FnP K "place_by" s_place_by f fd) (hm : mg "place_by" = some (.ref f)) : Dn P w K mg tt base CX0 "place_by" 4 3 [] m_place_by :=
  ⟨f, fd, ["row", "current", "tension"], ok_place_by T c_holds c_span_across c_span_of Fd, hm, Fd.kp, Fd.bindsN fun _ _ _ _ _ _ us hl => match us, hl with | [_, _, _], _ => rfl⟩
theorem sc_place_of : FnScope ["rise", "current", "tension"] ["rise", "current", "tension"] (defScope s_place_of) := ⟨rfl, rfl, rfl, by decide +kernel, rfl, by decide +kernel, by decide +kernel⟩
def ms_place_of : Ms := (mSeq (mExpr (mDef 1 [] m_check_rise (mrV (mVar 0) mrNil))) (mSeq (mExpr (mDef 1 [] m_check_number (mrV (mVar 1) mrNil))) (mSeq (mExpr (mDef 1 [] m_check_number (mrV (mVar 2) mrNil))) (mRet (mDef 3 [] m_place_by (mrV (mDef 1 [] m_row_of (mrV (mVar 0) mrNil)) (mrV (mVar 1) (mrV (mVar 2) mrNil))))))))
def m_place_of : List PV → Out PV := runN 3 ms_place_of
instance : NoEx m_place_of := runN_noex _ _
theorem ok_place_of (T : Tx mg) (c_check_number : Dn P w K mg tt base CX0 "check_number" 3 1 [] m_check_number) (c_check_rise : Dn P w K mg tt base CX0 "check_rise" 6 1 [] m_check_rise) (c_place_by : Dn P w K mg tt base CX0 "place_by" 4 3 [] m_place_by) (c_row_of : Dn P w K mg tt base CX0 "row_of" 2 1 [] m_row_of) {f : Addr} {fd : FuncData} (Fd : FnP K "place_of" s_place_of f fd) : FnOk P w K mg base CX0 7 f fd ["rise", "current", "tension"] (spM ⟨K, mg, tt⟩ 3 [] m_place_of) :=
  have nd := (sc_place_of).nd
  fnN (oz := []) Fd sc_place_of fun G cdv A outer s H E hr => (pms_cons (ow1 := []) (ow2 := []) (pmt_expr (pm_def c_check_rise (hr.mono (by decide)) rfl pass0 (fun _ _ _ _ z => z) (pmr_v (pm_var 0) pmr_nil))) (pms_cons (ow1 := []) (ow2 := []) (pmt_expr (pm_def c_check_number (hr.mono (by decide)) rfl pass0 (fun _ _ _ _ z => z) (pmr_v (pm_var 1) pmr_nil))) (pms_cons (ow1 := []) (ow2 := []) (pmt_expr (pm_def c_check_number (hr.mono (by decide)) rfl pass0 (fun _ _ _ _ z => z) (pmr_v (pm_var 2) pmr_nil))) (pms_one (ow1 := []) (pmt_ret (pm_def c_place_by (hr.mono (by decide)) rfl pass0 (fun _ _ _ _ z => z) (pmr_v (pm_def c_row_of (hr.mono (by decide)) rfl pass0 (fun _ _ _ _ z => z) (pmr_v (pm_var 0) pmr_nil)) (pmr_v (pm_var 1) (pmr_v (pm_var 2) pmr_nil)))))))))
theorem dn_place_of (T : Tx mg) (c_check_number : Dn P w K mg tt base CX0 "check_number" 3 1 [] m_check_number) (c_check_rise : Dn P w K mg tt base CX0 "check_rise" 6 1 [] m_check_rise) (c_place_by : Dn P w K mg tt base CX0 "place_by" 4 3 [] m_place_by) (c_row_of : Dn P w K mg tt base CX0 "row_of" 2 1 [] m_row_of) {f : Addr} {fd : FuncData} (Fd : FnP K "place_of" s_place_of f fd) (hm : mg "place_of" = some (.ref f)) : Dn P w K mg tt base CX0 "place_of" 7 3 [] m_place_of :=
  ⟨f, fd, ["rise", "current", "tension"], ok_place_of T c_check_number c_check_rise c_place_by c_row_of Fd, hm, Fd.kp, Fd.bindsN fun _ _ _ _ _ _ us hl => match us, hl with | [_, _, _], _ => rfl⟩
theorem sc_is_on : FnScope ["rise", "current", "tension"] ["rise", "current", "tension"] (defScope s_is_on) := ⟨rfl, rfl, rfl, by decide +kernel, rfl, by decide +kernel, by decide +kernel⟩
def ms_is_on : Ms := (mRet (mBin pEq (mDef 3 [] m_place_of (mrV (mVar 0) (mrV (mVar 1) (mrV (mVar 2) mrNil)))) (mC (.str "on"))))
def m_is_on : List PV → Out PV := runN 3 ms_is_on
instance : NoEx m_is_on := runN_noex _ _
theorem ok_is_on (T : Tx mg) (c_place_of : Dn P w K mg tt base CX0 "place_of" 7 3 [] m_place_of) {f : Addr} {fd : FuncData} (Fd : FnP K "is_on" s_is_on f fd) : FnOk P w K mg base CX0 8 f fd ["rise", "current", "tension"] (spM ⟨K, mg, tt⟩ 3 [] m_is_on) :=
  have nd := (sc_is_on).nd
  fnN (oz := []) Fd sc_is_on fun G cdv A outer s H E hr => (pms_one (ow1 := []) (pmt_ret (pm_cmp (bin_eq (room64 hr)) (pm_def c_place_of (hr.mono (by decide)) rfl pass0 (fun _ _ _ _ z => z) (pmr_v (pm_var 0) (pmr_v (pm_var 1) (pmr_v (pm_var 2) pmr_nil)))) pm_str (nomark _))))
theorem dn_is_on (T : Tx mg) (c_place_of : Dn P w K mg tt base CX0 "place_of" 7 3 [] m_place_of) {f : Addr} {fd : FuncData} (Fd : FnP K "is_on" s_is_on f fd) (hm : mg "is_on" = some (.ref f)) : Dn P w K mg tt base CX0 "is_on" 8 3 [] m_is_on :=
  ⟨f, fd, ["rise", "current", "tension"], ok_is_on T c_place_of Fd, hm, Fd.kp, Fd.bindsN fun _ _ _ _ _ _ us hl => match us, hl with | [_, _, _], _ => rfl⟩
theorem sc__law_cask : FnScope ["script", "spot", "cell", "great", "mixed"] ["script", "spot"] (defScope s__law_cask) := ⟨rfl, rfl, rfl, by decide +kernel, rfl, by decide +kernel, by decide +kernel⟩
def ms__law_cask : Ms := (mSeqN (mSet 2 (mIf (mTB (mBin (pB fun i j => decide (i < j)) (mVar 1) (mCall gLen (mCons (mVar 0) mNil)))) (mCall gInt (mCons (mBin pIx (mVar 0) (mVar 1)) mNil)) (mBin pAdd (mBin pMulU (mC (.int 263)) (mVar 1)) (mC (.int 109))))) (mSeqN (mSet 3 (mBin (pIc CPos fun i j => i % j) (mCall gInt (mCons (mCall gAbs (mCons (mVar 2) mNil)) mNil)) (mBin pMulU (mBin pPow (mC (.int 10)) (mC (.int 55))) (mBin pPow (mC (.int 10)) (mC (.int 58)))))) (mSeqN (mSet 4 (mBin pAdd (mBin pAdd (mBin pAdd (mBin pMulU (mBin (pIc CPos fun i j => i % j) (mVar 3) (mC (.int 2305843009213693669))) (mC (.int 83))) (mBin pMulU (mC (.int 1301)) (mVar 1))) (mBin pMulU (mC (.int 47)) (mCall gInt (mCons (mBin (pB fun i j => decide (i < j)) (mVar 2) (mC (.int 0))) mNil)))) (mC (.int 31)))) (mRet (mLst (mCons (mCall gMax (mCons (mC (.int 0)) (mCons (mBin (pI fun i j => i - j) (mVar 3) (mBin pPow (mC (.int 10)) (mC (.int 16)))) mNil))) (mCons (mBin (pIc CPos fun i j => i % j) (mCall gInt (mCons (mVar 4) mNil)) (mC (.int 1152921504606846697))) (mCons (mC (.int 0)) mNil))))))))
def m__law_cask : List PV → Out PV := runF 5 ms__law_cask
theorem ok__law_cask (T : Tx mg) {f : Addr} {fd : FuncData} (Fd : FnP K "_law_cask" s__law_cask f fd) : FnOk P w K mg base CX0 1 f fd ["script", "spot"] (spMF ⟨K, mg, tt⟩ 2 m__law_cask) :=
  have nd := (sc__law_cask).nd
  fnF Fd sc__law_cask fun G cdv A outer s H E hr => (pmsF_cons (pmt_set 2 nd (pm_if (pm_tcmp bin_lt (pm_var 1) (pm_callB co_len rfl T.g_len (by decide +kernel) (pma_cons (pm_var 0) pma_nil)) (nomark _)) (pm_callTy co_int rfl T.g_int (by decide +kernel) (pma_cons (pm_ix (pm_var 0) (pm_var 1)) pma_nil)) (pm_bin bin_add (pm_bin bin_mulU pm_int (pm_var 1)) pm_int))) (pmsF_cons (pmt_set 3 nd (pm_bin bin_mod (pm_callTy co_int rfl T.g_int (by decide +kernel) (pma_cons (pm_callB co_abs rfl T.g_abs (by decide +kernel) (pma_cons (pm_var 2) pma_nil)) pma_nil)) (pm_bin bin_mulU (pm_bin bin_powB pm_int pm_int) (pm_bin bin_powB pm_int pm_int)))) (pmsF_cons (pmt_set 4 nd (pm_bin bin_add (pm_bin bin_add (pm_bin bin_add (pm_bin bin_mulU (pm_bin bin_mod (pm_var 3) pm_int) pm_int) (pm_bin bin_mulU pm_int (pm_var 1))) (pm_bin bin_mulU pm_int (pm_callTy co_int rfl T.g_int (by decide +kernel) (pma_cons (pm_cmp bin_lt (pm_var 2) pm_int (nomark _)) pma_nil)))) pm_int)) (pmsF_ret (pmf_lst (pma_cons (pm_callB co_max rfl T.g_max (by decide +kernel) (pma_cons pm_int (pma_cons (pm_bin bin_sub (pm_var 3) (pm_bin bin_powB pm_int pm_int)) pma_nil))) (pma_cons (pm_bin bin_mod (pm_callTy co_int rfl T.g_int (by decide +kernel) (pma_cons (pm_var 4) pma_nil)) pm_int) (pma_cons pm_int pma_nil))))))))
theorem dn__law_cask (T : Tx mg) {f : Addr} {fd : FuncData} (Fd : FnP K "_law_cask" s__law_cask f fd) (hm : mg "_law_cask" = some (.ref f)) : DnF P w K mg tt base "_law_cask" 1 2 m__law_cask :=
  ⟨f, fd, ["script", "spot"], ok__law_cask T  Fd, hm, Fd.kp, Fd.bindsN fun _ _ _ _ _ _ us hl => match us, hl with | [_, _], _ => rfl⟩
theorem sc__law_pour : FnScope ["cask", "total", "taken", "one", "two"] ["cask", "total"] (defScope s__law_pour) := ⟨rfl, rfl, rfl, by decide +kernel, rfl, by decide +kernel, by decide +kernel⟩
def ms__law_pour : Ms := (mSeq (mIfS (mTB (mBin (pB fun i j => decide (j < i)) (mIxO 0 (mC (.int 0))) (mC (.int 0)))) (mSeq (mSet 2 (mBin (pIc CPos fun i j => i % j) (mCall gInt (mCons (mIxO 0 (mC (.int 0))) mNil)) (mVar 1))) (mSeq (mSetIx 0 (mC (.int 0)) (mBin (pIc CDivW fun i j => i / j) (mIxO 0 (mC (.int 0))) (mVar 1))) (mRet (mVar 2)))) mNext) (mSeq (mSetIx 0 (mC (.int 2)) (mBin pAdd (mIxO 0 (mC (.int 2))) (mC (.int 1)))) (mSeq (mSet 3 (mBin (pIc CPos fun i j => i % j) (mCall gInt (mCons (mBin pAdd (mIxO 0 (mC (.int 1))) (mBin pMulU (mC (.int 15485863)) (mIxO 0 (mC (.int 2))))) mNil)) (mC (.int 2305843009213693951)))) (mSeq (mSet 4 (mBin pAdd (mBin pMulU (mBin (pIc CPos fun i j => i % j) (mCall gInt (mCons (mBin pAdd (mBin pMulU (mVar 3) (mVar 3)) (mBin pMulU (mC (.int 113)) (mIxO 0 (mC (.int 2))))) mNil)) (mC (.int 2305843009213693907))) (mC (.int 32452867))) (mVar 3))) (mRet (mBin (pIc CPos fun i j => i % j) (mCall gInt (mCons (mBin (pIc CDivW fun i j => i / j) (mVar 4) (mC (.int 65539))) mNil)) (mVar 1)))))))
def m__law_pour : List PV → Out PV := runN 5 ms__law_pour
instance : NoEx m__law_pour := runN_noex _ _
theorem ok__law_pour (T : Tx mg) {f : Addr} {fd : FuncData} (Fd : FnP K "_law_pour" s__law_pour f fd) : FnOk P w K mg base CX0 1 f fd ["cask", "total"] (spM ⟨K, mg, tt⟩ 2 [0] m__law_pour) :=
  have nd := (sc__law_pour).nd
  fnN (oz := [0]) Fd sc__law_pour fun G cdv A outer s H E hr => (pms_cons (ow1 := [0]) (ow2 := [0]) (pmt_if (pm_tcmp bin_gt (pm_ixO 0 pm_int) pm_int (nomark _)) (pms_cons (ow1 := [0]) (ow2 := [0]) (pmt_set 2 nd (pm_bin bin_mod (pm_callTy co_int rfl T.g_int (by decide +kernel) (pma_cons (pm_ixO 0 pm_int) pma_nil)) (pm_var 1))) (pms_cons (ow1 := [0]) (ow2 := [0]) (pmt_setIx 0 (pm_bin bin_div (pm_ixO 0 pm_int) (pm_var 1)) pm_int) (pms_one (ow1 := [0]) (pmt_ret (pm_var 2))))) (pms_nil)) (pms_cons (ow1 := [0]) (ow2 := [0]) (pmt_setIx 0 (pm_bin bin_add (pm_ixO 0 pm_int) pm_int) pm_int) (pms_cons (ow1 := [0]) (ow2 := [0]) (pmt_set 3 nd (pm_bin bin_mod (pm_callTy co_int rfl T.g_int (by decide +kernel) (pma_cons (pm_bin bin_add (pm_ixO 0 pm_int) (pm_bin bin_mulU pm_int (pm_ixO 0 pm_int))) pma_nil)) pm_int)) (pms_cons (ow1 := [0]) (ow2 := [0]) (pmt_set 4 nd (pm_bin bin_add (pm_bin bin_mulU (pm_bin bin_mod (pm_callTy co_int rfl T.g_int (by decide +kernel) (pma_cons (pm_bin bin_add (pm_bin bin_mulU (pm_var 3) (pm_var 3)) (pm_bin bin_mulU pm_int (pm_ixO 0 pm_int))) pma_nil)) pm_int) pm_int) (pm_var 3))) (pms_one (ow1 := [0]) (pmt_ret (pm_bin bin_mod (pm_callTy co_int rfl T.g_int (by decide +kernel) (pma_cons (pm_bin bin_div (pm_var 4) pm_int) pma_nil)) (pm_var 1))))))))
theorem dn__law_pour (T : Tx mg) {f : Addr} {fd : FuncData} (Fd : FnP K "_law_pour" s__law_pour f fd) (hm : mg "_law_pour" = some (.ref f)) : Dn P w K mg tt base CX0 "_law_pour" 1 2 [0] m__law_pour :=
  ⟨f, fd, ["cask", "total"], ok__law_pour T  Fd, hm, Fd.kp, Fd.bindsN fun _ _ _ _ _ _ us hl => match us, hl with | [_, _], _ => rfl⟩
theorem sc__law_among : FnScope ["cask", "items"] ["cask", "items"] (defScope s__law_among) := ⟨rfl, rfl, rfl, by decide +kernel, rfl, by decide +kernel, by decide +kernel⟩
def ms__law_among : Ms := (mRet (mBin pIx (mVar 1) (mDef 2 [0] m__law_pour (mrO 0 (mrV (mCall gLen (mCons (mVar 1) mNil)) mrNil)))))
def m__law_among : List PV → Out PV := runN 2 ms__law_among
instance : NoEx m__law_among := runN_noex _ _
theorem ok__law_among (T : Tx mg) (c__law_pour : Dn P w K mg tt base CX0 "_law_pour" 1 2 [0] m__law_pour) {f : Addr} {fd : FuncData} (Fd : FnP K "_law_among" s__law_among f fd) : FnOk P w K mg base CX0 2 f fd ["cask", "items"] (spM ⟨K, mg, tt⟩ 2 [0] m__law_among) :=
  have nd := (sc__law_among).nd
  fnN (oz := [0]) Fd sc__law_among fun G cdv A outer s H E hr => (pms_one (ow1 := [0]) (pmt_ret (pm_ix (pm_var 1) (pm_def c__law_pour (hr.mono (by decide)) rfl pass0 (fun _ _ _ _ z => z) (pmr_o 0 (pmr_v (pm_callB co_len rfl T.g_len (by decide +kernel) (pma_cons (pm_var 1) pma_nil)) pmr_nil))))))
theorem dn__law_among (T : Tx mg) (c__law_pour : Dn P w K mg tt base CX0 "_law_pour" 1 2 [0] m__law_pour) {f : Addr} {fd : FuncData} (Fd : FnP K "_law_among" s__law_among f fd) (hm : mg "_law_among" = some (.ref f)) : Dn P w K mg tt base CX0 "_law_among" 2 2 [0] m__law_among :=
  ⟨f, fd, ["cask", "items"], ok__law_among T c__law_pour Fd, hm, Fd.kp, Fd.bindsN fun _ _ _ _ _ _ us hl => match us, hl with | [_, _], _ => rfl⟩
theorem sc__law_size : FnScope ["cask"] ["cask"] (defScope s__law_size) := ⟨rfl, rfl, rfl, by decide +kernel, rfl, by decide +kernel, by decide +kernel⟩
def ms__law_size : Ms := (mRet (mBin pAdd (mC (.int 1)) (mDef 2 [0] m__law_pour (mrO 0 (mrV (mDef 2 [0] m__law_among (mrO 0 (mrV (mLst (mCons (mC (.int 1)) (mCons (mC (.int 2)) (mCons (mC (.int 3)) (mCons (mC (.int 3)) (mCons (mC (.int 5)) (mCons (mBin pPow (mC (.int 10)) (mC (.int 9))) (mCons (mBin pPow (mC (.int 10)) (mC (.int 15))) mNil)))))))) mrNil))) mrNil)))))
def m__law_size : List PV → Out PV := runN 1 ms__law_size
instance : NoEx m__law_size := runN_noex _ _
theorem ok__law_size (T : Tx mg) (c__law_among : Dn P w K mg tt base CX0 "_law_among" 2 2 [0] m__law_among) (c__law_pour : Dn P w K mg tt base CX0 "_law_pour" 1 2 [0] m__law_pour) {f : Addr} {fd : FuncData} (Fd : FnP K "_law_size" s__law_size f fd) : FnOk P w K mg base CX0 3 f fd ["cask"] (spM ⟨K, mg, tt⟩ 1 [0] m__law_size) :=
  have nd := (sc__law_size).nd
  fnN (oz := [0]) Fd sc__law_size fun G cdv A outer s H E hr => (pms_one (ow1 := [0]) (pmt_ret (pm_bin bin_add pm_int (pm_def c__law_pour (hr.mono (by decide)) rfl pass0 (fun _ _ _ _ z => z) (pmr_o 0 (pmr_v (pm_def c__law_among (hr.mono (by decide)) rfl pass0 (fun _ _ _ _ z => z) (pmr_o 0 (pmr_v (pm_lst (pma_cons pm_int (pma_cons pm_int (pma_cons pm_int (pma_cons pm_int (pma_cons pm_int (pma_cons (pm_bin bin_powB pm_int pm_int) (pma_cons (pm_bin bin_powB pm_int pm_int) pma_nil)))))))) pmr_nil))) pmr_nil))))))
theorem dn__law_size (T : Tx mg) (c__law_among : Dn P w K mg tt base CX0 "_law_among" 2 2 [0] m__law_among) (c__law_pour : Dn P w K mg tt base CX0 "_law_pour" 1 2 [0] m__law_pour) {f : Addr} {fd : FuncData} (Fd : FnP K "_law_size" s__law_size f fd) (hm : mg "_law_size" = some (.ref f)) : Dn P w K mg tt base CX0 "_law_size" 3 1 [0] m__law_size :=
  ⟨f, fd, ["cask"], ok__law_size T c__law_among c__law_pour Fd, hm, Fd.kp, Fd.bindsN fun _ _ _ _ _ _ us hl => match us, hl with | [_], _ => rfl⟩
theorem sc__law_spot : FnScope ["cask"] ["cask"] (defScope s__law_spot) := ⟨rfl, rfl, rfl, by decide +kernel, rfl, by decide +kernel, by decide +kernel⟩
def ms__law_spot : Ms := (mRet (mDef 2 [0] m__law_among (mrO 0 (mrV (mLst (mCons (mC (.int 0)) (mCons (mC (.int 0)) (mCons (mC (.int 1)) (mCons (mNeg (mC (.int 1))) (mCons (mC (.int 2)) (mCons (mNeg (mC (.int 3))) (mCons (mBin (pI fun i j => i - j) (mDef 2 [0] m__law_pour (mrO 0 (mrV (mC (.int 9)) mrNil))) (mC (.int 4))) (mCons (mBin (pI fun i j => i - j) (mDef 2 [0] m__law_pour (mrO 0 (mrV (mBin pPow (mC (.int 10)) (mC (.int 17))) mrNil))) (mBin pPow (mC (.int 10)) (mC (.int 16)))) mNil))))))))) mrNil))))
def m__law_spot : List PV → Out PV := runN 1 ms__law_spot
instance : NoEx m__law_spot := runN_noex _ _
theorem ok__law_spot (T : Tx mg) (c__law_among : Dn P w K mg tt base CX0 "_law_among" 2 2 [0] m__law_among) (c__law_pour : Dn P w K mg tt base CX0 "_law_pour" 1 2 [0] m__law_pour) {f : Addr} {fd : FuncData} (Fd : FnP K "_law_spot" s__law_spot f fd) : FnOk P w K mg base CX0 3 f fd ["cask"] (spM ⟨K, mg, tt⟩ 1 [0] m__law_spot) :=
  have nd := (sc__law_spot).nd
  fnN (oz := [0]) Fd sc__law_spot fun G cdv A outer s H E hr => (pms_one (ow1 := [0]) (pmt_ret (pm_def c__law_among (hr.mono (by decide)) rfl pass0 (fun _ _ _ _ z => z) (pmr_o 0 (pmr_v (pm_lst (pma_cons pm_int (pma_cons pm_int (pma_cons pm_int (pma_cons (pm_neg pm_int) (pma_cons pm_int (pma_cons (pm_neg pm_int) (pma_cons (pm_bin bin_sub (pm_def c__law_pour (hr.mono (by decide)) rfl pass0 (fun _ _ _ _ z => z) (pmr_o 0 (pmr_v pm_int pmr_nil))) pm_int) (pma_cons (pm_bin bin_sub (pm_def c__law_pour (hr.mono (by decide)) rfl pass0 (fun _ _ _ _ z => z) (pmr_o 0 (pmr_v (pm_bin bin_powB pm_int pm_int) pmr_nil))) (pm_bin bin_powB pm_int pm_int)) pma_nil))))))))) pmr_nil)))))
theorem dn__law_spot (T : Tx mg) (c__law_among : Dn P w K mg tt base CX0 "_law_among" 2 2 [0] m__law_among) (c__law_pour : Dn P w K mg tt base CX0 "_law_pour" 1 2 [0] m__law_pour) {f : Addr} {fd : FuncData} (Fd : FnP K "_law_spot" s__law_spot f fd) (hm : mg "_law_spot" = some (.ref f)) : Dn P w K mg tt base CX0 "_law_spot" 3 1 [0] m__law_spot :=
  ⟨f, fd, ["cask"], ok__law_spot T c__law_among c__law_pour Fd, hm, Fd.kp, Fd.bindsN fun _ _ _ _ _ _ us hl => match us, hl with | [_], _ => rfl⟩
theorem sc__law_rise : FnScope ["cask", "most", "way", "first", "here", "corners", "is_flat", "turn"] ["cask", "most"] (defScope s__law_rise) := ⟨rfl, rfl, rfl, by decide +kernel, rfl, by decide +kernel, by decide +kernel⟩
def lB1__law_rise : Ms := (mSeq (mExpr (mApp 5 (mTup (mCons (mIxO 4 (mC (.int 0))) (mCons (mIxO 4 (mC (.int 1))) mNil))))) (mSeq (mSet 6 (mNotV (mVar 6))) (mSetIx 4 (mCall gInt (mCons (mNotV (mVar 6)) mNil)) (mBin pAdd (mIxO 4 (mCall gInt (mCons (mNotV (mVar 6)) mNil))) (mDef 1 [0] m__law_size (mrO 0 mrNil))))))
def ms__law_rise : Ms := (mSeq (mSet 2 (mDef 2 [0] m__law_pour (mrO 0 (mrV (mC (.int 8)) mrNil)))) (mSeq (mIfS (mTB (mBin (pB fun i j => decide (i < j)) (mVar 2) (mC (.int 2)))) (mRet (mTup (mCons (mBin pIx (mLst (mCons (mC (.str "level")) (mCons (mC (.str "plumb")) mNil))) (mVar 2)) (mCons (mDef 1 [0] m__law_spot (mrO 0 mrNil)) mNil)))) mNext) (mSeq (mSet 3 (mDef 2 [0] m__law_among (mrO 0 (mrV (mLst (mCons (mC (.str "flat")) (mCons (mC (.str "steep")) mNil))) mrNil)))) (mSeq (mPar [4, 5, 6] (mCons (mLst (mCons (mDef 1 [0] m__law_spot (mrO 0 mrNil)) (mCons (mDef 1 [0] m__law_spot (mrO 0 mrNil)) mNil))) (mCons (mLst mNil) (mCons (mBin pEq (mVar 3) (mC (.str "flat"))) mNil)))) (mSeq (mFor (mItA iRange1 (mCons (mBin pAdd (mC (.int 1)) (mDef 2 [0] m__law_pour (mrO 0 (mrV (mVar 1) mrNil)))) mNil)) (tN 7) lB1__law_rise) (mRet (mTup (mCons (mVar 3) (mCons (mCall gTuple (mCons (mVar 5) mNil)) mNil)))))))))
def m__law_rise : List PV → Out PV := runN 8 ms__law_rise
instance : NoEx m__law_rise := runN_noex _ _
theorem ok__law_rise (T : Tx mg) (c__law_among : Dn P w K mg tt base CX0 "_law_among" 2 2 [0] m__law_among) (c__law_pour : Dn P w K mg tt base CX0 "_law_pour" 1 2 [0] m__law_pour) (c__law_size : Dn P w K mg tt base CX0 "_law_size" 3 1 [0] m__law_size) (c__law_spot : Dn P w K mg tt base CX0 "_law_spot" 3 1 [0] m__law_spot) {f : Addr} {fd : FuncData} (Fd : FnP K "_law_rise" s__law_rise f fd) : FnOk P w K mg base CX0 4 f fd ["cask", "most"] (spM ⟨K, mg, tt⟩ 2 [0] m__law_rise) :=
  have nd := (sc__law_rise).nd
  fnN (oz := [0]) Fd sc__law_rise fun G cdv A outer s H E hr => (pms_cons (ow1 := [0]) (ow2 := [0]) (pmt_set 2 nd (pm_def c__law_pour (hr.mono (by decide)) rfl pass0 (fun _ _ _ _ z => z) (pmr_o 0 (pmr_v pm_int pmr_nil)))) (pms_cons (ow1 := [0]) (ow2 := [0]) (pmt_if (pm_tcmp bin_lt (pm_var 2) pm_int (nomark _)) (pms_one (ow1 := [0]) (pmt_ret (pm_tup (pma_cons (pm_ix (pm_lst (pma_cons pm_str (pma_cons pm_str pma_nil))) (pm_var 2)) (pma_cons (pm_def c__law_spot (hr.mono (by decide)) rfl pass0 (fun _ _ _ _ z => z) (pmr_o 0 pmr_nil)) pma_nil))))) (pms_nil)) (pms_cons (ow1 := [0]) (ow2 := [0]) (pmt_set 3 nd (pm_def c__law_among (hr.mono (by decide)) rfl pass0 (fun _ _ _ _ z => z) (pmr_o 0 (pmr_v (pm_lst (pma_cons pm_str (pma_cons pm_str pma_nil))) pmr_nil)))) (pms_cons (ow1 := [5, 4, 0]) (ow2 := [0, 4, 5]) (pmt_par3 [true, true, false] 4 5 6 (ow' := [5, 4, 0]) nd (pmg_o (pmf_lst (pma_cons (pm_def c__law_spot (hr.mono (by decide)) rfl pass0 (fun _ _ _ _ z => z) (pmr_o 0 pmr_nil)) (pma_cons (pm_def c__law_spot (hr.mono (by decide)) rfl pass0 (fun _ _ _ _ z => z) (pmr_o 0 pmr_nil)) pma_nil))) (fun _ => (pmg_o (pmf_lst pma_nil) (fun _ => (pmg_v (pm_cmp (bin_eq (room64 hr)) (pm_var 3) pm_str (nomark _)) pmg_nil)))))) (pms_cons (ow1 := [0, 4, 5]) (ow2 := [0]) (pmt_for PassesOwn.never (pmi_range1 rfl T.g_range (pma_cons (pm_bin bin_add pm_int (pm_def c__law_pour (hr.mono (by decide)) rfl pass0 (fun _ _ _ _ z => z) (pmr_o 0 (pmr_v (pm_var 1) pmr_nil)))) pma_nil)) (pg_name (i := 7) nd rfl (by first | exact .inl rfl | exact .inr rfl)) (tg_name 7) (pms_cons (ow1 := [0, 4, 5]) (ow2 := [0, 4, 5]) (pmt_expr (pm_app 5 (pm_tup (pma_cons (pm_ixO 4 pm_int) (pma_cons (pm_ixO 4 pm_int) pma_nil))))) (pms_cons (ow1 := [0, 4, 5]) (ow2 := [0, 4, 5]) (pmt_set 6 nd (pm_notV (pm_var 6))) (pms_one (ow1 := [0, 4, 5]) (pmt_setIx 4 (pm_bin bin_add (pm_ixO 4 (pm_callTy co_int rfl T.g_int (by decide +kernel) (pma_cons (pm_notV (pm_var 6)) pma_nil))) (pm_def c__law_size (hr.mono (by decide)) rfl pass0 (fun _ _ _ _ z => z) (pmr_o 0 pmr_nil))) (pm_callTy co_int rfl T.g_int (by decide +kernel) (pma_cons (pm_notV (pm_var 6)) pma_nil))))))) (pms_one (ow1 := [0]) (pmt_ret (pm_tup (pma_cons (pm_var 3) (pma_cons (pm_callTy co_tuple rfl T.g_tuple (by decide +kernel) (pma_cons (pm_var 5) pma_nil)) pma_nil))))))))))
theorem dn__law_rise (T : Tx mg) (c__law_among : Dn P w K mg tt base CX0 "_law_among" 2 2 [0] m__law_among) (c__law_pour : Dn P w K mg tt base CX0 "_law_pour" 1 2 [0] m__law_pour) (c__law_size : Dn P w K mg tt base CX0 "_law_size" 3 1 [0] m__law_size) (c__law_spot : Dn P w K mg tt base CX0 "_law_spot" 3 1 [0] m__law_spot) {f : Addr} {fd : FuncData} (Fd : FnP K "_law_rise" s__law_rise f fd) (hm : mg "_law_rise" = some (.ref f)) : Dn P w K mg tt base CX0 "_law_rise" 4 2 [0] m__law_rise :=
  ⟨f, fd, ["cask", "most"], ok__law_rise T c__law_among c__law_pour c__law_size c__law_spot Fd, hm, Fd.kp, Fd.bindsN fun _ _ _ _ _ _ us hl => match us, hl with | [_, _], _ => rfl⟩
theorem sc__law_pieces : FnScope ["rise", "parts", "is_flat", "rims", "low", "high", "corner"] ["rise"] (defScope s__law_pieces) := ⟨rfl, rfl, rfl, by decide +kernel, rfl, by decide +kernel, by decide +kernel⟩
def lB1__law_pieces : Ms := (mSeq (mSet 6 (mIf (mTB (mBin pIsN (mVar 5) (mC .non))) (mVar 4) (mVar 5))) (mSeq (mIfS (mTr (mVar 2)) (mExpr (mApp 1 (mTup (mCons (mC (.str "flat")) (mCons (mBin pIx (mVar 6) (mC (.int 1))) (mCons (mIf (mTB (mBin pIsN (mVar 4) (mC .non))) (mC .non) (mBin pIx (mVar 4) (mC (.int 0)))) (mCons (mIf (mTB (mBin pIsN (mVar 5) (mC .non))) (mC .non) (mBin pIx (mVar 5) (mC (.int 0)))) mNil))))))) (mExpr (mApp 1 (mTup (mCons (mC (.str "steep")) (mCons (mBin pIx (mVar 6) (mC (.int 0))) (mCons (mIf (mTB (mBin pIsN (mVar 4) (mC .non))) (mC .non) (mBin pIx (mVar 4) (mC (.int 1)))) (mCons (mIf (mTB (mBin pIsN (mVar 5) (mC .non))) (mC .non) (mBin pIx (mVar 5) (mC (.int 1)))) mNil)))))))) (mSet 2 (mNotV (mVar 2)))))
def ms__law_pieces : Ms := (mSeq (mIfS (mTB (mBin pIn (mBin pIx (mVar 0) (mC (.int 0))) (mTup (mCons (mC (.str "level")) (mCons (mC (.str "plumb")) mNil))))) (mRet (mLst (mCons (mTup (mCons (mIf (mTB (mBin pEq (mBin pIx (mVar 0) (mC (.int 0))) (mC (.str "level")))) (mC (.str "flat")) (mC (.str "steep"))) (mCons (mBin pIx (mVar 0) (mC (.int 1))) (mCons (mC .non) (mCons (mC .non) mNil))))) mNil))) mNext) (mSeq (mPar [1, 2] (mCons (mLst mNil) (mCons (mBin pEq (mBin pIx (mVar 0) (mC (.int 0))) (mC (.str "flat"))) mNil))) (mSeq (mSet 3 (mBin pAdd (mBin pAdd (mLst (mCons (mC .non) mNil)) (mCall gList (mCons (mBin pIx (mVar 0) (mC (.int 1))) mNil))) (mLst (mCons (mC .non) mNil)))) (mSeq (mFor (mItA iZipM (mCons (mVar 3) (mCons (mSl (mVar 3) (mPart (mC (.int 1))) mNo) mNil))) (tT [4, 5]) lB1__law_pieces) (mRet (mVar 1))))))
def m__law_pieces : List PV → Out PV := runN 7 ms__law_pieces
instance : NoEx m__law_pieces := runN_noex _ _
theorem ok__law_pieces (T : Tx mg) {f : Addr} {fd : FuncData} (Fd : FnP K "_law_pieces" s__law_pieces f fd) : FnOk P w K mg base CX0 1 f fd ["rise"] (spM ⟨K, mg, tt⟩ 1 [] m__law_pieces) :=
  have nd := (sc__law_pieces).nd
  fnN (oz := []) Fd sc__law_pieces fun G cdv A outer s H E hr => (pms_cons (ow1 := []) (ow2 := []) (pmt_if (pm_tcmp (bin_in (room65 hr)) (pm_ix (pm_var 0) pm_int) (pm_tup (pma_cons pm_str (pma_cons pm_str pma_nil))) rfl) (pms_one (ow1 := []) (pmt_ret (pm_lst (pma_cons (pm_tup (pma_cons (pm_if (pm_tcmp (bin_eq (room64 hr)) (pm_ix (pm_var 0) pm_int) pm_str (nomark _)) pm_str pm_str) (pma_cons (pm_ix (pm_var 0) pm_int) (pma_cons pm_non (pma_cons pm_non pma_nil))))) pma_nil)))) (pms_nil)) (pms_cons (ow1 := [1]) (ow2 := [1]) (pmt_par2 [true, false] 1 2 (ow' := [1]) nd (pmg_o (pmf_lst pma_nil) (fun _ => (pmg_v (pm_cmp (bin_eq (room64 hr)) (pm_ix (pm_var 0) pm_int) pm_str (nomark _)) pmg_nil)))) (pms_cons (ow1 := [1]) (ow2 := [1]) (pmt_set 3 nd (pm_bin bin_add (pm_bin bin_add (pm_lst (pma_cons pm_non pma_nil)) (pm_callTy co_list rfl T.g_list (by decide +kernel) (pma_cons (pm_ix (pm_var 0) pm_int) pma_nil))) (pm_lst (pma_cons pm_non pma_nil)))) (pms_cons (ow1 := [1]) (ow2 := []) (pmt_for PassesOwn.never (pmi_zip rfl T.g_zip (pma_cons (pm_var 3) (pma_cons (pm_sl (pm_var 3) (pmo_some pm_int) pmo_none) pma_nil))) (pg_tup (n := 2) rfl (pgs_cons (pg_name (i := 4) nd rfl (by first | exact .inl rfl | exact .inr rfl)) (pgs_cons (pg_name (i := 5) nd rfl (by first | exact .inl rfl | exact .inr rfl)) pgs_nil))) (tg_tup [4, 5]) (pms_cons (ow1 := [1]) (ow2 := [1]) (pmt_set 6 nd (pm_if (pm_tcmp bin_isN (pm_var 5) pm_non (nomark _)) (pm_var 4) (pm_var 5))) (pms_cons (ow1 := [1]) (ow2 := [1]) (pmt_if (pm_tr (pm_var 2)) (pms_one (ow1 := [1]) (pmt_expr (pm_app 1 (pm_tup (pma_cons pm_str (pma_cons (pm_ix (pm_var 6) pm_int) (pma_cons (pm_if (pm_tcmp bin_isN (pm_var 4) pm_non (nomark _)) pm_non (pm_ix (pm_var 4) pm_int)) (pma_cons (pm_if (pm_tcmp bin_isN (pm_var 5) pm_non (nomark _)) pm_non (pm_ix (pm_var 5) pm_int)) pma_nil)))))))) (pms_one (ow1 := [1]) (pmt_expr (pm_app 1 (pm_tup (pma_cons pm_str (pma_cons (pm_ix (pm_var 6) pm_int) (pma_cons (pm_if (pm_tcmp bin_isN (pm_var 4) pm_non (nomark _)) pm_non (pm_ix (pm_var 4) pm_int)) (pma_cons (pm_if (pm_tcmp bin_isN (pm_var 5) pm_non (nomark _)) pm_non (pm_ix (pm_var 5) pm_int)) pma_nil))))))))) (pms_one (ow1 := [1]) (pmt_set 2 nd (pm_notV (pm_var 2))))))) (pms_one (ow1 := []) (pmt_ret (pm_var 1)))))))
theorem dn__law_pieces (T : Tx mg) {f : Addr} {fd : FuncData} (Fd : FnP K "_law_pieces" s__law_pieces f fd) (hm : mg "_law_pieces" = some (.ref f)) : Dn P w K mg tt base CX0 "_law_pieces" 1 1 [] m__law_pieces :=
  ⟨f, fd, ["rise"], ok__law_pieces T  Fd, hm, Fd.kp, Fd.bindsN fun _ _ _ _ _ _ us hl => match us, hl with | [_], _ => rfl⟩
theorem sc__law_holds : FnScope ["least", "most", "number"] ["least", "most", "number"] (defScope s__law_holds) := ⟨rfl, rfl, rfl, by decide +kernel, rfl, by decide +kernel, by decide +kernel⟩
def ms__law_holds : Ms := (mRet (mAndV (mOrV (mBin pIsN (mVar 0) (mC .non)) (mBin (pB fun i j => decide (i ≤ j)) (mVar 0) (mVar 2))) (mOrV (mBin pIsN (mVar 1) (mC .non)) (mBin (pB fun i j => decide (i ≤ j)) (mVar 2) (mVar 1)))))
def m__law_holds : List PV → Out PV := runN 3 ms__law_holds
instance : NoEx m__law_holds := runN_noex _ _
theorem ok__law_holds (T : Tx mg) {f : Addr} {fd : FuncData} (Fd : FnP K "_law_holds" s__law_holds f fd) : FnOk P w K mg base CX0 1 f fd ["least", "most", "number"] (spM ⟨K, mg, tt⟩ 3 [] m__law_holds) :=
  have nd := (sc__law_holds).nd
  fnN (oz := []) Fd sc__law_holds fun G cdv A outer s H E hr => (pms_one (ow1 := []) (pmt_ret (pm_andV (pm_orV (pm_cmp bin_isN (pm_var 0) pm_non (nomark _)) (pe_one (pm_cmp bin_le (pm_var 0) (pm_var 2) (nomark _)))) (pe_one (pm_orV (pm_cmp bin_isN (pm_var 1) pm_non (nomark _)) (pe_one (pm_cmp bin_le (pm_var 2) (pm_var 1) (nomark _))))))))
theorem dn__law_holds (T : Tx mg) {f : Addr} {fd : FuncData} (Fd : FnP K "_law_holds" s__law_holds f fd) (hm : mg "_law_holds" = some (.ref f)) : Dn P w K mg tt base CX0 "_law_holds" 1 3 [] m__law_holds :=
  ⟨f, fd, ["least", "most", "number"], ok__law_holds T  Fd, hm, Fd.kp, Fd.bindsN fun _ _ _ _ _ _ us hl => match us, hl with | [_, _, _], _ => rfl⟩
theorem sc__law_is_on : FnScope ["rise", "x", "y", "kind", "here", "least", "most"] ["rise", "x", "y"] (defScope s__law_is_on) := ⟨rfl, rfl, rfl, by decide +kernel, rfl, by decide +kernel, by decide +kernel⟩
def lB1__law_is_on : Ms := (mSeq (mIfS (mAnd (mTB (mBin pEq (mVar 3) (mC (.str "flat")))) (mAnd (mTB (mBin pEq (mVar 2) (mVar 4))) (mTr (mDef 3 [] m__law_holds (mrV (mVar 5) (mrV (mVar 6) (mrV (mVar 1) mrNil))))))) (mRet (mC (.bl true))) mNext) (mIfS (mAnd (mTB (mBin pEq (mVar 3) (mC (.str "steep")))) (mAnd (mTB (mBin pEq (mVar 1) (mVar 4))) (mTr (mDef 3 [] m__law_holds (mrV (mVar 5) (mrV (mVar 6) (mrV (mVar 2) mrNil))))))) (mRet (mC (.bl true))) mNext))
def ms__law_is_on : Ms := (mSeq (mFor (mIt (mDef 1 [] m__law_pieces (mrV (mVar 0) mrNil))) (tT [3, 4, 5, 6]) lB1__law_is_on) (mRet (mC (.bl false))))
def m__law_is_on : List PV → Out PV := runN 7 ms__law_is_on
instance : NoEx m__law_is_on := runN_noex _ _
theorem ok__law_is_on (T : Tx mg) (c__law_holds : Dn P w K mg tt base CX0 "_law_holds" 1 3 [] m__law_holds) (c__law_pieces : Dn P w K mg tt base CX0 "_law_pieces" 1 1 [] m__law_pieces) {f : Addr} {fd : FuncData} (Fd : FnP K "_law_is_on" s__law_is_on f fd) : FnOk P w K mg base CX0 2 f fd ["rise", "x", "y"] (spM ⟨K, mg, tt⟩ 3 [] m__law_is_on) :=
  have nd := (sc__law_is_on).nd
  fnN (oz := []) Fd sc__law_is_on fun G cdv A outer s H E hr => (pms_cons (ow1 := []) (ow2 := []) (pmt_for PassesOwn.never (pmi_seq (pm_def c__law_pieces (hr.mono (by decide)) rfl pass0 (fun _ _ _ _ z => z) (pmr_v (pm_var 0) pmr_nil))) (pg_tup (n := 4) rfl (pgs_cons (pg_name (i := 3) nd rfl (by first | exact .inl rfl | exact .inr rfl)) (pgs_cons (pg_name (i := 4) nd rfl (by first | exact .inl rfl | exact .inr rfl)) (pgs_cons (pg_name (i := 5) nd rfl (by first | exact .inl rfl | exact .inr rfl)) (pgs_cons (pg_name (i := 6) nd rfl (by first | exact .inl rfl | exact .inr rfl)) pgs_nil))))) (tg_tup [3, 4, 5, 6]) (pms_cons (ow1 := []) (ow2 := []) (pmt_if (PW.pt (pw_andM (pm_tcmp (bin_eq (room64 hr)) (pm_var 3) pm_str (nomark _)) (pw_andM (pm_tcmp (bin_eq (room64 hr)) (pm_var 2) (pm_var 4) (nomark _)) (pw_and1 (pm_tr (pm_def c__law_holds (hr.mono (by decide)) rfl pass0 (fun _ _ _ _ z => z) (pmr_v (pm_var 5) (pmr_v (pm_var 6) (pmr_v (pm_var 1) pmr_nil))))))))) (pms_one (ow1 := []) (pmt_ret pm_bl)) (pms_nil)) (pms_one (ow1 := []) (pmt_if (PW.pt (pw_andM (pm_tcmp (bin_eq (room64 hr)) (pm_var 3) pm_str (nomark _)) (pw_andM (pm_tcmp (bin_eq (room64 hr)) (pm_var 1) (pm_var 4) (nomark _)) (pw_and1 (pm_tr (pm_def c__law_holds (hr.mono (by decide)) rfl pass0 (fun _ _ _ _ z => z) (pmr_v (pm_var 5) (pmr_v (pm_var 6) (pmr_v (pm_var 2) pmr_nil))))))))) (pms_one (ow1 := []) (pmt_ret pm_bl)) (pms_nil))))) (pms_one (ow1 := []) (pmt_ret pm_bl)))
theorem dn__law_is_on (T : Tx mg) (c__law_holds : Dn P w K mg tt base CX0 "_law_holds" 1 3 [] m__law_holds) (c__law_pieces : Dn P w K mg tt base CX0 "_law_pieces" 1 1 [] m__law_pieces) {f : Addr} {fd : FuncData} (Fd : FnP K "_law_is_on" s__law_is_on f fd) (hm : mg "_law_is_on" = some (.ref f)) : Dn P w K mg tt base CX0 "_law_is_on" 2 3 [] m__law_is_on :=
  ⟨f, fd, ["rise", "x", "y"], ok__law_is_on T c__law_holds c__law_pieces Fd, hm, Fd.kp, Fd.bindsN fun _ _ _ _ _ _ us hl => match us, hl with | [_, _, _], _ => rfl⟩
theorem sc__law_least : FnScope ["ends"] ["ends"] (defScope s__law_least) := ⟨rfl, rfl, rfl, by decide +kernel, rfl, by decide +kernel, by decide +kernel⟩
def ms__law_least : Ms := (mRet (mIf (mTB (mBin pIn (mC .non) (mVar 0))) (mC .non) (mCall gMin (mCons (mVar 0) mNil))))
def m__law_least : List PV → Out PV := runN 1 ms__law_least
instance : NoEx m__law_least := runN_noex _ _
theorem ok__law_least (T : Tx mg) {f : Addr} {fd : FuncData} (Fd : FnP K "_law_least" s__law_least f fd) : FnOk P w K mg base CX0 1 f fd ["ends"] (spM ⟨K, mg, tt⟩ 1 [] m__law_least) :=
  have nd := (sc__law_least).nd
  fnN (oz := []) Fd sc__law_least fun G cdv A outer s H E hr => (pms_one (ow1 := []) (pmt_ret (pm_if (pm_tcmp (bin_in (room65 hr)) pm_non (pm_var 0) rfl) pm_non (pm_callB co_min rfl T.g_min (by decide +kernel) (pma_cons (pm_var 0) pma_nil)))))
theorem dn__law_least (T : Tx mg) {f : Addr} {fd : FuncData} (Fd : FnP K "_law_least" s__law_least f fd) (hm : mg "_law_least" = some (.ref f)) : Dn P w K mg tt base CX0 "_law_least" 1 1 [] m__law_least :=
  ⟨f, fd, ["ends"], ok__law_least T  Fd, hm, Fd.kp, Fd.bindsN fun _ _ _ _ _ _ us hl => match us, hl with | [_], _ => rfl⟩
theorem sc__law_most : FnScope ["ends"] ["ends"] (defScope s__law_most) := ⟨rfl, rfl, rfl, by decide +kernel, rfl, by decide +kernel, by decide +kernel⟩
def ms__law_most : Ms := (mRet (mIf (mTB (mBin pIn (mC .non) (mVar 0))) (mC .non) (mCall gMax (mCons (mVar 0) mNil))))
def m__law_most : List PV → Out PV := runN 1 ms__law_most
instance : NoEx m__law_most := runN_noex _ _
theorem ok__law_most (T : Tx mg) {f : Addr} {fd : FuncData} (Fd : FnP K "_law_most" s__law_most f fd) : FnOk P w K mg base CX0 1 f fd ["ends"] (spM ⟨K, mg, tt⟩ 1 [] m__law_most) :=
  have nd := (sc__law_most).nd
  fnN (oz := []) Fd sc__law_most fun G cdv A outer s H E hr => (pms_one (ow1 := []) (pmt_ret (pm_if (pm_tcmp (bin_in (room65 hr)) pm_non (pm_var 0) rfl) pm_non (pm_callB co_max rfl T.g_max (by decide +kernel) (pma_cons (pm_var 0) pma_nil)))))
theorem dn__law_most (T : Tx mg) {f : Addr} {fd : FuncData} (Fd : FnP K "_law_most" s__law_most f fd) (hm : mg "_law_most" = some (.ref f)) : Dn P w K mg tt base CX0 "_law_most" 1 1 [] m__law_most :=
  ⟨f, fd, ["ends"], ok__law_most T  Fd, hm, Fd.kp, Fd.bindsN fun _ _ _ _ _ _ us hl => match us, hl with | [_], _ => rfl⟩
theorem sc__law_ends : FnScope ["rise", "kind", "number", "lows", "highs", "word", "here", "least", "most"] ["rise", "kind", "number"] (defScope s__law_ends) := ⟨rfl, rfl, rfl, by decide +kernel, rfl, by decide +kernel, by decide +kernel⟩
def lB1__law_ends : Ms := (mSeq (mIfS (mAnd (mTB (mBin pEq (mVar 5) (mVar 1))) (mTr (mDef 3 [] m__law_holds (mrV (mVar 7) (mrV (mVar 8) (mrV (mVar 2) mrNil)))))) (mSeq (mExpr (mApp 3 (mVar 6))) (mExpr (mApp 4 (mVar 6)))) mNext) (mIfS (mAnd (mTB (mBin pNe (mVar 5) (mVar 1))) (mTB (mBin pEq (mVar 6) (mVar 2)))) (mSeq (mExpr (mApp 3 (mVar 7))) (mExpr (mApp 4 (mVar 8)))) mNext))
def ms__law_ends : Ms := (mSeq (mPar [3, 4] (mCons (mLst mNil) (mCons (mLst mNil) mNil))) (mSeq (mFor (mIt (mDef 1 [] m__law_pieces (mrV (mVar 0) mrNil))) (tT [5, 6, 7, 8]) lB1__law_ends) (mRet (mIf (mTB (mBin pNe (mVar 3) (mLst mNil))) (mTup (mCons (mDef 1 [] m__law_least (mrV (mVar 3) mrNil)) (mCons (mDef 1 [] m__law_most (mrV (mVar 4) mrNil)) mNil))) (mC .non)))))
def m__law_ends : List PV → Out PV := runN 9 ms__law_ends
instance : NoEx m__law_ends := runN_noex _ _
theorem ok__law_ends (T : Tx mg) (c__law_holds : Dn P w K mg tt base CX0 "_law_holds" 1 3 [] m__law_holds) (c__law_least : Dn P w K mg tt base CX0 "_law_least" 1 1 [] m__law_least) (c__law_most : Dn P w K mg tt base CX0 "_law_most" 1 1 [] m__law_most) (c__law_pieces : Dn P w K mg tt base CX0 "_law_pieces" 1 1 [] m__law_pieces) {f : Addr} {fd : FuncData} (Fd : FnP K "_law_ends" s__law_ends f fd) : FnOk P w K mg base CX0 2 f fd ["rise", "kind", "number"] (spM ⟨K, mg, tt⟩ 3 [] m__law_ends) :=
  have nd := (sc__law_ends).nd
  fnN (oz := []) Fd sc__law_ends fun G cdv A outer s H E hr => (pms_cons (ow1 := [4, 3]) (ow2 := [3, 4]) (pmt_par2 [true, true] 3 4 (ow' := [4, 3]) nd (pmg_o (pmf_lst pma_nil) (fun _ => (pmg_o (pmf_lst pma_nil) (fun _ => pmg_nil))))) (pms_cons (ow1 := [3, 4]) (ow2 := []) (pmt_for PassesOwn.never (pmi_seq (pm_def c__law_pieces (hr.mono (by decide)) rfl pass0 (fun _ _ _ _ z => z) (pmr_v (pm_var 0) pmr_nil))) (pg_tup (n := 4) rfl (pgs_cons (pg_name (i := 5) nd rfl (by first | exact .inl rfl | exact .inr rfl)) (pgs_cons (pg_name (i := 6) nd rfl (by first | exact .inl rfl | exact .inr rfl)) (pgs_cons (pg_name (i := 7) nd rfl (by first | exact .inl rfl | exact .inr rfl)) (pgs_cons (pg_name (i := 8) nd rfl (by first | exact .inl rfl | exact .inr rfl)) pgs_nil))))) (tg_tup [5, 6, 7, 8]) (pms_cons (ow1 := [3, 4]) (ow2 := [3, 4]) (pmt_if (PW.pt (pw_andM (pm_tcmp (bin_eq (room64 hr)) (pm_var 5) (pm_var 1) (nomark _)) (pw_and1 (pm_tr (pm_def c__law_holds (hr.mono (by decide)) rfl pass0 (fun _ _ _ _ z => z) (pmr_v (pm_var 7) (pmr_v (pm_var 8) (pmr_v (pm_var 2) pmr_nil)))))))) (pms_cons (ow1 := [3, 4]) (ow2 := [3, 4]) (pmt_expr (pm_app 3 (pm_var 6))) (pms_one (ow1 := [3, 4]) (pmt_expr (pm_app 4 (pm_var 6))))) (pms_nil)) (pms_one (ow1 := [3, 4]) (pmt_if (PW.pt (pw_andM (pm_tcmp (bin_ne (room64 hr)) (pm_var 5) (pm_var 1) (nomark _)) (pw_and1 (pm_tcmp (bin_eq (room64 hr)) (pm_var 6) (pm_var 2) (nomark _))))) (pms_cons (ow1 := [3, 4]) (ow2 := [3, 4]) (pmt_expr (pm_app 3 (pm_var 7))) (pms_one (ow1 := [3, 4]) (pmt_expr (pm_app 4 (pm_var 8))))) (pms_nil))))) (pms_one (ow1 := []) (pmt_ret (pm_if (pm_tcmp (bin_ne (room64 hr)) (pm_var 3) (pm_lst pma_nil) (nomark _)) (pm_tup (pma_cons (pm_def c__law_least (hr.mono (by decide)) rfl pass0 (fun _ _ _ _ z => z) (pmr_v (pm_var 3) pmr_nil)) (pma_cons (pm_def c__law_most (hr.mono (by decide)) rfl pass0 (fun _ _ _ _ z => z) (pmr_v (pm_var 4) pmr_nil)) pma_nil))) pm_non)))))
theorem dn__law_ends (T : Tx mg) (c__law_holds : Dn P w K mg tt base CX0 "_law_holds" 1 3 [] m__law_holds) (c__law_least : Dn P w K mg tt base CX0 "_law_least" 1 1 [] m__law_least) (c__law_most : Dn P w K mg tt base CX0 "_law_most" 1 1 [] m__law_most) (c__law_pieces : Dn P w K mg tt base CX0 "_law_pieces" 1 1 [] m__law_pieces) {f : Addr} {fd : FuncData} (Fd : FnP K "_law_ends" s__law_ends f fd) (hm : mg "_law_ends" = some (.ref f)) : Dn P w K mg tt base CX0 "_law_ends" 2 3 [] m__law_ends :=
  ⟨f, fd, ["rise", "kind", "number"], ok__law_ends T c__law_holds c__law_least c__law_most c__law_pieces Fd, hm, Fd.kp, Fd.bindsN fun _ _ _ _ _ _ us hl => match us, hl with | [_, _, _], _ => rfl⟩
theorem sc__law_tensions : FnScope ["rise", "x"] ["rise", "x"] (defScope s__law_tensions) := ⟨rfl, rfl, rfl, by decide +kernel, rfl, by decide +kernel, by decide +kernel⟩
def ms__law_tensions : Ms := (mRet (mDef 3 [] m__law_ends (mrV (mVar 0) (mrV (mC (.str "flat")) (mrV (mVar 1) mrNil)))))
def m__law_tensions : List PV → Out PV := runN 2 ms__law_tensions
instance : NoEx m__law_tensions := runN_noex _ _
theorem ok__law_tensions (T : Tx mg) (c__law_ends : Dn P w K mg tt base CX0 "_law_ends" 2 3 [] m__law_ends) {f : Addr} {fd : FuncData} (Fd : FnP K "_law_tensions" s__law_tensions f fd) : FnOk P w K mg base CX0 3 f fd ["rise", "x"] (spM ⟨K, mg, tt⟩ 2 [] m__law_tensions) :=
  have nd := (sc__law_tensions).nd
  fnN (oz := []) Fd sc__law_tensions fun G cdv A outer s H E hr => (pms_one (ow1 := []) (pmt_ret (pm_def c__law_ends (hr.mono (by decide)) rfl pass0 (fun _ _ _ _ z => z) (pmr_v (pm_var 0) (pmr_v pm_str (pmr_v (pm_var 1) pmr_nil))))))
theorem dn__law_tensions (T : Tx mg) (c__law_ends : Dn P w K mg tt base CX0 "_law_ends" 2 3 [] m__law_ends) {f : Addr} {fd : FuncData} (Fd : FnP K "_law_tensions" s__law_tensions f fd) (hm : mg "_law_tensions" = some (.ref f)) : Dn P w K mg tt base CX0 "_law_tensions" 3 2 [] m__law_tensions :=
  ⟨f, fd, ["rise", "x"], ok__law_tensions T c__law_ends Fd, hm, Fd.kp, Fd.bindsN fun _ _ _ _ _ _ us hl => match us, hl with | [_, _], _ => rfl⟩
theorem sc__law_currents : FnScope ["rise", "y"] ["rise", "y"] (defScope s__law_currents) := ⟨rfl, rfl, rfl, by decide +kernel, rfl, by decide +kernel, by decide +kernel⟩
def ms__law_currents : Ms := (mRet (mDef 3 [] m__law_ends (mrV (mVar 0) (mrV (mC (.str "steep")) (mrV (mVar 1) mrNil)))))
def m__law_currents : List PV → Out PV := runN 2 ms__law_currents
instance : NoEx m__law_currents := runN_noex _ _
theorem ok__law_currents (T : Tx mg) (c__law_ends : Dn P w K mg tt base CX0 "_law_ends" 2 3 [] m__law_ends) {f : Addr} {fd : FuncData} (Fd : FnP K "_law_currents" s__law_currents f fd) : FnOk P w K mg base CX0 3 f fd ["rise", "y"] (spM ⟨K, mg, tt⟩ 2 [] m__law_currents) :=
  have nd := (sc__law_currents).nd
  fnN (oz := []) Fd sc__law_currents fun G cdv A outer s H E hr => (pms_one (ow1 := []) (pmt_ret (pm_def c__law_ends (hr.mono (by decide)) rfl pass0 (fun _ _ _ _ z => z) (pmr_v (pm_var 0) (pmr_v pm_str (pmr_v (pm_var 1) pmr_nil))))))
theorem dn__law_currents (T : Tx mg) (c__law_ends : Dn P w K mg tt base CX0 "_law_ends" 2 3 [] m__law_ends) {f : Addr} {fd : FuncData} (Fd : FnP K "_law_currents" s__law_currents f fd) (hm : mg "_law_currents" = some (.ref f)) : Dn P w K mg tt base CX0 "_law_currents" 3 2 [] m__law_currents :=
  ⟨f, fd, ["rise", "y"], ok__law_currents T c__law_ends Fd, hm, Fd.kp, Fd.bindsN fun _ _ _ _ _ _ us hl => match us, hl with | [_, _], _ => rfl⟩
theorem sc__law_range : FnScope ["rise", "kind", "lows", "highs", "word", "here", "least", "most"] ["rise", "kind"] (defScope s__law_range) := ⟨rfl, rfl, rfl, by decide +kernel, rfl, by decide +kernel, by decide +kernel⟩
def lB1__law_range : Ms := (mSeq (mExpr (mApp 2 (mIf (mTB (mBin pEq (mVar 4) (mVar 1))) (mVar 5) (mVar 6)))) (mExpr (mApp 3 (mIf (mTB (mBin pEq (mVar 4) (mVar 1))) (mVar 5) (mVar 7)))))
def ms__law_range : Ms := (mSeq (mPar [2, 3] (mCons (mLst mNil) (mCons (mLst mNil) mNil))) (mSeq (mFor (mIt (mDef 1 [] m__law_pieces (mrV (mVar 0) mrNil))) (tT [4, 5, 6, 7]) lB1__law_range) (mRet (mTup (mCons (mDef 1 [] m__law_least (mrV (mVar 2) mrNil)) (mCons (mDef 1 [] m__law_most (mrV (mVar 3) mrNil)) mNil))))))
def m__law_range : List PV → Out PV := runN 8 ms__law_range
instance : NoEx m__law_range := runN_noex _ _
theorem ok__law_range (T : Tx mg) (c__law_least : Dn P w K mg tt base CX0 "_law_least" 1 1 [] m__law_least) (c__law_most : Dn P w K mg tt base CX0 "_law_most" 1 1 [] m__law_most) (c__law_pieces : Dn P w K mg tt base CX0 "_law_pieces" 1 1 [] m__law_pieces) {f : Addr} {fd : FuncData} (Fd : FnP K "_law_range" s__law_range f fd) : FnOk P w K mg base CX0 2 f fd ["rise", "kind"] (spM ⟨K, mg, tt⟩ 2 [] m__law_range) :=
  have nd := (sc__law_range).nd
  fnN (oz := []) Fd sc__law_range fun G cdv A outer s H E hr => (pms_cons (ow1 := [3, 2]) (ow2 := [2, 3]) (pmt_par2 [true, true] 2 3 (ow' := [3, 2]) nd (pmg_o (pmf_lst pma_nil) (fun _ => (pmg_o (pmf_lst pma_nil) (fun _ => pmg_nil))))) (pms_cons (ow1 := [2, 3]) (ow2 := []) (pmt_for PassesOwn.never (pmi_seq (pm_def c__law_pieces (hr.mono (by decide)) rfl pass0 (fun _ _ _ _ z => z) (pmr_v (pm_var 0) pmr_nil))) (pg_tup (n := 4) rfl (pgs_cons (pg_name (i := 4) nd rfl (by first | exact .inl rfl | exact .inr rfl)) (pgs_cons (pg_name (i := 5) nd rfl (by first | exact .inl rfl | exact .inr rfl)) (pgs_cons (pg_name (i := 6) nd rfl (by first | exact .inl rfl | exact .inr rfl)) (pgs_cons (pg_name (i := 7) nd rfl (by first | exact .inl rfl | exact .inr rfl)) pgs_nil))))) (tg_tup [4, 5, 6, 7]) (pms_cons (ow1 := [2, 3]) (ow2 := [2, 3]) (pmt_expr (pm_app 2 (pm_if (pm_tcmp (bin_eq (room64 hr)) (pm_var 4) (pm_var 1) (nomark _)) (pm_var 5) (pm_var 6)))) (pms_one (ow1 := [2, 3]) (pmt_expr (pm_app 3 (pm_if (pm_tcmp (bin_eq (room64 hr)) (pm_var 4) (pm_var 1) (nomark _)) (pm_var 5) (pm_var 7))))))) (pms_one (ow1 := []) (pmt_ret (pm_tup (pma_cons (pm_def c__law_least (hr.mono (by decide)) rfl pass0 (fun _ _ _ _ z => z) (pmr_v (pm_var 2) pmr_nil)) (pma_cons (pm_def c__law_most (hr.mono (by decide)) rfl pass0 (fun _ _ _ _ z => z) (pmr_v (pm_var 3) pmr_nil)) pma_nil)))))))
theorem dn__law_range (T : Tx mg) (c__law_least : Dn P w K mg tt base CX0 "_law_least" 1 1 [] m__law_least) (c__law_most : Dn P w K mg tt base CX0 "_law_most" 1 1 [] m__law_most) (c__law_pieces : Dn P w K mg tt base CX0 "_law_pieces" 1 1 [] m__law_pieces) {f : Addr} {fd : FuncData} (Fd : FnP K "_law_range" s__law_range f fd) (hm : mg "_law_range" = some (.ref f)) : Dn P w K mg tt base CX0 "_law_range" 2 2 [] m__law_range :=
  ⟨f, fd, ["rise", "kind"], ok__law_range T c__law_least c__law_most c__law_pieces Fd, hm, Fd.kp, Fd.bindsN fun _ _ _ _ _ _ us hl => match us, hl with | [_, _], _ => rfl⟩
theorem sc__law_rims : FnScope ["rise"] ["rise"] (defScope s__law_rims) := ⟨rfl, rfl, rfl, by decide +kernel, rfl, by decide +kernel, by decide +kernel⟩
def ms__law_rims : Ms := (mSeq (mIfS (mTB (mBin pEq (mBin pIx (mVar 0) (mC (.int 0))) (mC (.str "level")))) (mRet (mLst (mCons (mTup (mCons (mC (.int 0)) (mCons (mBin pIx (mVar 0) (mC (.int 1))) mNil))) mNil))) mNext) (mRet (mIf (mTB (mBin pEq (mBin pIx (mVar 0) (mC (.int 0))) (mC (.str "plumb")))) (mLst (mCons (mTup (mCons (mBin pIx (mVar 0) (mC (.int 1))) (mCons (mC (.int 0)) mNil))) mNil)) (mCall gList (mCons (mBin pIx (mVar 0) (mC (.int 1))) mNil)))))
def m__law_rims : List PV → Out PV := runN 1 ms__law_rims
instance : NoEx m__law_rims := runN_noex _ _
theorem ok__law_rims (T : Tx mg) {f : Addr} {fd : FuncData} (Fd : FnP K "_law_rims" s__law_rims f fd) : FnOk P w K mg base CX0 1 f fd ["rise"] (spM ⟨K, mg, tt⟩ 1 [] m__law_rims) :=
  have nd := (sc__law_rims).nd
  fnN (oz := []) Fd sc__law_rims fun G cdv A outer s H E hr => (pms_cons (ow1 := []) (ow2 := []) (pmt_if (pm_tcmp (bin_eq (room64 hr)) (pm_ix (pm_var 0) pm_int) pm_str (nomark _)) (pms_one (ow1 := []) (pmt_ret (pm_lst (pma_cons (pm_tup (pma_cons pm_int (pma_cons (pm_ix (pm_var 0) pm_int) pma_nil))) pma_nil)))) (pms_nil)) (pms_one (ow1 := []) (pmt_ret (pm_if (pm_tcmp (bin_eq (room64 hr)) (pm_ix (pm_var 0) pm_int) pm_str (nomark _)) (pm_lst (pma_cons (pm_tup (pma_cons (pm_ix (pm_var 0) pm_int) (pma_cons pm_int pma_nil))) pma_nil)) (pm_callTy co_list rfl T.g_list (by decide +kernel) (pma_cons (pm_ix (pm_var 0) pm_int) pma_nil))))))
theorem dn__law_rims (T : Tx mg) {f : Addr} {fd : FuncData} (Fd : FnP K "_law_rims" s__law_rims f fd) (hm : mg "_law_rims" = some (.ref f)) : Dn P w K mg tt base CX0 "_law_rims" 1 1 [] m__law_rims :=
  ⟨f, fd, ["rise"], ok__law_rims T  Fd, hm, Fd.kp, Fd.bindsN fun _ _ _ _ _ _ us hl => match us, hl with | [_], _ => rfl⟩
theorem sc__law_near : FnScope ["cask", "rises", "some", "rise", "near", "turn", "x", "y", "right", "up"] ["cask", "rises"] (defScope s__law_near) := ⟨rfl, rfl, rfl, by decide +kernel, rfl, by decide +kernel, by decide +kernel⟩
def lB1__law_near : Ms := (mSet 2 (mBin pAdd (mVar 2) (mDef 1 [] m__law_rims (mrV (mVar 3) mrNil))))
def lB2__law_near : Ms := (mSeq (mUnp [6, 7] (mDef 2 [0] m__law_among (mrO 0 (mrV (mVar 2) mrNil)))) (mSeq (mPar [8, 9] (mCons (mDef 2 [0] m__law_among (mrO 0 (mrV (mLst (mCons (mC (.int 0)) (mCons (mC (.int 0)) (mCons (mC (.int 1)) (mCons (mNeg (mC (.int 1))) (mCons (mC (.int 2)) (mCons (mNeg (mC (.int 5))) (mCons (mBin pPow (mC (.int 10)) (mC (.int 18))) mNil)))))))) mrNil))) (mCons (mDef 2 [0] m__law_among (mrO 0 (mrV (mLst (mCons (mC (.int 0)) (mCons (mC (.int 0)) (mCons (mC (.int 1)) (mCons (mNeg (mC (.int 1))) (mCons (mC (.int 3)) (mCons (mNeg (mBin pPow (mC (.int 10)) (mC (.int 18)))) mNil))))))) mrNil))) mNil))) (mSeq (mExpr (mApp 4 (mTup (mCons (mBin pAdd (mVar 6) (mVar 8)) (mCons (mBin pAdd (mVar 7) (mVar 9)) mNil))))) (mExpr (mApp 4 (mTup (mCons (mBin pIx (mDef 2 [0] m__law_among (mrO 0 (mrV (mVar 2) mrNil))) (mC (.int 0))) (mCons (mBin pIx (mDef 2 [0] m__law_among (mrO 0 (mrV (mVar 2) mrNil))) (mC (.int 1))) mNil))))))))
def ms__law_near : Ms := (mSeq (mSet 2 (mLst mNil)) (mSeq (mFor (mIt (mVar 1)) (tN 3) lB1__law_near) (mSeq (mSetO 4 (mLst mNil)) (mSeq (mFor (mItA iRange1 (mCons (mC (.int 8)) mNil)) (tN 5) lB2__law_near) (mRet (mVar 4))))))
def m__law_near : List PV → Out PV := runN 10 ms__law_near
instance : NoEx m__law_near := runN_noex _ _
theorem ok__law_near (T : Tx mg) (c__law_among : Dn P w K mg tt base CX0 "_law_among" 2 2 [0] m__law_among) (c__law_rims : Dn P w K mg tt base CX0 "_law_rims" 1 1 [] m__law_rims) {f : Addr} {fd : FuncData} (Fd : FnP K "_law_near" s__law_near f fd) : FnOk P w K mg base CX0 3 f fd ["cask", "rises"] (spM ⟨K, mg, tt⟩ 2 [0] m__law_near) :=
  have nd := (sc__law_near).nd
  fnN (oz := [0]) Fd sc__law_near fun G cdv A outer s H E hr => (pms_cons (ow1 := [0]) (ow2 := [0]) (pmt_set 2 nd (pm_lst pma_nil)) (pms_cons (ow1 := [0]) (ow2 := [0]) (pmt_for PassesOwn.never (pmi_seq (pm_var 1)) (pg_name (i := 3) nd rfl (by first | exact .inl rfl | exact .inr rfl)) (tg_name 3) (pms_one (ow1 := [0]) (pmt_set 2 nd (pm_bin bin_add (pm_var 2) (pm_def c__law_rims (hr.mono (by decide)) rfl pass0 (fun _ _ _ _ z => z) (pmr_v (pm_var 3) pmr_nil)))))) (pms_cons (ow1 := [0, 4]) (ow2 := [0, 4]) (pmt_setO 4 (ow' := [0, 4]) nd (pmf_lst pma_nil)) (pms_cons (ow1 := [0, 4]) (ow2 := [0]) (pmt_for PassesOwn.never (pmi_range1 rfl T.g_range (pma_cons pm_int pma_nil)) (pg_name (i := 5) nd rfl (by first | exact .inl rfl | exact .inr rfl)) (tg_name 5) (pms_cons (ow1 := [0, 4]) (ow2 := [0, 4]) (pmt_unp [6, 7] (pm_def c__law_among (hr.mono (by decide)) rfl pass0 (fun _ _ _ _ z => z) (pmr_o 0 (pmr_v (pm_var 2) pmr_nil))) (pgs_cons (pg_name (i := 6) nd rfl (by first | exact .inl rfl | exact .inr rfl)) (pgs_cons (pg_name (i := 7) nd rfl (by first | exact .inl rfl | exact .inr rfl)) pgs_nil))) (pms_cons (ow1 := [0, 4]) (ow2 := [0, 4]) (pmt_par2 [false, false] 8 9 (ow' := [0, 4]) nd (pmg_v (pm_def c__law_among (hr.mono (by decide)) rfl pass0 (fun _ _ _ _ z => z) (pmr_o 0 (pmr_v (pm_lst (pma_cons pm_int (pma_cons pm_int (pma_cons pm_int (pma_cons (pm_neg pm_int) (pma_cons pm_int (pma_cons (pm_neg pm_int) (pma_cons (pm_bin bin_powB pm_int pm_int) pma_nil)))))))) pmr_nil))) (pmg_v (pm_def c__law_among (hr.mono (by decide)) rfl pass0 (fun _ _ _ _ z => z) (pmr_o 0 (pmr_v (pm_lst (pma_cons pm_int (pma_cons pm_int (pma_cons pm_int (pma_cons (pm_neg pm_int) (pma_cons pm_int (pma_cons (pm_neg (pm_bin bin_powB pm_int pm_int)) pma_nil))))))) pmr_nil))) pmg_nil))) (pms_cons (ow1 := [0, 4]) (ow2 := [0, 4]) (pmt_expr (pm_app 4 (pm_tup (pma_cons (pm_bin bin_add (pm_var 6) (pm_var 8)) (pma_cons (pm_bin bin_add (pm_var 7) (pm_var 9)) pma_nil))))) (pms_one (ow1 := [0, 4]) (pmt_expr (pm_app 4 (pm_tup (pma_cons (pm_ix (pm_def c__law_among (hr.mono (by decide)) rfl pass0 (fun _ _ _ _ z => z) (pmr_o 0 (pmr_v (pm_var 2) pmr_nil))) pm_int) (pma_cons (pm_ix (pm_def c__law_among (hr.mono (by decide)) rfl pass0 (fun _ _ _ _ z => z) (pmr_o 0 (pmr_v (pm_var 2) pmr_nil))) pm_int) pma_nil)))))))))) (pms_one (ow1 := [0]) (pmt_ret (pm_var 4)))))))
theorem dn__law_near (T : Tx mg) (c__law_among : Dn P w K mg tt base CX0 "_law_among" 2 2 [0] m__law_among) (c__law_rims : Dn P w K mg tt base CX0 "_law_rims" 1 1 [] m__law_rims) {f : Addr} {fd : FuncData} (Fd : FnP K "_law_near" s__law_near f fd) (hm : mg "_law_near" = some (.ref f)) : Dn P w K mg tt base CX0 "_law_near" 3 2 [0] m__law_near :=
  ⟨f, fd, ["cask", "rises"], ok__law_near T c__law_among c__law_rims Fd, hm, Fd.kp, Fd.bindsN fun _ _ _ _ _ _ us hl => match us, hl with | [_, _], _ => rfl⟩
theorem sc__law_place : FnScope ["rise", "x", "y", "ends", "low"] ["rise", "x", "y"] (defScope s__law_place) := ⟨rfl, rfl, rfl, by decide +kernel, rfl, by decide +kernel, by decide +kernel⟩
def ms__law_place : Ms := (mSeq (mIfS (mTr (mDef 3 [] m__law_is_on (mrV (mVar 0) (mrV (mVar 1) (mrV (mVar 2) mrNil))))) (mRet (mC (.str "on"))) mNext) (mSeq (mSet 3 (mDef 2 [] m__law_tensions (mrV (mVar 0) (mrV (mVar 1) mrNil)))) (mSeq (mIfS (mTB (mBin pIsN (mVar 3) (mC .non))) (mSeq (mSet 4 (mBin pIx (mDef 2 [] m__law_range (mrV (mVar 0) (mrV (mC (.str "steep")) mrNil))) (mC (.int 0)))) (mRet (mIf (mAnd (mTB (mBin pNotN (mVar 4) (mC .non))) (mTB (mBin (pB fun i j => decide (i < j)) (mVar 1) (mVar 4)))) (mC (.str "above")) (mC (.str "below"))))) mNext) (mRet (mIf (mAnd (mTB (mBin pNotN (mBin pIx (mVar 3) (mC (.int 1))) (mC .non))) (mTB (mBin (pB fun i j => decide (j < i)) (mVar 2) (mBin pIx (mVar 3) (mC (.int 1)))))) (mC (.str "above")) (mC (.str "below")))))))
def m__law_place : List PV → Out PV := runN 5 ms__law_place
instance : NoEx m__law_place := runN_noex _ _
theorem ok__law_place (T : Tx mg) (c__law_is_on : Dn P w K mg tt base CX0 "_law_is_on" 2 3 [] m__law_is_on) (c__law_range : Dn P w K mg tt base CX0 "_law_range" 2 2 [] m__law_range) (c__law_tensions : Dn P w K mg tt base CX0 "_law_tensions" 3 2 [] m__law_tensions) {f : Addr} {fd : FuncData} (Fd : FnP K "_law_place" s__law_place f fd) : FnOk P w K mg base CX0 4 f fd ["rise", "x", "y"] (spM ⟨K, mg, tt⟩ 3 [] m__law_place) :=
  have nd := (sc__law_place).nd
  fnN (oz := []) Fd sc__law_place fun G cdv A outer s H E hr => (pms_cons (ow1 := []) (ow2 := []) (pmt_if (pm_tr (pm_def c__law_is_on (hr.mono (by decide)) rfl pass0 (fun _ _ _ _ z => z) (pmr_v (pm_var 0) (pmr_v (pm_var 1) (pmr_v (pm_var 2) pmr_nil))))) (pms_one (ow1 := []) (pmt_ret pm_str)) (pms_nil)) (pms_cons (ow1 := []) (ow2 := []) (pmt_set 3 nd (pm_def c__law_tensions (hr.mono (by decide)) rfl pass0 (fun _ _ _ _ z => z) (pmr_v (pm_var 0) (pmr_v (pm_var 1) pmr_nil)))) (pms_cons (ow1 := []) (ow2 := []) (pmt_if (pm_tcmp bin_isN (pm_var 3) pm_non (nomark _)) (pms_cons (ow1 := []) (ow2 := []) (pmt_set 4 nd (pm_ix (pm_def c__law_range (hr.mono (by decide)) rfl pass0 (fun _ _ _ _ z => z) (pmr_v (pm_var 0) (pmr_v pm_str pmr_nil))) pm_int)) (pms_one (ow1 := []) (pmt_ret (pm_if (PW.pt (pw_andM (pm_tcmp bin_notN (pm_var 4) pm_non (nomark _)) (pw_and1 (pm_tcmp bin_lt (pm_var 1) (pm_var 4) (nomark _))))) pm_str pm_str)))) (pms_nil)) (pms_one (ow1 := []) (pmt_ret (pm_if (PW.pt (pw_andM (pm_tcmp bin_notN (pm_ix (pm_var 3) pm_int) pm_non (nomark _)) (pw_and1 (pm_tcmp bin_gt (pm_var 2) (pm_ix (pm_var 3) pm_int) (nomark _))))) pm_str pm_str))))))
theorem dn__law_place (T : Tx mg) (c__law_is_on : Dn P w K mg tt base CX0 "_law_is_on" 2 3 [] m__law_is_on) (c__law_range : Dn P w K mg tt base CX0 "_law_range" 2 2 [] m__law_range) (c__law_tensions : Dn P w K mg tt base CX0 "_law_tensions" 3 2 [] m__law_tensions) {f : Addr} {fd : FuncData} (Fd : FnP K "_law_place" s__law_place f fd) (hm : mg "_law_place" = some (.ref f)) : Dn P w K mg tt base CX0 "_law_place" 4 3 [] m__law_place :=
  ⟨f, fd, ["rise", "x", "y"], ok__law_place T c__law_is_on c__law_range c__law_tensions Fd, hm, Fd.kp, Fd.bindsN fun _ _ _ _ _ _ us hl => match us, hl with | [_, _, _], _ => rfl⟩
theorem sc__law_point_right : FnScope ["rise", "x", "y", "ends", "sides"] ["rise", "x", "y"] (defScope s__law_point_right) := ⟨rfl, rfl, rfl, by decide +kernel, rfl, by decide +kernel, by decide +kernel⟩
def ms__law_point_right : Ms := (mSeq (mIfS (mOr (mTB (mBin pNe (mDef 3 [] m_is_on (mrV (mVar 0) (mrV (mVar 1) (mrV (mVar 2) mrNil)))) (mDef 3 [] m__law_is_on (mrV (mVar 0) (mrV (mVar 1) (mrV (mVar 2) mrNil)))))) (mTB (mBin pNe (mDef 3 [] m_place_of (mrV (mVar 0) (mrV (mVar 1) (mrV (mVar 2) mrNil)))) (mDef 3 [] m__law_place (mrV (mVar 0) (mrV (mVar 1) (mrV (mVar 2) mrNil))))))) (mRet (mC (.bl false))) mNext) (mSeq (mIfS (mOr (mTB (mBin pNe (mDef 2 [] m_tensions_at (mrV (mVar 0) (mrV (mVar 1) mrNil))) (mDef 2 [] m__law_tensions (mrV (mVar 0) (mrV (mVar 1) mrNil))))) (mTB (mBin pNe (mDef 2 [] m_currents_at (mrV (mVar 0) (mrV (mVar 2) mrNil))) (mDef 2 [] m__law_currents (mrV (mVar 0) (mrV (mVar 2) mrNil)))))) (mRet (mC (.bl false))) mNext) (mSeq (mPar [3, 4] (mCons (mDef 2 [] m_tensions_at (mrV (mVar 0) (mrV (mVar 1) mrNil))) (mCons (mDef 2 [] m_currents_at (mrV (mVar 0) (mrV (mVar 2) mrNil))) mNil))) (mSeq (mIfS (mTB (mBin pNe (mDef 3 [] m_is_on (mrV (mVar 0) (mrV (mVar 1) (mrV (mVar 2) mrNil)))) (mAndV (mBin pNotN (mVar 3) (mC .non)) (mDef 3 [] m__law_holds (mrV (mBin pIx (mVar 3) (mC (.int 0))) (mrV (mBin pIx (mVar 3) (mC (.int 1))) (mrV (mVar 2) mrNil))))))) (mRet (mC (.bl false))) mNext) (mSeq (mIfS (mTB (mBin pNe (mDef 3 [] m_is_on (mrV (mVar 0) (mrV (mVar 1) (mrV (mVar 2) mrNil)))) (mAndV (mBin pNotN (mVar 4) (mC .non)) (mDef 3 [] m__law_holds (mrV (mBin pIx (mVar 4) (mC (.int 0))) (mrV (mBin pIx (mVar 4) (mC (.int 1))) (mrV (mVar 1) mrNil))))))) (mRet (mC (.bl false))) mNext) (mSeq (mIfS (mTB (mBin pEq (mBin pIsN (mVar 3) (mC .non)) (mDef 3 [] m__law_holds (mrV (mBin pIx (mDef 1 [] m_currents_of (mrV (mVar 0) mrNil)) (mC (.int 0))) (mrV (mBin pIx (mDef 1 [] m_currents_of (mrV (mVar 0) mrNil)) (mC (.int 1))) (mrV (mVar 1) mrNil)))))) (mRet (mC (.bl false))) mNext) (mRet (mBin pNe (mBin pIsN (mVar 4) (mC .non)) (mDef 3 [] m__law_holds (mrV (mBin pIx (mDef 1 [] m_tensions_of (mrV (mVar 0) mrNil)) (mC (.int 0))) (mrV (mBin pIx (mDef 1 [] m_tensions_of (mrV (mVar 0) mrNil)) (mC (.int 1))) (mrV (mVar 2) mrNil))))))))))))
def m__law_point_right : List PV → Out PV := runN 5 ms__law_point_right
instance : NoEx m__law_point_right := runN_noex _ _
theorem ok__law_point_right (T : Tx mg) (c__law_currents : Dn P w K mg tt base CX0 "_law_currents" 3 2 [] m__law_currents) (c__law_holds : Dn P w K mg tt base CX0 "_law_holds" 1 3 [] m__law_holds) (c__law_is_on : Dn P w K mg tt base CX0 "_law_is_on" 2 3 [] m__law_is_on) (c__law_place : Dn P w K mg tt base CX0 "_law_place" 4 3 [] m__law_place) (c__law_tensions : Dn P w K mg tt base CX0 "_law_tensions" 3 2 [] m__law_tensions) (c_currents_at : Dn P w K mg tt base CX0 "currents_at" 7 2 [] m_currents_at) (c_currents_of : Dn P w K mg tt base CX0 "currents_of" 7 1 [] m_currents_of) (c_is_on : Dn P w K mg tt base CX0 "is_on" 8 3 [] m_is_on) (c_place_of : Dn P w K mg tt base CX0 "place_of" 7 3 [] m_place_of) (c_tensions_at : Dn P w K mg tt base CX0 "tensions_at" 7 2 [] m_tensions_at) (c_tensions_of : Dn P w K mg tt base CX0 "tensions_of" 7 1 [] m_tensions_of) {f : Addr} {fd : FuncData} (Fd : FnP K "_law_point_right" s__law_point_right f fd) : FnOk P w K mg base CX0 9 f fd ["rise", "x", "y"] (spM ⟨K, mg, tt⟩ 3 [] m__law_point_right) :=
  have nd := (sc__law_point_right).nd
  fnN (oz := []) Fd sc__law_point_right fun G cdv A outer s H E hr => (pms_cons (ow1 := []) (ow2 := []) (pmt_if (PW.pt (pw_orM (pm_tcmp (bin_ne (room64 hr)) (pm_def c_is_on (hr.mono (by decide)) rfl pass0 (fun _ _ _ _ z => z) (pmr_v (pm_var 0) (pmr_v (pm_var 1) (pmr_v (pm_var 2) pmr_nil)))) (pm_def c__law_is_on (hr.mono (by decide)) rfl pass0 (fun _ _ _ _ z => z) (pmr_v (pm_var 0) (pmr_v (pm_var 1) (pmr_v (pm_var 2) pmr_nil)))) (nomark _)) (pw_or1 (pm_tcmp (bin_ne (room64 hr)) (pm_def c_place_of (hr.mono (by decide)) rfl pass0 (fun _ _ _ _ z => z) (pmr_v (pm_var 0) (pmr_v (pm_var 1) (pmr_v (pm_var 2) pmr_nil)))) (pm_def c__law_place (hr.mono (by decide)) rfl pass0 (fun _ _ _ _ z => z) (pmr_v (pm_var 0) (pmr_v (pm_var 1) (pmr_v (pm_var 2) pmr_nil)))) (nomark _))))) (pms_one (ow1 := []) (pmt_ret pm_bl)) (pms_nil)) (pms_cons (ow1 := []) (ow2 := []) (pmt_if (PW.pt (pw_orM (pm_tcmp (bin_ne (room64 hr)) (pm_def c_tensions_at (hr.mono (by decide)) rfl pass0 (fun _ _ _ _ z => z) (pmr_v (pm_var 0) (pmr_v (pm_var 1) pmr_nil))) (pm_def c__law_tensions (hr.mono (by decide)) rfl pass0 (fun _ _ _ _ z => z) (pmr_v (pm_var 0) (pmr_v (pm_var 1) pmr_nil))) (nomark _)) (pw_or1 (pm_tcmp (bin_ne (room64 hr)) (pm_def c_currents_at (hr.mono (by decide)) rfl pass0 (fun _ _ _ _ z => z) (pmr_v (pm_var 0) (pmr_v (pm_var 2) pmr_nil))) (pm_def c__law_currents (hr.mono (by decide)) rfl pass0 (fun _ _ _ _ z => z) (pmr_v (pm_var 0) (pmr_v (pm_var 2) pmr_nil))) (nomark _))))) (pms_one (ow1 := []) (pmt_ret pm_bl)) (pms_nil)) (pms_cons (ow1 := []) (ow2 := []) (pmt_par2 [false, false] 3 4 (ow' := []) nd (pmg_v (pm_def c_tensions_at (hr.mono (by decide)) rfl pass0 (fun _ _ _ _ z => z) (pmr_v (pm_var 0) (pmr_v (pm_var 1) pmr_nil))) (pmg_v (pm_def c_currents_at (hr.mono (by decide)) rfl pass0 (fun _ _ _ _ z => z) (pmr_v (pm_var 0) (pmr_v (pm_var 2) pmr_nil))) pmg_nil))) (pms_cons (ow1 := []) (ow2 := []) (pmt_if (pm_tcmp (bin_ne (room64 hr)) (pm_def c_is_on (hr.mono (by decide)) rfl pass0 (fun _ _ _ _ z => z) (pmr_v (pm_var 0) (pmr_v (pm_var 1) (pmr_v (pm_var 2) pmr_nil)))) (pm_andV (pm_cmp bin_notN (pm_var 3) pm_non (nomark _)) (pe_one (pm_def c__law_holds (hr.mono (by decide)) rfl pass0 (fun _ _ _ _ z => z) (pmr_v (pm_ix (pm_var 3) pm_int) (pmr_v (pm_ix (pm_var 3) pm_int) (pmr_v (pm_var 2) pmr_nil)))))) (nomark _)) (pms_one (ow1 := []) (pmt_ret pm_bl)) (pms_nil)) (pms_cons (ow1 := []) (ow2 := []) (pmt_if (pm_tcmp (bin_ne (room64 hr)) (pm_def c_is_on (hr.mono (by decide)) rfl pass0 (fun _ _ _ _ z => z) (pmr_v (pm_var 0) (pmr_v (pm_var 1) (pmr_v (pm_var 2) pmr_nil)))) (pm_andV (pm_cmp bin_notN (pm_var 4) pm_non (nomark _)) (pe_one (pm_def c__law_holds (hr.mono (by decide)) rfl pass0 (fun _ _ _ _ z => z) (pmr_v (pm_ix (pm_var 4) pm_int) (pmr_v (pm_ix (pm_var 4) pm_int) (pmr_v (pm_var 1) pmr_nil)))))) (nomark _)) (pms_one (ow1 := []) (pmt_ret pm_bl)) (pms_nil)) (pms_cons (ow1 := []) (ow2 := []) (pmt_if (pm_tcmp (bin_eq (room64 hr)) (pm_cmp bin_isN (pm_var 3) pm_non (nomark _)) (pm_def c__law_holds (hr.mono (by decide)) rfl pass0 (fun _ _ _ _ z => z) (pmr_v (pm_ix (pm_def c_currents_of (hr.mono (by decide)) rfl pass0 (fun _ _ _ _ z => z) (pmr_v (pm_var 0) pmr_nil)) pm_int) (pmr_v (pm_ix (pm_def c_currents_of (hr.mono (by decide)) rfl pass0 (fun _ _ _ _ z => z) (pmr_v (pm_var 0) pmr_nil)) pm_int) (pmr_v (pm_var 1) pmr_nil)))) (nomark _)) (pms_one (ow1 := []) (pmt_ret pm_bl)) (pms_nil)) (pms_one (ow1 := []) (pmt_ret (pm_cmp (bin_ne (room64 hr)) (pm_cmp bin_isN (pm_var 4) pm_non (nomark _)) (pm_def c__law_holds (hr.mono (by decide)) rfl pass0 (fun _ _ _ _ z => z) (pmr_v (pm_ix (pm_def c_tensions_of (hr.mono (by decide)) rfl pass0 (fun _ _ _ _ z => z) (pmr_v (pm_var 0) pmr_nil)) pm_int) (pmr_v (pm_ix (pm_def c_tensions_of (hr.mono (by decide)) rfl pass0 (fun _ _ _ _ z => z) (pmr_v (pm_var 0) pmr_nil)) pm_int) (pmr_v (pm_var 2) pmr_nil)))) (nomark _))))))))))
theorem dn__law_point_right (T : Tx mg) (c__law_currents : Dn P w K mg tt base CX0 "_law_currents" 3 2 [] m__law_currents) (c__law_holds : Dn P w K mg tt base CX0 "_law_holds" 1 3 [] m__law_holds) (c__law_is_on : Dn P w K mg tt base CX0 "_law_is_on" 2 3 [] m__law_is_on) (c__law_place : Dn P w K mg tt base CX0 "_law_place" 4 3 [] m__law_place) (c__law_tensions : Dn P w K mg tt base CX0 "_law_tensions" 3 2 [] m__law_tensions) (c_currents_at : Dn P w K mg tt base CX0 "currents_at" 7 2 [] m_currents_at) (c_currents_of : Dn P w K mg tt base CX0 "currents_of" 7 1 [] m_currents_of) (c_is_on : Dn P w K mg tt base CX0 "is_on" 8 3 [] m_is_on) (c_place_of : Dn P w K mg tt base CX0 "place_of" 7 3 [] m_place_of) (c_tensions_at : Dn P w K mg tt base CX0 "tensions_at" 7 2 [] m_tensions_at) (c_tensions_of : Dn P w K mg tt base CX0 "tensions_of" 7 1 [] m_tensions_of) {f : Addr} {fd : FuncData} (Fd : FnP K "_law_point_right" s__law_point_right f fd) (hm : mg "_law_point_right" = some (.ref f)) : Dn P w K mg tt base CX0 "_law_point_right" 9 3 [] m__law_point_right :=
  ⟨f, fd, ["rise", "x", "y"], ok__law_point_right T c__law_currents c__law_holds c__law_is_on c__law_place c__law_tensions c_currents_at c_currents_of c_is_on c_place_of c_tensions_at c_tensions_of Fd, hm, Fd.kp, Fd.bindsN fun _ _ _ _ _ _ us hl => match us, hl with | [_, _, _], _ => rfl⟩
theorem sc__law_right : FnScope ["cask", "rise", "x", "y", "more"] ["cask"] (defScope s__law_right) := ⟨rfl, rfl, rfl, by decide +kernel, rfl, by decide +kernel, by decide +kernel⟩
def lB1__law_right : Ms := (mIfS (mAnd (mTB (mBin pNotN (mVar 4) (mC .non))) (mAnd (mTB (mBin pNotN (mBin pIx (mVar 4) (mC (.int 0))) (mC .non))) (mAnd (mTB (mBin pNotN (mBin pIx (mVar 4) (mC (.int 1))) (mC .non))) (mTB (mBin (pB fun i j => decide (j < i)) (mBin pIx (mVar 4) (mC (.int 0))) (mBin pIx (mVar 4) (mC (.int 1)))))))) (mRet (mC (.bl false))) mNext)
def lB2__law_right : Ms := (mSeq (mIfS (mNot (mTr (mDef 3 [] m__law_point_right (mrV (mVar 1) (mrV (mVar 2) (mrV (mVar 3) mrNil)))))) (mRet (mC (.bl false))) mNext) (mFor (mIt (mTup (mCons (mDef 2 [] m_tensions_at (mrV (mVar 1) (mrV (mVar 2) mrNil))) (mCons (mDef 2 [] m_currents_at (mrV (mVar 1) (mrV (mVar 3) mrNil))) mNil)))) (tN 4) lB1__law_right))
def ms__law_right : Ms := (mSeq (mSet 1 (mDef 2 [0] m__law_rise (mrO 0 (mrV (mDef 2 [0] m__law_among (mrO 0 (mrV (mLst (mCons (mC (.int 1)) (mCons (mC (.int 3)) (mCons (mC (.int 9)) (mCons (mC (.int 30)) mNil))))) mrNil))) mrNil)))) (mSeq (mFor (mIt (mBin pAdd (mDef 1 [] m__law_rims (mrV (mVar 1) mrNil)) (mDef 2 [0] m__law_near (mrO 0 (mrV (mLst (mCons (mVar 1) mNil)) mrNil))))) (tT [2, 3]) lB2__law_right) (mRet (mC (.bl true)))))
def m__law_right : List PV → Out PV := runN 5 ms__law_right
instance : NoEx m__law_right := runN_noex _ _
theorem ok__law_right (T : Tx mg) (c__law_among : Dn P w K mg tt base CX0 "_law_among" 2 2 [0] m__law_among) (c__law_near : Dn P w K mg tt base CX0 "_law_near" 3 2 [0] m__law_near) (c__law_point_right : Dn P w K mg tt base CX0 "_law_point_right" 9 3 [] m__law_point_right) (c__law_rims : Dn P w K mg tt base CX0 "_law_rims" 1 1 [] m__law_rims) (c__law_rise : Dn P w K mg tt base CX0 "_law_rise" 4 2 [0] m__law_rise) (c_currents_at : Dn P w K mg tt base CX0 "currents_at" 7 2 [] m_currents_at) (c_tensions_at : Dn P w K mg tt base CX0 "tensions_at" 7 2 [] m_tensions_at) {f : Addr} {fd : FuncData} (Fd : FnP K "_law_right" s__law_right f fd) : FnOk P w K mg base CX0 10 f fd ["cask"] (spM ⟨K, mg, tt⟩ 1 [0] m__law_right) :=
  have nd := (sc__law_right).nd
  fnN (oz := [0]) Fd sc__law_right fun G cdv A outer s H E hr => (pms_cons (ow1 := [0]) (ow2 := [0]) (pmt_set 1 nd (pm_def c__law_rise (hr.mono (by decide)) rfl pass0 (fun _ _ _ _ z => z) (pmr_o 0 (pmr_v (pm_def c__law_among (hr.mono (by decide)) rfl pass0 (fun _ _ _ _ z => z) (pmr_o 0 (pmr_v (pm_lst (pma_cons pm_int (pma_cons pm_int (pma_cons pm_int (pma_cons pm_int pma_nil))))) pmr_nil))) pmr_nil)))) (pms_cons (ow1 := [0]) (ow2 := [0]) (pmt_for PassesOwn.never (pmi_seq (pm_bin bin_add (pm_def c__law_rims (hr.mono (by decide)) rfl pass0 (fun _ _ _ _ z => z) (pmr_v (pm_var 1) pmr_nil)) (pm_def c__law_near (hr.mono (by decide)) rfl pass0 (fun _ _ _ _ z => z) (pmr_o 0 (pmr_v (pm_lst (pma_cons (pm_var 1) pma_nil)) pmr_nil))))) (pg_tup (n := 2) rfl (pgs_cons (pg_name (i := 2) nd rfl (by first | exact .inl rfl | exact .inr rfl)) (pgs_cons (pg_name (i := 3) nd rfl (by first | exact .inl rfl | exact .inr rfl)) pgs_nil))) (tg_tup [2, 3]) (pms_cons (ow1 := [0]) (ow2 := [0]) (pmt_if (pm_not (pm_tr (pm_def c__law_point_right (hr.mono (by decide)) rfl pass0 (fun _ _ _ _ z => z) (pmr_v (pm_var 1) (pmr_v (pm_var 2) (pmr_v (pm_var 3) pmr_nil)))))) (pms_one (ow1 := [0]) (pmt_ret pm_bl)) (pms_nil)) (pms_one (ow1 := [0]) (pmt_for PassesOwn.never (pmi_seq (pm_tup (pma_cons (pm_def c_tensions_at (hr.mono (by decide)) rfl pass0 (fun _ _ _ _ z => z) (pmr_v (pm_var 1) (pmr_v (pm_var 2) pmr_nil))) (pma_cons (pm_def c_currents_at (hr.mono (by decide)) rfl pass0 (fun _ _ _ _ z => z) (pmr_v (pm_var 1) (pmr_v (pm_var 3) pmr_nil))) pma_nil)))) (pg_name (i := 4) nd rfl (by first | exact .inl rfl | exact .inr rfl)) (tg_name 4) (pms_one (ow1 := [0]) (pmt_if (PW.pt (pw_andM (pm_tcmp bin_notN (pm_var 4) pm_non (nomark _)) (pw_andM (pm_tcmp bin_notN (pm_ix (pm_var 4) pm_int) pm_non (nomark _)) (pw_andM (pm_tcmp bin_notN (pm_ix (pm_var 4) pm_int) pm_non (nomark _)) (pw_and1 (pm_tcmp bin_gt (pm_ix (pm_var 4) pm_int) (pm_ix (pm_var 4) pm_int) (nomark _))))))) (pms_one (ow1 := [0]) (pmt_ret pm_bl)) (pms_nil))))))) (pms_one (ow1 := [0]) (pmt_ret pm_bl))))
theorem dn__law_right (T : Tx mg) (c__law_among : Dn P w K mg tt base CX0 "_law_among" 2 2 [0] m__law_among) (c__law_near : Dn P w K mg tt base CX0 "_law_near" 3 2 [0] m__law_near) (c__law_point_right : Dn P w K mg tt base CX0 "_law_point_right" 9 3 [] m__law_point_right) (c__law_rims : Dn P w K mg tt base CX0 "_law_rims" 1 1 [] m__law_rims) (c__law_rise : Dn P w K mg tt base CX0 "_law_rise" 4 2 [0] m__law_rise) (c_currents_at : Dn P w K mg tt base CX0 "currents_at" 7 2 [] m_currents_at) (c_tensions_at : Dn P w K mg tt base CX0 "tensions_at" 7 2 [] m_tensions_at) {f : Addr} {fd : FuncData} (Fd : FnP K "_law_right" s__law_right f fd) (hm : mg "_law_right" = some (.ref f)) : Dn P w K mg tt base CX0 "_law_right" 10 1 [0] m__law_right :=
  ⟨f, fd, ["cask"], ok__law_right T c__law_among c__law_near c__law_point_right c__law_rims c__law_rise c_currents_at c_tensions_at Fd, hm, Fd.kp, Fd.bindsN fun _ _ _ _ _ _ us hl => match us, hl with | [_], _ => rfl⟩
theorem sc_law : FnScope ["script", "spot", "cask", "steps", "diode", "told", "x", "y"] ["script"] (defScope s_law) := ⟨rfl, rfl, rfl, by decide +kernel, rfl, by decide +kernel, by decide +kernel⟩
def lB1_law : Ms := (mSeq (mSetO 2 (mDefF 2 m__law_cask (mCons (mVar 0) (mCons (mVar 1) mNil)))) (mIfS (mOr (mNot (mTr (mDef 1 [0] m__law_right (mrO 2 mrNil)))) (mOr (mNot (mTr (mDef 1 [0] m__law_right (mrO 2 mrNil)))) (mNot (mTr (mDef 1 [0] m__law_right (mrO 2 mrNil)))))) (mRet (mC (.bl false))) mNext))
def cE1_law : Mo PV := (mDef 2 [] m_tensions_at (mrV (mVar 3) (mrV (mVar 6) mrNil)))
def cE2_law : Mo PV := (mDef 2 [] m_currents_at (mrV (mVar 3) (mrV (mVar 7) mrNil)))
def ms_law : Ms := (mSeq (mFor (mItA iRange1 (mCons (mCall gMax (mCons (mC (.int 1)) (mCons (mCall gMin (mCons (mC (.int 4)) (mCons (mCall gLen (mCons (mVar 0) mNil)) mNil))) mNil))) mNil)) (tN 1) lB1_law) (mSeq (mUnp [3, 4] (mTup (mCons (mTup (mCons (mC (.str "steep")) (mCons (mTup (mCons (mTup (mCons (mC (.int 0)) (mCons (mC (.int 0)) mNil))) (mCons (mTup (mCons (mC (.int 2)) (mCons (mC (.int 0)) mNil))) (mCons (mTup (mCons (mC (.int 2)) (mCons (mC (.int 3)) mNil))) (mCons (mTup (mCons (mC (.int 4)) (mCons (mC (.int 3)) mNil))) mNil))))) mNil))) (mCons (mTup (mCons (mC (.str "steep")) (mCons (mTup (mCons (mTup (mCons (mC (.int 0)) (mCons (mC (.int 0)) mNil))) mNil)) mNil))) mNil)))) (mSeq (mSet 5 (mBin pAdd (mLc [6] (tN 6) mYes cE1_law (mIt (mTup (mCons (mC (.int 2)) (mCons (mC (.int 0)) (mCons (mC (.int 1)) (mCons (mC (.int 5)) (mCons (mNeg (mC (.int 1))) mNil)))))))) (mLc [7] (tN 7) mYes cE2_law (mIt (mTup (mCons (mC (.int 0)) (mCons (mC (.int 1)) (mCons (mNeg (mC (.int 7))) (mCons (mC (.int 3)) (mCons (mC (.int 4)) mNil)))))))))) (mSeq (mIfS (mTB (mBin pNe (mVar 5) (mLst (mCons (mTup (mCons (mC (.int 0)) (mCons (mC (.int 3)) mNil))) (mCons (mTup (mCons (mC .non) (mCons (mC (.int 0)) mNil))) (mCons (mTup (mCons (mC (.int 0)) (mCons (mC (.int 0)) mNil))) (mCons (mC .non) (mCons (mC .non) (mCons (mTup (mCons (mC (.int 0)) (mCons (mC (.int 2)) mNil))) (mCons (mTup (mCons (mC (.int 2)) (mCons (mC (.int 2)) mNil))) (mCons (mTup (mCons (mC (.int 0)) (mCons (mC (.int 0)) mNil))) (mCons (mTup (mCons (mC (.int 2)) (mCons (mC (.int 4)) mNil))) (mCons (mTup (mCons (mC (.int 4)) (mCons (mC (.int 4)) mNil))) mNil))))))))))))) (mRet (mC (.bl false))) mNext) (mSeq (mIfS (mTB (mBin pNe (mLst (mCons (mDef 1 [] m_currents_of (mrV (mVar 3) mrNil)) (mCons (mDef 1 [] m_tensions_of (mrV (mVar 3) mrNil)) (mCons (mDef 1 [] m_currents_of (mrV (mVar 4) mrNil)) (mCons (mDef 1 [] m_tensions_of (mrV (mVar 4) mrNil)) mNil))))) (mLst (mCons (mTup (mCons (mC (.int 0)) (mCons (mC (.int 4)) mNil))) (mCons (mTup (mCons (mC .non) (mCons (mC .non) mNil))) (mCons (mTup (mCons (mC (.int 0)) (mCons (mC .non) mNil))) (mCons (mTup (mCons (mC .non) (mCons (mC (.int 0)) mNil))) mNil))))))) (mRet (mC (.bl false))) mNext) (mRet (mBin pEq (mLst (mCons (mDef 3 [] m_place_of (mrV (mVar 4) (mrV (mC (.int 3)) (mrV (mC (.int 1)) mrNil)))) (mCons (mDef 3 [] m_place_of (mrV (mVar 4) (mrV (mC (.int 3)) (mrV (mNeg (mC (.int 1))) mrNil)))) (mCons (mDef 3 [] m_place_of (mrV (mVar 4) (mrV (mNeg (mC (.int 1))) (mrV (mNeg (mC (.int 5))) mrNil)))) (mCons (mDef 3 [] m_place_of (mrV (mVar 4) (mrV (mC (.int 0)) (mrV (mNeg (mC (.int 5))) mrNil)))) mNil))))) (mLst (mCons (mC (.str "above")) (mCons (mC (.str "below")) (mCons (mC (.str "above")) (mCons (mC (.str "on")) mNil))))))))))))
def m_law : List PV → Out PV := runN 8 ms_law
instance : NoEx m_law := runN_noex _ _
theorem ok_law (T : Tx mg) (c__law_right : Dn P w K mg tt base CX0 "_law_right" 10 1 [0] m__law_right) (c_currents_at : Dn P w K mg tt base CX0 "currents_at" 7 2 [] m_currents_at) (c_currents_of : Dn P w K mg tt base CX0 "currents_of" 7 1 [] m_currents_of) (c_place_of : Dn P w K mg tt base CX0 "place_of" 7 3 [] m_place_of) (c_tensions_at : Dn P w K mg tt base CX0 "tensions_at" 7 2 [] m_tensions_at) (c_tensions_of : Dn P w K mg tt base CX0 "tensions_of" 7 1 [] m_tensions_of) (c__law_cask : DnF P w K mg tt base "_law_cask" 1 2 m__law_cask) {f : Addr} {fd : FuncData} (Fd : FnP K "law" s_law f fd) : FnOk P w K mg base CX0 11 f fd ["script"] (spM ⟨K, mg, tt⟩ 1 [] m_law) :=
  have nd := (sc_law).nd
  fnN (oz := []) Fd sc_law fun G cdv A outer s H E hr => (pms_cons (ow1 := []) (ow2 := []) (pmt_for PassesOwn.never (pmi_range1 rfl T.g_range (pma_cons (pm_callB co_max rfl T.g_max (by decide +kernel) (pma_cons pm_int (pma_cons (pm_callB co_min rfl T.g_min (by decide +kernel) (pma_cons pm_int (pma_cons (pm_callB co_len rfl T.g_len (by decide +kernel) (pma_cons (pm_var 0) pma_nil)) pma_nil))) pma_nil))) pma_nil)) (pg_name (i := 1) nd rfl (by first | exact .inl rfl | exact .inr rfl)) (tg_name 1) (pms_cons (ow1 := [2]) (ow2 := [2]) (pmt_setO 2 (ow' := [2]) nd (pm_defF c__law_cask (hr.mono (by decide)) rfl (pma_cons (pm_var 0) (pma_cons (pm_var 1) pma_nil)))) (pms_one (ow1 := []) (pmt_if (PW.pt (pw_orM (pm_not (pm_tr (pm_def c__law_right (hr.mono (by decide)) rfl pass0 (fun _ _ _ _ z => z) (pmr_o 2 pmr_nil)))) (pw_orM (pm_not (pm_tr (pm_def c__law_right (hr.mono (by decide)) rfl pass0 (fun _ _ _ _ z => z) (pmr_o 2 pmr_nil)))) (pw_or1 (pm_not (pm_tr (pm_def c__law_right (hr.mono (by decide)) rfl pass0 (fun _ _ _ _ z => z) (pmr_o 2 pmr_nil)))))))) (pms_less (ow1 := []) (pms_one (ow1 := []) (pmt_ret pm_bl))) (pms_nil))))) (pms_cons (ow1 := []) (ow2 := []) (pmt_unp [3, 4] (pm_tup (pma_cons (pm_tup (pma_cons pm_str (pma_cons (pm_tup (pma_cons (pm_tup (pma_cons pm_int (pma_cons pm_int pma_nil))) (pma_cons (pm_tup (pma_cons pm_int (pma_cons pm_int pma_nil))) (pma_cons (pm_tup (pma_cons pm_int (pma_cons pm_int pma_nil))) (pma_cons (pm_tup (pma_cons pm_int (pma_cons pm_int pma_nil))) pma_nil))))) pma_nil))) (pma_cons (pm_tup (pma_cons pm_str (pma_cons (pm_tup (pma_cons (pm_tup (pma_cons pm_int (pma_cons pm_int pma_nil))) pma_nil)) pma_nil))) pma_nil))) (pgs_cons (pg_name (i := 3) nd rfl (by first | exact .inl rfl | exact .inr rfl)) (pgs_cons (pg_name (i := 4) nd rfl (by first | exact .inl rfl | exact .inr rfl)) pgs_nil))) (pms_cons (ow1 := []) (ow2 := []) (pmt_set 5 nd (pm_bin bin_add (pm_lc (own := [("x", 6)]) nd (pmi_seq (pm_tup (pma_cons pm_int (pma_cons pm_int (pma_cons pm_int (pma_cons pm_int (pma_cons (pm_neg pm_int) pma_nil))))))) (blkOk_by (own := [("x", 6)]) (N := ["script", "spot", "cask", "steps", "diode", "told", "x", "y"]) (sc := defScope s_law) (by decide +kernel)) (fun _ _ _ _ _ => (pg_name (i := 6) nd rfl (.inl rfl))) (fun _ _ _ _ _ _ => pmts_nil) (fun _ _ _ _ _ _ => (pm_def c_tensions_at (hr.mono (by decide)) rfl pass0 (fun _ _ _ _ z => z) (pmr_v (pm_var 3) (pmr_v (pm_var 6) pmr_nil)))) (fun _ => (tg_name 6))) (pm_lc (own := [("y", 7)]) nd (pmi_seq (pm_tup (pma_cons pm_int (pma_cons pm_int (pma_cons (pm_neg pm_int) (pma_cons pm_int (pma_cons pm_int pma_nil))))))) (blkOk_by (own := [("y", 7)]) (N := ["script", "spot", "cask", "steps", "diode", "told", "x", "y"]) (sc := defScope s_law) (by decide +kernel)) (fun _ _ _ _ _ => (pg_name (i := 7) nd rfl (.inl rfl))) (fun _ _ _ _ _ _ => pmts_nil) (fun _ _ _ _ _ _ => (pm_def c_currents_at (hr.mono (by decide)) rfl pass0 (fun _ _ _ _ z => z) (pmr_v (pm_var 3) (pmr_v (pm_var 7) pmr_nil)))) (fun _ => (tg_name 7))))) (pms_cons (ow1 := []) (ow2 := []) (pmt_if (pm_tcmp (bin_ne (room64 hr)) (pm_var 5) (pm_lst (pma_cons (pm_tup (pma_cons pm_int (pma_cons pm_int pma_nil))) (pma_cons (pm_tup (pma_cons pm_non (pma_cons pm_int pma_nil))) (pma_cons (pm_tup (pma_cons pm_int (pma_cons pm_int pma_nil))) (pma_cons pm_non (pma_cons pm_non (pma_cons (pm_tup (pma_cons pm_int (pma_cons pm_int pma_nil))) (pma_cons (pm_tup (pma_cons pm_int (pma_cons pm_int pma_nil))) (pma_cons (pm_tup (pma_cons pm_int (pma_cons pm_int pma_nil))) (pma_cons (pm_tup (pma_cons pm_int (pma_cons pm_int pma_nil))) (pma_cons (pm_tup (pma_cons pm_int (pma_cons pm_int pma_nil))) pma_nil))))))))))) (nomark _)) (pms_one (ow1 := []) (pmt_ret pm_bl)) (pms_nil)) (pms_cons (ow1 := []) (ow2 := []) (pmt_if (pm_tcmp (bin_ne (room64 hr)) (pm_lst (pma_cons (pm_def c_currents_of (hr.mono (by decide)) rfl pass0 (fun _ _ _ _ z => z) (pmr_v (pm_var 3) pmr_nil)) (pma_cons (pm_def c_tensions_of (hr.mono (by decide)) rfl pass0 (fun _ _ _ _ z => z) (pmr_v (pm_var 3) pmr_nil)) (pma_cons (pm_def c_currents_of (hr.mono (by decide)) rfl pass0 (fun _ _ _ _ z => z) (pmr_v (pm_var 4) pmr_nil)) (pma_cons (pm_def c_tensions_of (hr.mono (by decide)) rfl pass0 (fun _ _ _ _ z => z) (pmr_v (pm_var 4) pmr_nil)) pma_nil))))) (pm_lst (pma_cons (pm_tup (pma_cons pm_int (pma_cons pm_int pma_nil))) (pma_cons (pm_tup (pma_cons pm_non (pma_cons pm_non pma_nil))) (pma_cons (pm_tup (pma_cons pm_int (pma_cons pm_non pma_nil))) (pma_cons (pm_tup (pma_cons pm_non (pma_cons pm_int pma_nil))) pma_nil))))) (nomark _)) (pms_one (ow1 := []) (pmt_ret pm_bl)) (pms_nil)) (pms_one (ow1 := []) (pmt_ret (pm_cmp (bin_eq (room64 hr)) (pm_lst (pma_cons (pm_def c_place_of (hr.mono (by decide)) rfl pass0 (fun _ _ _ _ z => z) (pmr_v (pm_var 4) (pmr_v pm_int (pmr_v pm_int pmr_nil)))) (pma_cons (pm_def c_place_of (hr.mono (by decide)) rfl pass0 (fun _ _ _ _ z => z) (pmr_v (pm_var 4) (pmr_v pm_int (pmr_v (pm_neg pm_int) pmr_nil)))) (pma_cons (pm_def c_place_of (hr.mono (by decide)) rfl pass0 (fun _ _ _ _ z => z) (pmr_v (pm_var 4) (pmr_v (pm_neg pm_int) (pmr_v (pm_neg pm_int) pmr_nil)))) (pma_cons (pm_def c_place_of (hr.mono (by decide)) rfl pass0 (fun _ _ _ _ z => z) (pmr_v (pm_var 4) (pmr_v pm_int (pmr_v (pm_neg pm_int) pmr_nil)))) pma_nil))))) (pm_lst (pma_cons pm_str (pma_cons pm_str (pma_cons pm_str (pma_cons pm_str pma_nil))))) (nomark _)))))))))
theorem dn_law (T : Tx mg) (c__law_right : Dn P w K mg tt base CX0 "_law_right" 10 1 [0] m__law_right) (c_currents_at : Dn P w K mg tt base CX0 "currents_at" 7 2 [] m_currents_at) (c_currents_of : Dn P w K mg tt base CX0 "currents_of" 7 1 [] m_currents_of) (c_place_of : Dn P w K mg tt base CX0 "place_of" 7 3 [] m_place_of) (c_tensions_at : Dn P w K mg tt base CX0 "tensions_at" 7 2 [] m_tensions_at) (c_tensions_of : Dn P w K mg tt base CX0 "tensions_of" 7 1 [] m_tensions_of) (c__law_cask : DnF P w K mg tt base "_law_cask" 1 2 m__law_cask) {f : Addr} {fd : FuncData} (Fd : FnP K "law" s_law f fd) (hm : mg "law" = some (.ref f)) : Dn P w K mg tt base CX0 "law" 11 1 [] m_law :=
  ⟨f, fd, ["script"], ok_law T c__law_right c_currents_at c_currents_of c_place_of c_tensions_at c_tensions_of c__law_cask Fd, hm, Fd.kp, Fd.bindsN fun _ _ _ _ _ _ us hl => match us, hl with | [_], _ => rfl⟩
end
end K03

namespace K03
open PySem PySem.Spec PyProof.Rows L2 M
theorem facts {P : Program} {w : World} {K : PySem.W.Frag} {h : Heap} {mg : Str → Option Value} {f : Addr} (X : K.In h) (G : h.Ns mainGlobals mg) (hfa : mg ("law" : Str) = some (.ref f)) (c : He.SaysD fa fn K) (cx : exB K = true) :
    ∃ fd : FuncData, (∀ (s : Shared) (v : Value), BindsTo s fd ⟨[v], []⟩ [("script", v)]) ∧ ∀ base : Heap, K.In base → base.Ns mainGlobals mg → (∀ p ∈ tf.map (He.cT K), LamX.TabB base mg p.1 p.2) → FnG P w K mg base CX0 11 f fd ["script"] (spM ⟨K, mg, ⟨tabs K, C0⟩⟩ 1 [] m_law) := by
  obtain ⟨fd_is_whole, F_is_whole⟩ := c.def_ 0 (d := d_is_whole) rfl
  obtain ⟨fd_is_short, F_is_short⟩ := c.def_ 1 (d := d_is_short) rfl
  obtain ⟨fd_check_number, F_check_number⟩ := c.def_ 2 (d := d_check_number) rfl
  obtain ⟨fd_is_row, F_is_row⟩ := c.def_ 3 (d := d_is_row) rfl
  obtain ⟨fd_is_tuple_of, F_is_tuple_of⟩ := c.def_ 4 (d := d_is_tuple_of) rfl
  obtain ⟨fd_holds, F_holds⟩ := c.def_ 5 (d := d_holds) rfl
  obtain ⟨fd_is_rise, F_is_rise⟩ := c.def_ 6 (d := d_is_rise) rfl
  obtain ⟨fd_currents_of, F_currents_of⟩ := c.def_ 7 (d := d_currents_of) rfl
  obtain ⟨fd_tensions_of, F_tensions_of⟩ := c.def_ 8 (d := d_tensions_of) rfl
  obtain ⟨fd_tensions_at, F_tensions_at⟩ := c.def_ 9 (d := d_tensions_at) rfl
  obtain ⟨fd_currents_at, F_currents_at⟩ := c.def_ 10 (d := d_currents_at) rfl
  obtain ⟨fd_is_on, F_is_on⟩ := c.def_ 11 (d := d_is_on) rfl
  obtain ⟨fd_place_of, F_place_of⟩ := c.def_ 12 (d := d_place_of) rfl
  obtain ⟨fd_check_rise, F_check_rise⟩ := c.def_ 13 (d := d_check_rise) rfl
  obtain ⟨fd_is_far_point, F_is_far_point⟩ := c.def_ 14 (d := d_is_far_point) rfl
  obtain ⟨fd_are_corners, F_are_corners⟩ := c.def_ 15 (d := d_are_corners) rfl
  obtain ⟨fd_other_kind, F_other_kind⟩ := c.def_ 16 (d := d_other_kind) rfl
  obtain ⟨fd_kind_between, F_kind_between⟩ := c.def_ 17 (d := d_kind_between) rfl
  obtain ⟨fd_row_of, F_row_of⟩ := c.def_ 18 (d := d_row_of) rfl
  obtain ⟨fd_piece_between, F_piece_between⟩ := c.def_ 19 (d := d_piece_between) rfl
  obtain ⟨fd_span_of, F_span_of⟩ := c.def_ 20 (d := d_span_of) rfl
  obtain ⟨fd_span_across, F_span_across⟩ := c.def_ 21 (d := d_span_across) rfl
  obtain ⟨fd_first_not_below, F_first_not_below⟩ := c.def_ 22 (d := d_first_not_below) rfl
  obtain ⟨fd_extent_of, F_extent_of⟩ := c.def_ 23 (d := d_extent_of) rfl
  obtain ⟨fd_place_by, F_place_by⟩ := c.def_ 24 (d := d_place_by) rfl
  obtain ⟨fd__law_cask, F__law_cask⟩ := c.def_ 25 (d := d__law_cask) rfl
  obtain ⟨fd__law_pour, F__law_pour⟩ := c.def_ 26 (d := d__law_pour) rfl
  obtain ⟨fd__law_among, F__law_among⟩ := c.def_ 27 (d := d__law_among) rfl
  obtain ⟨fd__law_size, F__law_size⟩ := c.def_ 28 (d := d__law_size) rfl
  obtain ⟨fd__law_spot, F__law_spot⟩ := c.def_ 29 (d := d__law_spot) rfl
  obtain ⟨fd__law_rise, F__law_rise⟩ := c.def_ 30 (d := d__law_rise) rfl
  obtain ⟨fd__law_pieces, F__law_pieces⟩ := c.def_ 31 (d := d__law_pieces) rfl
  obtain ⟨fd__law_holds, F__law_holds⟩ := c.def_ 32 (d := d__law_holds) rfl
  obtain ⟨fd__law_is_on, F__law_is_on⟩ := c.def_ 33 (d := d__law_is_on) rfl
  obtain ⟨fd__law_least, F__law_least⟩ := c.def_ 34 (d := d__law_least) rfl
  obtain ⟨fd__law_most, F__law_most⟩ := c.def_ 35 (d := d__law_most) rfl
  obtain ⟨fd__law_ends, F__law_ends⟩ := c.def_ 36 (d := d__law_ends) rfl
  obtain ⟨fd__law_tensions, F__law_tensions⟩ := c.def_ 37 (d := d__law_tensions) rfl
  obtain ⟨fd__law_currents, F__law_currents⟩ := c.def_ 38 (d := d__law_currents) rfl
  obtain ⟨fd__law_range, F__law_range⟩ := c.def_ 39 (d := d__law_range) rfl
  obtain ⟨fd__law_rims, F__law_rims⟩ := c.def_ 40 (d := d__law_rims) rfl
  obtain ⟨fd__law_near, F__law_near⟩ := c.def_ 41 (d := d__law_near) rfl
  obtain ⟨fd__law_place, F__law_place⟩ := c.def_ 42 (d := d__law_place) rfl
  obtain ⟨fd__law_point_right, F__law_point_right⟩ := c.def_ 43 (d := d__law_point_right) rfl
  obtain ⟨fd__law_right, F__law_right⟩ := c.def_ 44 (d := d__law_right) rfl
  obtain ⟨fd_law, F_law⟩ := c.def_ 45 (d := d_law) rfl
  have g_is_whole := He.glo_ok X G (c.fact 0 (f := .glo "is_whole") rfl)
  have g_is_short := He.glo_ok X G (c.fact 1 (f := .glo "is_short") rfl)
  have g_check_number := He.glo_ok X G (c.fact 2 (f := .glo "check_number") rfl)
  have g_is_row := He.glo_ok X G (c.fact 3 (f := .glo "is_row") rfl)
  have g_is_tuple_of := He.glo_ok X G (c.fact 4 (f := .glo "is_tuple_of") rfl)
  have g_holds := He.glo_ok X G (c.fact 5 (f := .glo "holds") rfl)
  have g_is_rise := He.glo_ok X G (c.fact 6 (f := .glo "is_rise") rfl)
  have g_currents_of := He.glo_ok X G (c.fact 7 (f := .glo "currents_of") rfl)
  have g_tensions_of := He.glo_ok X G (c.fact 8 (f := .glo "tensions_of") rfl)
  have g_tensions_at := He.glo_ok X G (c.fact 9 (f := .glo "tensions_at") rfl)
  have g_currents_at := He.glo_ok X G (c.fact 10 (f := .glo "currents_at") rfl)
  have g_is_on := He.glo_ok X G (c.fact 11 (f := .glo "is_on") rfl)
  have g_place_of := He.glo_ok X G (c.fact 12 (f := .glo "place_of") rfl)
  have g_check_rise := He.glo_ok X G (c.fact 13 (f := .glo "check_rise") rfl)
  have g_is_far_point := He.glo_ok X G (c.fact 14 (f := .glo "is_far_point") rfl)
  have g_are_corners := He.glo_ok X G (c.fact 15 (f := .glo "are_corners") rfl)
  have g_other_kind := He.glo_ok X G (c.fact 16 (f := .glo "other_kind") rfl)
  have g_kind_between := He.glo_ok X G (c.fact 17 (f := .glo "kind_between") rfl)
  have g_row_of := He.glo_ok X G (c.fact 18 (f := .glo "row_of") rfl)
  have g_piece_between := He.glo_ok X G (c.fact 19 (f := .glo "piece_between") rfl)
  have g_span_of := He.glo_ok X G (c.fact 20 (f := .glo "span_of") rfl)
  have g_span_across := He.glo_ok X G (c.fact 21 (f := .glo "span_across") rfl)
  have g_first_not_below := He.glo_ok X G (c.fact 22 (f := .glo "first_not_below") rfl)
  have g_extent_of := He.glo_ok X G (c.fact 23 (f := .glo "extent_of") rfl)
  have g_place_by := He.glo_ok X G (c.fact 24 (f := .glo "place_by") rfl)
  have g__law_cask := He.glo_ok X G (c.fact 25 (f := .glo "_law_cask") rfl)
  have g__law_pour := He.glo_ok X G (c.fact 26 (f := .glo "_law_pour") rfl)
  have g__law_among := He.glo_ok X G (c.fact 27 (f := .glo "_law_among") rfl)
  have g__law_size := He.glo_ok X G (c.fact 28 (f := .glo "_law_size") rfl)
  have g__law_spot := He.glo_ok X G (c.fact 29 (f := .glo "_law_spot") rfl)
  have g__law_rise := He.glo_ok X G (c.fact 30 (f := .glo "_law_rise") rfl)
  have g__law_pieces := He.glo_ok X G (c.fact 31 (f := .glo "_law_pieces") rfl)
  have g__law_holds := He.glo_ok X G (c.fact 32 (f := .glo "_law_holds") rfl)
  have g__law_is_on := He.glo_ok X G (c.fact 33 (f := .glo "_law_is_on") rfl)
  have g__law_least := He.glo_ok X G (c.fact 34 (f := .glo "_law_least") rfl)
  have g__law_most := He.glo_ok X G (c.fact 35 (f := .glo "_law_most") rfl)
  have g__law_ends := He.glo_ok X G (c.fact 36 (f := .glo "_law_ends") rfl)
  have g__law_tensions := He.glo_ok X G (c.fact 37 (f := .glo "_law_tensions") rfl)
  have g__law_currents := He.glo_ok X G (c.fact 38 (f := .glo "_law_currents") rfl)
  have g__law_range := He.glo_ok X G (c.fact 39 (f := .glo "_law_range") rfl)
  have g__law_rims := He.glo_ok X G (c.fact 40 (f := .glo "_law_rims") rfl)
  have g__law_near := He.glo_ok X G (c.fact 41 (f := .glo "_law_near") rfl)
  have g__law_place := He.glo_ok X G (c.fact 42 (f := .glo "_law_place") rfl)
  have g__law_point_right := He.glo_ok X G (c.fact 43 (f := .glo "_law_point_right") rfl)
  have g__law_right := He.glo_ok X G (c.fact 44 (f := .glo "_law_right") rfl)
  have g_law := He.glo_ok X G (c.fact 45 (f := .glo "law") rfl)
  have g_RiseError := He.glo_ok X G (c.fact 46 (f := .glo "RiseError") rfl)
  have g_InvalidRise := He.glo_ok X G (c.fact 47 (f := .glo "InvalidRise") rfl)
  have g_InvalidNumber := He.glo_ok X G (c.fact 48 (f := .glo "InvalidNumber") rfl)
  cases hfa.symm.trans g_law
  have T : Tx mg := ⟨He.free_ok X G (c.fact 49 (f := .free "abs") rfl), He.free_ok X G (c.fact 50 (f := .free "all") rfl), He.free_ok X G (c.fact 51 (f := .free "bool") rfl), He.free_ok X G (c.fact 52 (f := .free "int") rfl), He.free_ok X G (c.fact 53 (f := .free "isinstance") rfl), He.free_ok X G (c.fact 54 (f := .free "len") rfl), He.free_ok X G (c.fact 55 (f := .free "list") rfl), He.free_ok X G (c.fact 56 (f := .free "max") rfl), He.free_ok X G (c.fact 57 (f := .free "min") rfl), He.free_ok X G (c.fact 58 (f := .free "range") rfl), He.free_ok X G (c.fact 59 (f := .free "tuple") rfl), He.free_ok X G (c.fact 60 (f := .free "zip") rfl), He.int_ok X G (c.fact 61 (f := .int "FAR" 1000000000000000000) rfl), He.int_ok X G (c.fact 62 (f := .int "MOST_CORNERS" 400) rfl), He.int_ok X G (c.fact 63 (f := .int "TOO_LONG" 1000000000000000000000000000000000000000000000000000000000000) rfl)⟩
  refine ⟨fd_law, fun s v => FunD.bindsA (ps := ["script"]) F_law (fun _ _ _ _ _ _ us hl => match us, hl with | [_], _ => rfl) s [v] rfl, fun base _ _ tb => ?_⟩
  have c_is_whole := dn_is_whole (P := P) (w := w) (base := base) (tt := ⟨tabs K, C0⟩) T  F_is_whole g_is_whole
  have c_is_short := dn_is_short (P := P) (w := w) (base := base) (tt := ⟨tabs K, C0⟩) T c_is_whole F_is_short g_is_short
  have c_check_number := dn_check_number (P := P) (w := w) (base := base) (tt := ⟨tabs K, C0⟩) T c_is_short F_check_number g_check_number
  have c_is_tuple_of := dn_is_tuple_of (P := P) (w := w) (base := base) (tt := ⟨tabs K, C0⟩) T  F_is_tuple_of g_is_tuple_of
  have c_is_row := dn_is_row (P := P) (w := w) (base := base) (tt := ⟨tabs K, C0⟩) T c_is_tuple_of c_is_whole F_is_row g_is_row
  have c_holds := dn_holds (P := P) (w := w) (base := base) (tt := ⟨tabs K, C0⟩) T  F_holds g_holds
  have c_is_far_point := dn_is_far_point (P := P) (w := w) (base := base) (tt := ⟨tabs K, C0⟩) T c_is_row F_is_far_point g_is_far_point
  have c_kind_between := dn_kind_between (P := P) (w := w) (base := base) (tt := ⟨tabs K, C0⟩) T  F_kind_between g_kind_between
  have c_other_kind := dn_other_kind (P := P) (w := w) (base := base) (tt := ⟨tabs K, C0⟩) T  F_other_kind g_other_kind
  have c_are_corners := dn_are_corners (P := P) (w := w) (base := base) (tt := ⟨tabs K, C0⟩) T c_is_far_point c_kind_between c_other_kind F_are_corners g_are_corners
  have c_is_rise := dn_is_rise (P := P) (w := w) (base := base) (tt := ⟨tabs K, C0⟩) T c_are_corners c_is_tuple_of c_is_whole F_is_rise g_is_rise
  have c_check_rise := dn_check_rise (P := P) (w := w) (base := base) (tt := ⟨tabs K, C0⟩) T c_is_rise F_check_rise g_check_rise
  have c_piece_between := dn_piece_between (P := P) (w := w) (base := base) (tt := ⟨tabs K, C0⟩) T  F_piece_between g_piece_between
  have c_row_of := dn_row_of (P := P) (w := w) (base := base) (tt := ⟨tabs K, C0⟩) T c_other_kind c_piece_between F_row_of g_row_of
  have c_span_of := dn_span_of (P := P) (w := w) (base := base) (tt := ⟨tabs K, C0⟩) T  F_span_of g_span_of
  have c_currents_of := dn_currents_of (P := P) (w := w) (base := base) (tt := ⟨tabs K, C0⟩) T c_check_rise c_row_of c_span_of F_currents_of g_currents_of
  have c_tensions_of := dn_tensions_of (P := P) (w := w) (base := base) (tt := ⟨tabs K, C0⟩) T c_check_rise c_row_of c_span_of F_tensions_of g_tensions_of
  have c_extent_of := dn_extent_of (P := P) (w := w) (base := base) (tt := ⟨tabs K, C0⟩) T  F_extent_of g_extent_of
  have c_first_not_below := dn_first_not_below (P := P) (w := w) (base := base) (tt := ⟨tabs K, C0⟩) T c_extent_of c_holds F_first_not_below g_first_not_below
  have c_span_across := dn_span_across (P := P) (w := w) (base := base) (tt := ⟨tabs K, C0⟩) T c_extent_of c_first_not_below c_holds c_other_kind F_span_across g_span_across
  have c_tensions_at := dn_tensions_at (P := P) (w := w) (base := base) (tt := ⟨tabs K, C0⟩) T c_check_number c_check_rise c_row_of c_span_across F_tensions_at g_tensions_at
  have c_currents_at := dn_currents_at (P := P) (w := w) (base := base) (tt := ⟨tabs K, C0⟩) T c_check_number c_check_rise c_row_of c_span_across F_currents_at g_currents_at
  have c_place_by := dn_place_by (P := P) (w := w) (base := base) (tt := ⟨tabs K, C0⟩) T c_holds c_span_across c_span_of F_place_by g_place_by
  have c_place_of := dn_place_of (P := P) (w := w) (base := base) (tt := ⟨tabs K, C0⟩) T c_check_number c_check_rise c_place_by c_row_of F_place_of g_place_of
  have c_is_on := dn_is_on (P := P) (w := w) (base := base) (tt := ⟨tabs K, C0⟩) T c_place_of F_is_on g_is_on
  have c__law_cask := dn__law_cask (P := P) (w := w) (base := base) (tt := ⟨tabs K, C0⟩) T  F__law_cask g__law_cask
  have c__law_pour := dn__law_pour (P := P) (w := w) (base := base) (tt := ⟨tabs K, C0⟩) T  F__law_pour g__law_pour
  have c__law_among := dn__law_among (P := P) (w := w) (base := base) (tt := ⟨tabs K, C0⟩) T c__law_pour F__law_among g__law_among
  have c__law_size := dn__law_size (P := P) (w := w) (base := base) (tt := ⟨tabs K, C0⟩) T c__law_among c__law_pour F__law_size g__law_size
  have c__law_spot := dn__law_spot (P := P) (w := w) (base := base) (tt := ⟨tabs K, C0⟩) T c__law_among c__law_pour F__law_spot g__law_spot
  have c__law_rise := dn__law_rise (P := P) (w := w) (base := base) (tt := ⟨tabs K, C0⟩) T c__law_among c__law_pour c__law_size c__law_spot F__law_rise g__law_rise
  have c__law_pieces := dn__law_pieces (P := P) (w := w) (base := base) (tt := ⟨tabs K, C0⟩) T  F__law_pieces g__law_pieces
  have c__law_holds := dn__law_holds (P := P) (w := w) (base := base) (tt := ⟨tabs K, C0⟩) T  F__law_holds g__law_holds
  have c__law_is_on := dn__law_is_on (P := P) (w := w) (base := base) (tt := ⟨tabs K, C0⟩) T c__law_holds c__law_pieces F__law_is_on g__law_is_on
  have c__law_least := dn__law_least (P := P) (w := w) (base := base) (tt := ⟨tabs K, C0⟩) T  F__law_least g__law_least
  have c__law_most := dn__law_most (P := P) (w := w) (base := base) (tt := ⟨tabs K, C0⟩) T  F__law_most g__law_most
  have c__law_ends := dn__law_ends (P := P) (w := w) (base := base) (tt := ⟨tabs K, C0⟩) T c__law_holds c__law_least c__law_most c__law_pieces F__law_ends g__law_ends
  have c__law_tensions := dn__law_tensions (P := P) (w := w) (base := base) (tt := ⟨tabs K, C0⟩) T c__law_ends F__law_tensions g__law_tensions
  have c__law_currents := dn__law_currents (P := P) (w := w) (base := base) (tt := ⟨tabs K, C0⟩) T c__law_ends F__law_currents g__law_currents
  have c__law_range := dn__law_range (P := P) (w := w) (base := base) (tt := ⟨tabs K, C0⟩) T c__law_least c__law_most c__law_pieces F__law_range g__law_range
  have c__law_rims := dn__law_rims (P := P) (w := w) (base := base) (tt := ⟨tabs K, C0⟩) T  F__law_rims g__law_rims
  have c__law_near := dn__law_near (P := P) (w := w) (base := base) (tt := ⟨tabs K, C0⟩) T c__law_among c__law_rims F__law_near g__law_near
  have c__law_place := dn__law_place (P := P) (w := w) (base := base) (tt := ⟨tabs K, C0⟩) T c__law_is_on c__law_range c__law_tensions F__law_place g__law_place
  have c__law_point_right := dn__law_point_right (P := P) (w := w) (base := base) (tt := ⟨tabs K, C0⟩) T c__law_currents c__law_holds c__law_is_on c__law_place c__law_tensions c_currents_at c_currents_of c_is_on c_place_of c_tensions_at c_tensions_of F__law_point_right g__law_point_right
  have c__law_right := dn__law_right (P := P) (w := w) (base := base) (tt := ⟨tabs K, C0⟩) T c__law_among c__law_near c__law_point_right c__law_rims c__law_rise c_currents_at c_tensions_at F__law_right g__law_right
  exact FnG.of (ok_law T c__law_right c_currents_at c_currents_of c_place_of c_tensions_at c_tensions_of c__law_cask F_law)
end K03
namespace K03
open PySem PySem.Spec PyProof.Rows L2 M
/-! ### the draws -/
def Cask (n : Nat) (c : PV) : Prop := ∃ a b k : Int, c = .lst [.int a, .int b, .int k] ∧ 0 ≤ k ∧ k ≤ n
theorem Cask.mono {n m : Nat} {c : PV} (h : Cask n c) (q : n ≤ m) : Cask m c := by
  obtain ⟨a, b, k, rfl, h1, h2⟩ := h
  exact ⟨a, b, k, rfl, h1, by omega⟩
theorem mulW {i j : Int} (a b : Nat) (h1 : -(2 ^ a) < i) (h2 : i < 2 ^ a) (h3 : -(2 ^ b) < j) (h4 : j < 2 ^ b) (h : a + b < 1000000 := by decide) (ha : 0 < a := by decide) (hb : 0 < b := by decide) : CMulW i j := by
  have e : ∀ n : Nat, ((2 ^ n : Nat) : Int) = (2 : Int) ^ n := fun n => by simp
  have := e a
  have := e b
  exact CMulW_of (a := a) (b := b) (by omega) (by omega) h ha hb
theorem pour {n : Nat} {c : PV} {t : Int} (h : Cask n c) (ht : 0 < t) (hw : t.natAbs.log2 < 9000) (hn : n < 2 ^ 40) : ∃ r c', out0 m__law_pour [c, .int t] = some (.int r, c') ∧ 0 ≤ r ∧ r < t ∧ Cask (n + 1) c' := by
  obtain ⟨a, b, k, rfl, h1, h2⟩ := h
  have hr : ∀ z : Int, 0 ≤ z % t ∧ z % t < t := fun z => ⟨Int.emod_nonneg _ (by omega), Int.emod_lt_of_pos _ ht⟩
  by_cases ha : 0 < a
  · refine ⟨a % t, .lst [.int (a / t), .int b, .int k], ?_, (hr _).1, (hr _).2, _, _, _, rfl, h1, by omega⟩
    have h3 : CDivW a t := ⟨ht, hw⟩
    have h4 : CPos a t := ht
    simp [m__law_pour, ms__law_pour, ha, h3, h4]
  · have m1 : CMulW 15485863 (k + 1) := mulW 24 50 (by decide) (by decide) (by omega) (by omega)
    have p1 : ∀ x : Int, CPos x 2305843009213693951 := fun x => by unfold CPos; decide
    have p2 : ∀ x : Int, CPos x 2305843009213693907 := fun x => by unfold CPos; decide
    have h4 : ∀ x : Int, CPos x t := fun x => ht
    have d1 : ∀ x : Int, CDivW x 65539 := fun x => by unfold CDivW; exact ⟨by decide, by decide +kernel⟩
    have b1 : ∀ x : Int, 0 ≤ x % 2305843009213693951 ∧ x % 2305843009213693951 < 2305843009213693951 := fun x => ⟨Int.emod_nonneg _ (by decide), Int.emod_lt_of_pos _ (by decide)⟩
    have b2 : ∀ x : Int, 0 ≤ x % 2305843009213693907 ∧ x % 2305843009213693907 < 2305843009213693907 := fun x => ⟨Int.emod_nonneg _ (by decide), Int.emod_lt_of_pos _ (by decide)⟩
    have m2 : ∀ x : Int, CMulW (x % 2305843009213693951) (x % 2305843009213693951) := fun x => mulW 62 62 (by have := b1 x; omega) (by have := b1 x; omega) (by have := b1 x; omega) (by have := b1 x; omega)
    have m3 : CMulW 113 (k + 1) := mulW 24 50 (by decide) (by decide) (by omega) (by omega)
    have m4 : ∀ x : Int, CMulW (x % 2305843009213693907) 32452867 := fun x => mulW 62 62 (by have := b2 x; omega) (by have := b2 x; omega) (by decide) (by decide)
    have key : ∃ z : Int, out0 m__law_pour [.lst [.int a, .int b, .int k], .int t] = some (.int (z % t), .lst [.int a, .int b, .int (k + 1)]) := by
      simp [m__law_pour, ms__law_pour, ha, m1, m2, m3, m4, p1, p2, h4, d1]
      exact ⟨_, rfl⟩
    obtain ⟨z, hz⟩ := key
    exact ⟨_, _, hz, (hr z).1, (hr z).2, _, _, _, rfl, by omega, by omega⟩
theorem log_lt {t : Int} (k : Nat) (h : t.natAbs < 2 ^ k) (hk : 0 < k := by decide) (h9 : k ≤ 9000 := by decide) : t.natAbs.log2 < 9000 := by
  by_cases z : t.natAbs = 0
  · rw [z]; decide
  · exact Nat.lt_of_lt_of_le ((Nat.log2_lt z).2 h) h9
theorem among {n : Nat} {c : PV} {l : List PV} (h : Cask n c) (hl : 0 < l.length) (hw : l.length < 2 ^ 60) (hn : n < 2 ^ 40) : ∃ p c', out0 m__law_among [c, .lst l] = some (p, c') ∧ p ∈ l ∧ Cask (n + 1) c' := by
  obtain ⟨r, c', e, h1, h2, h3⟩ := pour (t := (l.length : Int)) h (by omega) (log_lt 60 (by omega)) hn
  obtain ⟨k, rfl⟩ : ∃ k : Nat, r = k := ⟨r.toNat, by omega⟩
  have hlt : k < l.length := by omega
  refine ⟨l[k], c', ?_, List.getElem_mem _, h3⟩
  simp [m__law_among, ms__law_among, e, hlt]
theorem size {n : Nat} {c : PV} (h : Cask n c) (hn : n < 2 ^ 39) : ∃ r c', out0 m__law_size [c] = some (.int r, c') ∧ 1 ≤ r ∧ r ≤ 10 ^ 15 ∧ Cask (n + 2) c' := by
  obtain ⟨p, c1, e, hp, h1⟩ := among (l := [.int 1, .int 2, .int 3, .int 3, .int 5, .int 1000000000, .int 1000000000000000]) h (by decide) (by decide) (by omega)
  have hi : ∃ i : Int, p = .int i ∧ 1 ≤ i ∧ i ≤ 10 ^ 15 := by
    simp at hp
    rcases hp with rfl | rfl | rfl | rfl | rfl | rfl <;> exact ⟨_, rfl, by decide, by decide⟩
  obtain ⟨i, rfl, hi1, hi2⟩ := hi
  obtain ⟨r, c2, e2, h2, h3, h4⟩ := pour (t := i) h1 (by omega) (log_lt 60 (by omega)) (by omega)
  refine ⟨1 + r, c2, ?_, by omega, by omega, h4⟩
  have q1 : CPowB 10 9 := by unfold CPowB; decide +kernel
  have q2 : CPowB 10 15 := by unfold CPowB; decide +kernel
  simp [m__law_size, ms__law_size, e, e2, q1, q2]
theorem spot {n : Nat} {c : PV} (h : Cask n c) (hn : n < 2 ^ 39) : ∃ r c', out0 m__law_spot [c] = some (.int r, c') ∧ -(10 ^ 17) ≤ r ∧ r ≤ 10 ^ 17 ∧ Cask (n + 3) c' := by
  obtain ⟨r1, c1, e1, h1, h2, k1⟩ := pour (t := 9) h (by omega) (log_lt 60 (by decide)) (by omega)
  obtain ⟨r2, c2, e2, h3, h4, k2⟩ := pour (t := 100000000000000000) k1 (by omega) (log_lt 60 (by decide)) (by omega)
  obtain ⟨p, c3, e3, hp, k3⟩ := among (l := [.int 0, .int 0, .int 1, .int (-1), .int 2, .int (-3), .int (r1 - 4), .int (r2 - 10000000000000000)]) k2 (by simp) (by simp) (by omega)
  have hi : ∃ i : Int, p = .int i ∧ -(10 ^ 17) ≤ i ∧ i ≤ 10 ^ 17 := by
    simp at hp
    rcases hp with rfl | rfl | rfl | rfl | rfl | rfl | rfl <;> exact ⟨_, rfl, by omega, by omega⟩
  obtain ⟨i, rfl, hi1, hi2⟩ := hi
  refine ⟨i, c3, ?_, hi1, hi2, k3⟩
  have q1 : CPowB 10 17 := by unfold CPowB; decide +kernel
  have q2 : CPowB 10 16 := by unfold CPowB; decide +kernel
  simp [m__law_spot, ms__law_spot, e1, e2, e3, q1, q2]

/-! ### a drawn rise -/
theorem kAt_len {k : Bool} {l : List P2} {p : P2} : kAt k (l ++ [p]).length = !(kAt k l.length) := by
  rw [List.length_append]; rfl
theorem rise_loop {w0 m0 : PV} {first : Bool} : ∀ {l : List PV} {c : PV} {x y : Int} {L : List P2} {f : Bool} {t : Option PV} {n : Nat} {B : Int}, Cask n c → n + 2 * l.length < 2 ^ 39 → L.length + l.length < 10000 → Alt first (L ++ [(x, y)]) → f = kAt first L.length →
    (∀ p ∈ L ++ [(x, y)], Inb B p) →
    ∃ c' x' y' L' f' t', loopM (tN 7) lB1__law_rise l [some c, some m0, some w0, some (kd first), some (.lst [.int x, .int y]), some (.lst (L.map pt)), some (.bl f), t] =
        .nxt [some c', some m0, some w0, some (kd first), some (.lst [.int x', .int y']), some (.lst (L'.map pt)), some (.bl f'), t'] ∧
      Cask (n + 2 * l.length) c' ∧ L'.length = L.length + l.length ∧ Alt first L' ∧ ∀ p ∈ L', Inb (B + 10 ^ 15 * l.length) p
  | [], c, x, y, L, f, t, n, B, h, _, _, ha, hf, hb => ⟨c, x, y, L, f, t, rfl, h, rfl, ha.init, fun p hp => by
      have := hb p (List.mem_append_left _ hp)
      simpa using this⟩
  | q :: l, c, x, y, L, f, t, n, B, h, hn, hl, ha, hf, hb => by
    simp only [List.length_cons] at hn hl
    obtain ⟨s, c1, e1, s1, s2, k1⟩ := size h (by omega)
    have hx := hb (x, y) (by simp)
    have fin : ∀ (x' y' : Int), Go (!f) (x, y) (x', y') → Inb (B + 10 ^ 15) (x', y') → Alt first ((L ++ [(x, y)]) ++ [(x', y')]) ∧ (!f) = kAt first (L ++ [(x, y)]).length ∧ ∀ p ∈ (L ++ [(x, y)]) ++ [(x', y')], Inb (B + 10 ^ 15) p := fun x' y' hg hi => by
      refine ⟨?_, by rw [kAt_len, hf], fun p hp => ?_⟩
      · have := Alt.snoc ha (q := (x', y')) (by show Go (!(kAt first L.length)) _ _; rw [← hf]; exact hg)
        simpa using this
      · rcases List.mem_append.1 hp with hp | hp
        · have := hb p hp
          unfold Inb at *
          omega
        · simp at hp; subst hp; exact hi
    have el : ∀ z : Int, z + 10 ^ 15 * ((l.length : Nat) : Int) = (z - 10 ^ 15) + 10 ^ 15 * (((q :: l).length : Nat) : Int) := fun z => by simp; omega
    cases hf2 : f with
    | true =>
      obtain ⟨g1, g2, g3⟩ := fin x (y + s) (by rw [hf2]; simp; omega) (by unfold Inb at *; simp at *; omega)
      obtain ⟨c2, x2, y2, L2, f2, t2, e2, k2, n2, a2, b2⟩ := rise_loop (l := l) (L := L ++ [(x, y)]) (t := some q) k1 (by omega) (by simp; omega) g1 g2 g3
      rw [hf2] at e2
      refine ⟨c2, x2, y2, L2, f2, t2, ?_, k2.mono (by simp; omega), by rw [n2]; simp; omega, a2, fun p hp => ?_⟩
      · have hb : lB1__law_rise [some c, some m0, some w0, some (kd first), some (.lst [.int x, .int y]), some (.lst (L.map pt)), some (.bl true), some q] = .nxt [some c1, some m0, some w0, some (kd first), some (.lst [.int x, .int (y + s)]), some (.lst ((L ++ [(x, y)]).map pt)), some (.bl (!true)), some q] := by
          have hL : L.length < 16777216 := by omega
          simp [lB1__law_rise, e1, pt, hL]
        simp only [loopM_cons, tN_ap, stepE_some]
        show loopK (lB1__law_rise [some c, some m0, some w0, some (kd first), some (.lst [.int x, .int y]), some (.lst (L.map pt)), some (.bl true), some q]) _ _ _ = _
        rw [hb, loopK_nxt]
        exact e2
      · have := b2 p hp
        rw [el] at this
        have e3 : B + 10 ^ 15 - 10 ^ 15 = B := by omega
        rw [e3] at this
        exact this
    | false =>
      obtain ⟨g1, g2, g3⟩ := fin (x + s) y (by rw [hf2]; simp; omega) (by unfold Inb at *; simp at *; omega)
      obtain ⟨c2, x2, y2, L2, f2, t2, e2, k2, n2, a2, b2⟩ := rise_loop (l := l) (L := L ++ [(x, y)]) (t := some q) k1 (by omega) (by simp; omega) g1 g2 g3
      rw [hf2] at e2
      refine ⟨c2, x2, y2, L2, f2, t2, ?_, k2.mono (by simp; omega), by rw [n2]; simp; omega, a2, fun p hp => ?_⟩
      · have hb : lB1__law_rise [some c, some m0, some w0, some (kd first), some (.lst [.int x, .int y]), some (.lst (L.map pt)), some (.bl false), some q] = .nxt [some c1, some m0, some w0, some (kd first), some (.lst [.int (x + s), .int y]), some (.lst ((L ++ [(x, y)]).map pt)), some (.bl (!false)), some q] := by
          have hL : L.length < 16777216 := by omega
          simp [lB1__law_rise, e1, pt, hL]
        simp only [loopM_cons, tN_ap, stepE_some]
        show loopK (lB1__law_rise [some c, some m0, some w0, some (kd first), some (.lst [.int x, .int y]), some (.lst (L.map pt)), some (.bl false), some q]) _ _ _ = _
        rw [hb, loopK_nxt]
        exact e2
      · have := b2 p hp
        rw [el] at this
        have e3 : B + 10 ^ 15 - 10 ^ 15 = B := by omega
        rw [e3] at this
        exact this
theorem rise {n : Nat} {c : PV} {m : Int} (h : Cask n c) (hm : 1 ≤ m) (hm2 : m ≤ 300) (hn : n < 2 ^ 38) : ∃ r c', out0 m__law_rise [c, .int m] = some (Rs.pv r, c') ∧ r.Ok (10 ^ 17 + 10 ^ 15 * m) ∧ (∀ k C, r = .bent k C → (C.length : Int) ≤ m) ∧ Cask (n + 1000) c' := by
  obtain ⟨w, c1, e1, w1, w2, k1⟩ := pour (t := 8) h (by omega) (log_lt 60 (by decide)) (by omega)
  by_cases hw : w < 2
  · obtain ⟨v, c2, e2, v1, v2, k2⟩ := spot k1 (by omega)
    rcases (show w = 0 ∨ w = 1 by omega) with rfl | rfl
    · exact ⟨.level v, c2, by simp [m__law_rise, ms__law_rise, e1, e2, Rs.pv], by unfold Rs.Ok; omega, fun _ _ e => (by cases e), k2.mono (by omega)⟩
    · exact ⟨.plumb v, c2, by simp [m__law_rise, ms__law_rise, e1, e2, Rs.pv], by unfold Rs.Ok; omega, fun _ _ e => (by cases e), k2.mono (by omega)⟩
  · obtain ⟨p, c2, e2, hp, k2⟩ := among (l := [.str "flat", .str "steep"]) k1 (by decide) (by decide) (by omega)
    have hp : ∃ f, p = kd f := by
      simp at hp
      rcases hp with rfl | rfl
      · exact ⟨true, rfl⟩
      · exact ⟨false, rfl⟩
    obtain ⟨f, rfl⟩ := hp
    obtain ⟨x, c3, e3, x1, x2, k3⟩ := spot k2 (by omega)
    obtain ⟨y, c4, e4, y1, y2, k4⟩ := spot k3 (by omega)
    obtain ⟨u, c5, e5, u1, u2, k5⟩ := pour (t := m) k4 (by omega) (log_lt 60 (by omega)) (by omega)
    obtain ⟨k, rfl⟩ : ∃ k : Nat, u = k := ⟨u.toNat, by omega⟩
    obtain ⟨c6, x', y', L', f', t', e6, k6, n6, a6, b6⟩ := rise_loop (w0 := .int w) (m0 := .int m) (first := f) (l := rangeP 0 (k + 1)) (c := c5) (x := x) (y := y) (L := []) (f := f) (t := none) (B := 10 ^ 17) k5 (by rw [rangeP_len]; omega) (by rw [rangeP_len]; simp; omega) trivial rfl (fun p hp => by
      simp at hp; subst hp; unfold Inb; simp; omega)
    rw [rangeP_len] at k6 b6 n6
    simp at n6
    refine ⟨.bent f L', c6, ?_, ⟨?_, by omega, fun p hp => ?_, a6⟩, fun _ _ e => (by cases e; omega), k6.mono (by omega)⟩
    · have hr : iRange1 [.int (1 + (k : Int))] = some (rangeP 0 (k + 1)) := by
        rw [show (1 + (k : Int)) = ((k + 1 : Nat) : Int) by omega]
        exact iRange1_nat (by omega)
      simp at e6
      simp [m__law_rise, ms__law_rise, e1, e2, e3, e4, e5, hw, hr, e6, Rs.pv]
    · rintro rfl; simp at n6
    · have := b6 p hp
      unfold Inb at *
      omega

/-! ### the program's functions of rises -/
theorem v_is_whole {i : Int} : outV m_is_whole [.int i] = some (.bl true) := by
  simp [m_is_whole, ms_is_whole]
theorem v_is_tuple_of {l : List PV} {n : Int} : outV m_is_tuple_of [.tup l, .int n] = some (.bl (decide ((l.length : Int) = n))) := by
  simp [m_is_tuple_of, ms_is_tuple_of]
theorem v_is_tuple_ofP {p : P2} : outV m_is_tuple_of [pt p, .int 2] = some (.bl true) := by
  unfold pt
  rw [v_is_tuple_of]; rfl
theorem v_is_row {p : P2} : outV m_is_row [pt p, .int 2] = some (.bl true) := by
  obtain ⟨x, y⟩ := p
  have h1 : lcLoop [2] (tN 2) mYes cE1_is_row [.int x, .int y] [] [some (pt (x, y)), some (.int 2), none] = .ok (.lst [.bl true, .bl true]) [some (pt (x, y)), some (.int 2), none] := by
    rw [lcLoop_map (fun _ => some (.bl true)) (by simp)]
    · simp
    · intro p hp
      have hq : ∃ i : Int, p = .int i := by
        simp at hp
        rcases hp with rfl | rfl <;> exact ⟨_, rfl⟩
      obtain ⟨i, rfl⟩ := hq
      simp [wipeE, restE, cE1_is_row, v_is_whole]
  have h2 : gAll [.lst [.bl true, .bl true]] = some (.bl true) := rfl
  simp [m_is_row, ms_is_row, v_is_tuple_ofP, h1, h2]
theorem v_far_point {p : P2} (h : Inb (10 ^ 18) p) : outV m_is_far_point [pt p] = some (.bl true) := by
  unfold Inb at h
  have h1 : (p.1.natAbs : Int) ≤ 1000000000000000000 := by omega
  have h2 : (p.2.natAbs : Int) ≤ 1000000000000000000 := by omega
  simp [m_is_far_point, ms_is_far_point, v_is_row, h1, h2]
theorem v_other_kind {k : Bool} : outV m_other_kind [kd k] = some (kd (!k)) := by
  cases k <;> simp [m_other_kind, ms_other_kind]
def kb (p q : P2) : PV := if Go true p q then kd true else if Go false p q then kd false else .non
theorem v_kind_between {p q : P2} : outV m_kind_between [pt p, pt q] = some (kb p q) := by
  unfold kb
  by_cases h : p.2 = q.2 <;> by_cases h2 : p.1 < q.1 <;> by_cases h3 : p.1 = q.1 <;> by_cases h4 : p.2 < q.2 <;> simp [m_kind_between, ms_kind_between, h, h2, h3, h4]
theorem kb_go {k : Bool} {p q : P2} (h : Go k p q) : kb p q = kd k := by
  unfold kb
  cases k
  · rw [if_neg (by simp at *; omega), if_pos h]
  · rw [if_pos h]

/-! ### corners, rows: the program -/
theorem gAll_rep {n : Nat} : gAll [.lst (List.replicate n (.bl true))] = some (.bl true) := by
  have : List.replicate n (PV.bl true) = (List.replicate n true).map .bl := by simp
  rw [this, gAll_map]
  congr 2
  simp
theorem fm_const {α β : Type} {f : α → β} {c : PV} : ∀ l : List α, (l.map f).filterMap (fun _ => some c) = List.replicate l.length c
  | [] => rfl
  | a :: l => by
    have := fm_const (f := f) (c := c) l
    simp [List.replicate_succ, this]
theorem far_all {own : List Nat} {i : Nat} {me : Mo PV} {e : En} {l : List P2} (hl : l.length ≤ 16777216) (h : ∀ p ∈ l, ∃ e2, me ((wipeE e own).set i (some (pt p))) = .ok (.bl true) e2 ∧ restE own e e2 = e) :
    lcLoop own (tN i) mYes me (l.map pt) [] e = .ok (.lst (List.replicate l.length (.bl true))) e := by
  rw [lcLoop_map (fun _ => some (.bl true)) (by simpa using hl)]
  · rw [fm_const]; rfl
  · intro p hp
    obtain ⟨q, hq, rfl⟩ := List.mem_map.1 hp
    obtain ⟨e2, h1, h2⟩ := h q hq
    exact ⟨_, rfl, .inr ⟨_, rfl, _, _, rfl, h1, h2⟩⟩
theorem ac_loop {k : Bool} {l : List P2} (ha : Alt k l) : ∀ {m j : Nat} {t u : Option PV}, j + m < l.length ∨ m = 0 →
    ∃ t', loopM (tN 3) lB1_are_corners (rangeP j m) [some (kd k), some (.tup (l.map pt)), some (kd (kAt k j)), t, u] = .nxt [some (kd k), some (.tup (l.map pt)), some (kd (kAt k (j + m))), t', u]
  | 0, j, t, u, _ => ⟨t, by rw [rangeP_zero]; simp⟩
  | m + 1, j, t, u, h => by
    have hj : j + 1 < l.length := by omega
    have h1 : l[j]? = some (l[j]'(by omega)) := List.getElem?_eq_getElem _
    have h2 : l[j + 1]? = some (l[j + 1]'(by omega)) := List.getElem?_eq_getElem _
    have g := ha.get h1 h2
    obtain ⟨t', e⟩ := ac_loop ha (m := m) (j := j + 1) (t := some (.int j)) (u := u) (by omega)
    refine ⟨t', ?_⟩
    have hb : lB1_are_corners [some (kd k), some (.tup (l.map pt)), some (kd (kAt k j)), some (.int j), u] = .nxt [some (kd k), some (.tup (l.map pt)), some (kd (kAt k (j + 1))), some (.int j), u] := by
      have g2 := kb_go g
      have ek : (!(kAt k j)) = kAt k (j + 1) := rfl
      simp [lB1_are_corners, v_other_kind, h1, h2, v_kind_between, g2, ek]
    rw [rangeP_succ]
    simp only [loopM_cons, tN_ap, stepE_some]
    show loopK (lB1_are_corners [some (kd k), some (.tup (l.map pt)), some (kd (kAt k j)), some (.int j), u]) _ _ _ = _
    rw [hb, loopK_nxt]
    have : (((j + 1 : Nat)) : Int) = (j : Int) + 1 := by omega
    rw [this] at e
    rw [e, show j + (m + 1) = j + 1 + m by omega]
theorem v_are_corners {k : Bool} {l : List P2} (h1 : l ≠ []) (h2 : l.length ≤ 400) (h3 : ∀ p ∈ l, Inb (10 ^ 18) p) (h4 : Alt k l) : outV m_are_corners [kd k, .tup (l.map pt)] = some (.bl true) := by
  have hpos : 0 < l.length := List.length_pos_iff.2 h1
  have c1 : lcLoop [4] (tN 4) mYes cE1_are_corners (l.map pt) [] [some (kd k), some (.tup (l.map pt)), none, none, none] = .ok (.lst (List.replicate l.length (.bl true))) [some (kd k), some (.tup (l.map pt)), none, none, none] :=
    far_all (by omega) fun p hp => by simp [wipeE, restE, cE1_are_corners, v_far_point (h3 p hp)]
  obtain ⟨t', e⟩ := ac_loop h4 (m := l.length - 1) (j := 0) (t := none) (u := none) (by omega)
  have hr : iRange1 [.int ((l.length : Int) - 1)] = some (rangeP 0 (l.length - 1)) := by
    rw [show ((l.length : Int) - 1) = ((l.length - 1 : Nat) : Int) by omega]
    exact iRange1_nat (by omega)
  have hl1 : 1 ≤ (l.length : Int) := by omega
  have hl2 : (l.length : Int) ≤ 400 := by omega
  have e0 : kAt k 0 = k := rfl
  rw [e0] at e
  have e' : loopM (tN 3) lB1_are_corners (rangeP 0 (l.length - 1)) [some (kd k), some (.tup (l.map pt)), some (kd k), none, none] = .nxt [some (kd k), some (.tup (l.map pt)), some (kd (kAt k (0 + (l.length - 1)))), t', none] := e
  simp [m_are_corners, ms_are_corners, hl1, hl2, hr, c1, e', gAll_rep]
theorem v_is_rise {r : Rs} (h : r.Ok (10 ^ 18)) : outV m_is_rise [r.pv] = some (.bl true) := by
  cases r with
  | level v =>
    have h1 : (v.natAbs : Int) ≤ 1000000000000000000 := by unfold Rs.Ok at h; omega
    simp [m_is_rise, ms_is_rise, Rs.pv, v_is_tuple_of, v_is_whole, h1]
  | plumb v =>
    have h1 : (v.natAbs : Int) ≤ 1000000000000000000 := by unfold Rs.Ok at h; omega
    simp [m_is_rise, ms_is_rise, Rs.pv, v_is_tuple_of, v_is_whole, h1]
  | bent k l =>
    obtain ⟨h1, h2, h3, h4⟩ := h
    simp [m_is_rise, ms_is_rise, Rs.pv, v_is_tuple_of, v_are_corners h1 h2 h3 h4]

/-! ### the program's pieces, ranges, places -/
theorem v_is_short {i : Int} : outV m_is_short [.int i] = some (.bl (decide ((i.natAbs : Int) < 10 ^ 60))) := by
  simp [m_is_short, ms_is_short, v_is_whole]
theorem v_check_number {i : Int} (h : -(10 ^ 60) < i ∧ i < 10 ^ 60) : outV m_check_number [.int i] = some .non := by
  have h1 : (i.natAbs : Int) < 1000000000000000000000000000000000000000000000000000000000000 := by omega
  simp [m_check_number, ms_check_number, v_is_short, h1]
theorem v_holds {lo hi : Option Int} {i : Int} : outV m_holds [spanP (lo, hi), .int i] = some (.bl (leO lo i && geO hi i)) := by
  cases lo <;> cases hi <;> simp [m_holds, ms_holds, spanP]
  all_goals first
    | done
    | (split <;> (try simp_all) <;> (try omega))
theorem v_check_rise {r : Rs} (h : r.Ok (10 ^ 18)) : outV m_check_rise [r.pv] = some .non := by
  simp [m_check_rise, ms_check_rise, v_is_rise h]
theorem v_piece0 {k : Bool} {c : P2} : outV m_piece_between [kd k, .non, pt c] = some (Pc.pv ⟨k, across k c, none, some (along k c)⟩) := by
  cases k <;> simp [m_piece_between, ms_piece_between, Pc.pv]
theorem v_piece1 {k : Bool} {c : P2} {o : Option P2} : outV m_piece_between [kd k, pt c, optPt o] = some (Pc.pv ⟨k, across k c, some (along k c), o.map (along k)⟩) := by
  cases k <;> cases o <;> simp [m_piece_between, ms_piece_between, Pc.pv]
theorem ro_loop {r0 w0 : PV} {l : List P2} (hl : l.length ≤ 1000) : ∀ {s : List P2} {j : Nat} {k : Bool} {A : List Pc} {t : Option PV}, l.drop j = s → A.length ≤ j + 1 →
    ∃ k' t', loopM (tN 5) lB1_row_of (rangeP j s.length) [some r0, some w0, some (.tup (l.map pt)), some (kd k), some (.lst (A.map Pc.pv)), t] = .nxt [some r0, some w0, some (.tup (l.map pt)), k', some (.lst ((A ++ pcsP (!k) s).map Pc.pv)), t']
  | [], j, k, A, t, _, _ => ⟨some (kd k), t, by simp [rangeP_zero, pcsP]⟩
  | c :: s, j, k, A, t, hd, hA => by
    obtain ⟨h1, hd2⟩ := drop_cons hd
    have hj : j < l.length := (List.getElem?_eq_some_iff.1 h1).1
    have h2 : l[j + 1]? = s.head? := by rw [← hd2, List.head?_drop]
    obtain ⟨k', t', e⟩ := ro_loop (r0 := r0) (w0 := w0) hl (s := s) (j := j + 1) (k := !k) (A := A ++ [⟨!k, across (!k) c, some (along (!k) c), s.head?.map (along (!k))⟩]) (t := some (.int j)) hd2 (by simp; omega)
    refine ⟨k', t', ?_⟩
    have hA2 : A.length < 16777216 := by omega
    have hb : lB1_row_of [some r0, some w0, some (.tup (l.map pt)), some (kd k), some (.lst (A.map Pc.pv)), some (.int j)] = .nxt [some r0, some w0, some (.tup (l.map pt)), some (kd (!k)), some (.lst ((A ++ [(⟨!k, across (!k) c, some (along (!k) c), s.head?.map (along (!k))⟩ : Pc)]).map Pc.pv)), some (.int j)] := by
      cases hs : s.head? with
      | none =>
        rw [hs] at h2
        have h3 : ¬ ((j : Int) + 1 < (l.length : Int)) := by
          have := List.getElem?_eq_none_iff.1 h2
          omega
        have h4 := v_piece1 (k := !k) (c := c) (o := none)
        simp at h4
        simp [lB1_row_of, v_other_kind, h1, h3, h4, hA2]
      | some d =>
        rw [hs] at h2
        have h3 : (j : Int) + 1 < (l.length : Int) := by
          have := (List.getElem?_eq_some_iff.1 h2).1
          omega
        have h4 := v_piece1 (k := !k) (c := c) (o := some d)
        simp at h4
        simp [lB1_row_of, v_other_kind, h1, h2, h3, h4, hA2]
    rw [List.length_cons, rangeP_succ]
    simp only [loopM_cons, tN_ap, stepE_some]
    show loopK (lB1_row_of [some r0, some w0, some (.tup (l.map pt)), some (kd k), some (.lst (A.map Pc.pv)), some (.int j)]) _ _ _ = _
    rw [hb, loopK_nxt, show ((j : Int) + 1) = ((j + 1 : Nat) : Int) by omega, e]
    rw [List.append_assoc]
    rfl
theorem v_row_of {r : Rs} {B : Int} (h : r.Ok B) : outV m_row_of [r.pv] = some (.tup (r.pcs.map Pc.pv)) := by
  cases r with
  | level v => simp [m_row_of, ms_row_of, Rs.pv, Rs.pcs, Pc.pv]
  | plumb v => simp [m_row_of, ms_row_of, Rs.pv, Rs.pcs, Pc.pv]
  | bent k l =>
    obtain ⟨h1, h2, -, h4⟩ := h
    cases l with
    | nil => exact absurd rfl h1
    | cons c l =>
    obtain ⟨k', t', e⟩ := ro_loop (r0 := (Rs.bent k (c :: l)).pv) (w0 := kd k) (l := c :: l) (by omega) (s := c :: l) (j := 0) (k := k) (A := [⟨k, across k c, none, some (along k c)⟩]) (t := none) rfl (by simp)
    have hr : iRange1 [.int ((l.length : Int) + 1)] = some (rangeP 0 (l.length + 1)) := by
      rw [show ((l.length : Int) + 1) = ((l.length + 1 : Nat) : Int) by omega]
      exact iRange1_nat (by simp at h2; omega)
    rw [pcsP_eq h4] at e
    have e2 : (Rs.bent k (c :: l)).pcs = ⟨k, across k c, none, some (along k c)⟩ :: pcsL (!k) (some c) l := by
      show pcsL k none (c :: l) = _
      rw [pcsL_cons]; rfl
    rw [e2]
    simp [Rs.pv] at e
    simp [m_row_of, ms_row_of, Rs.pv, v_piece0, hr, e]
theorem v_span_of {b : Bool} {l : List Pc} (hn : l ≠ []) : outV m_span_of [.tup (l.map Pc.pv), kd b] = some (spanP (spanR b l)) := by
  obtain ⟨c, hc⟩ : ∃ c, l.head? = some c := by cases l with | nil => exact absurd rfl hn | cons c l => exact ⟨c, rfl⟩
  obtain ⟨d, hd⟩ : ∃ d, l.getLast? = some d := ⟨_, List.getLast?_eq_some_getLast hn⟩
  have h0 : l[0]? = some c := by cases l with | nil => cases hc | cons a l => exact hc
  have hlast : atI (l.map Pc.pv) (-1) = some d.pv := atI_lastN (by rw [List.getLast?_map, hd]; rfl)
  have e1 : ∀ c : Pc, pIx c.pv (.int 0) = some (kd c.k) := fun c => by simp [Pc.pv]
  have e2 : ∀ c : Pc, pIx c.pv (.int 1) = some (.int c.a) := fun c => by simp [Pc.pv]
  unfold spanR
  rw [hc, hd]
  by_cases q1 : c.k = b <;> by_cases q2 : d.k = b <;> simp [m_span_of, ms_span_of, h0, hlast, e1, e2, q1, q2, spanP]

/-! ### what goes with a number: the pieces found by halving -/
theorem v_extent_of {c : Pc} {b : Bool} : outV m_extent_of [c.pv, kd b] = some (spanP (ext b c)) := by
  obtain ⟨k, a, lo, hi⟩ := c
  by_cases q : k = b <;> simp [m_extent_of, ms_extent_of, ext, Pc.pv, spanP, q]
theorem fn_loop {b : Bool} {x B : Int} {r : Rs} (h : r.Ok B) : ∀ {n s e : Nat} {t : Option PV}, e - s < n → s ≤ ix b x r.pcs → ix b x r.pcs ≤ e → e ≤ r.pcs.length →
    ∃ t', wloop wT1_first_not_below wB1_first_not_below n [some (.tup (r.pcs.map Pc.pv)), some (kd b), some (.int x), some (.int (s : Int)), some (.int (e : Int)), t] =
      .nxt [some (.tup (r.pcs.map Pc.pv)), some (kd b), some (.int x), some (.int (ix b x r.pcs : Int)), some (.int (ix b x r.pcs : Int)), t']
  | 0, s, e, t, hn, _, _, _ => absurd hn (by omega)
  | n + 1, s, e, t, hn, h1, h2, h3 => by
    by_cases hse : s < e
    · obtain ⟨m, hmd⟩ : ∃ m, m = (s + e) / 2 := ⟨_, rfl⟩
      have hm : m < r.pcs.length := by omega
      obtain ⟨p, hp⟩ : ∃ p, r.pcs[m]? = some p := ⟨_, List.getElem?_eq_getElem hm⟩
      have hu := (rs_slice (b := b) (x := x) h).2 _ p hp
      have hx := v_extent_of (c := p) (b := b)
      have hh := v_holds (lo := none) (hi := (ext b p).2) (i := x)
      have e1 : pIx (spanP (ext b p)) (.int 1) = some (optP (ext b p).2) := by simp [spanP]
      have hme : ((s : Int) + (e : Int)) / 2 = (m : Int) := by omega
      have hd : CDivW ((s : Int) + (e : Int)) 2 := ⟨by decide, by decide +kernel⟩
      have hs : ((s : Int) < (e : Int)) := by omega
      have hc : wT1_first_not_below [some (.tup (r.pcs.map Pc.pv)), some (kd b), some (.int x), some (.int (s : Int)), some (.int (e : Int)), t] = .ok true [some (.tup (r.pcs.map Pc.pv)), some (kd b), some (.int x), some (.int (s : Int)), some (.int (e : Int)), t] := by
        simp [wT1_first_not_below, hs]
      unfold spanP at hh
      simp at hh
      cases hq : upto b x p with
      | true =>
        have hq2 : geO (ext b p).2 x = true := hq
        rw [hq2] at hh
        have hb : wB1_first_not_below [some (.tup (r.pcs.map Pc.pv)), some (kd b), some (.int x), some (.int (s : Int)), some (.int (e : Int)), t] = .nxt [some (.tup (r.pcs.map Pc.pv)), some (kd b), some (.int x), some (.int (s : Int)), some (.int (m : Int)), some (.int (m : Int))] := by
          simp [wB1_first_not_below, hd, hme, hp, hx, e1, hh]
        obtain ⟨t', e'⟩ := fn_loop h (b := b) (x := x) (n := n) (s := s) (e := m) (t := some (.int (m : Int))) (by omega) h1 (hu.1 hq) (by omega)
        exact ⟨t', (wl_go hc hb).trans e'⟩
      | false =>
        have hq2 : geO (ext b p).2 x = false := hq
        rw [hq2] at hh
        have hb : wB1_first_not_below [some (.tup (r.pcs.map Pc.pv)), some (kd b), some (.int x), some (.int (s : Int)), some (.int (e : Int)), t] = .nxt [some (.tup (r.pcs.map Pc.pv)), some (kd b), some (.int x), some (.int ((m : Int) + 1)), some (.int (e : Int)), some (.int (m : Int))] := by
          simp [wB1_first_not_below, hd, hme, hp, hx, e1, hh]
        have hlt : m < ix b x r.pcs := by
          rcases Nat.lt_or_ge m (ix b x r.pcs) with z | z
          · exact z
          · rw [hu.2 z] at hq; cases hq
        obtain ⟨t', e'⟩ := fn_loop h (b := b) (x := x) (n := n) (s := m + 1) (e := e) (t := some (.int (m : Int))) (by omega) (by omega) h2 h3
        exact ⟨t', (wl_go hc hb).trans e'⟩
    · have es : s = ix b x r.pcs := by omega
      have ee : e = ix b x r.pcs := by omega
      rw [es, ee]
      exact ⟨t, wl_end (by simp [wT1_first_not_below])⟩
theorem v_first_not_below {b : Bool} {x B : Int} {r : Rs} (h : r.Ok B) : outV m_first_not_below [.tup (r.pcs.map Pc.pv), kd b, .int x] = some (.int (ix b x r.pcs : Int)) := by
  have hl := pcs_len h
  have hi : ix b x r.pcs ≤ r.pcs.length := ix_le
  obtain ⟨t', e⟩ := fn_loop h (b := b) (x := x) (n := 1000000000000000000000000000000) (s := 0) (e := r.pcs.length) (t := none) (by omega) (by omega) hi (Nat.le_refl _)
  simp at e
  simp [m_first_not_below, ms_first_not_below, e]
def acrossP (H : List (Option Int × Option Int)) : PV := match H.head?, H.getLast? with
  | some h, some z => spanP (h.1, z.2)
  | _, _ => .non
theorem hits_inside {b : Bool} {x : Int} : ∀ {l : List Pc}, hits b x l = (l.filter fun c => leO (ext b c).1 x && geO (ext b c).2 x).map (ext (!b))
  | [] => rfl
  | c :: l => by
    rw [hits_cons, hit_ext, hits_inside]
    by_cases q : (leO (ext b c).1 x && geO (ext b c).2 x) = true
    · rw [if_pos q, List.filter_cons, if_pos q]; rfl
    · rw [if_neg q, List.filter_cons, if_neg q]; rfl
theorem cut_three {l : List PV} {i : Nat} (h : i ≤ l.length) : cutP l (some (i : Int)) (some ((i : Int) + 3)) = (l.drop i).take 3 := by
  unfold cutP
  rw [show ((i : Int) + 3) = ((i + 3 : Nat) : Int) by omega, HT.sIx_nat, HT.sIx_nat, Nat.min_eq_left h]
  apply List.ext_getElem?
  intro k
  rw [List.getElem?_take, List.getElem?_take]
  by_cases q : k < 3
  · by_cases q2 : k < min (i + 3) l.length - i
    · rw [if_pos q, if_pos q2]
    · rw [if_pos q, if_neg q2, List.getElem?_drop, List.getElem?_eq_none (by omega)]
  · rw [if_neg q, if_neg (by omega)]
theorem v_span_across {b : Bool} {x B : Int} {r : Rs} (h : r.Ok B) : outV m_span_across [.tup (r.pcs.map Pc.pv), kd b, .int x] = some (acrossP (hits b x r.pcs)) := by
  have hl := pcs_len h
  have hi : ix b x r.pcs ≤ r.pcs.length := ix_le
  have ef := v_first_not_below h (b := b) (x := x)
  have eo := v_other_kind (k := b)
  rw [(rs_slice (b := b) (x := x) h).1]
  have ecut : cutP (r.pcs.map Pc.pv) (some (ix b x r.pcs : Int)) (some ((ix b x r.pcs : Int) + 3)) = ((r.pcs.drop (ix b x r.pcs)).take 3).map Pc.pv := by
    rw [cut_three (by simpa using hi), List.map_take, List.map_drop]
  generalize hS : (r.pcs.drop (ix b x r.pcs)).take 3 = S at *
  have hSl : S.length ≤ 3 := by rw [← hS, List.length_take]; omega
  rw [hits_inside]
  have hlc : lcLoop [6] (tN 6) cT1_span_across (mVar 6) (S.map Pc.pv) [] [some (.tup (r.pcs.map Pc.pv)), some (kd b), some (.int x), some (.int (ix b x r.pcs : Int)), none, none, none] =
      .ok (.lst (S.filterMap fun c => if (leO (ext b c).1 x && geO (ext b c).2 x) = true then some c.pv else none)) [some (.tup (r.pcs.map Pc.pv)), some (kd b), some (.int x), some (.int (ix b x r.pcs : Int)), none, none, none] := by
    refine lc_fil Pc.pv _ (by omega) fun c hc => ?_
    have hx := v_extent_of (c := c) (b := b)
    have hh := v_holds (lo := (ext b c).1) (hi := (ext b c).2) (i := x)
    have hh : outV m_holds [spanP (ext b c), .int x] = some (.bl (leO (ext b c).1 x && geO (ext b c).2 x)) := hh
    refine ⟨[some (.tup (r.pcs.map Pc.pv)), some (kd b), some (.int x), some (.int (ix b x r.pcs : Int)), none, none, some c.pv], rfl, ?_⟩
    cases hq : (leO (ext b c).1 x && geO (ext b c).2 x) with
    | true =>
      rw [hq] at hh
      refine .inr ⟨c.pv, by rw [if_pos rfl], [some (.tup (r.pcs.map Pc.pv)), some (kd b), some (.int x), some (.int (ix b x r.pcs : Int)), none, none, some c.pv], [some (.tup (r.pcs.map Pc.pv)), some (kd b), some (.int x), some (.int (ix b x r.pcs : Int)), none, none, some c.pv], ?_, rfl, rfl⟩
      simp [cT1_span_across, hx, hh]
    | false =>
      rw [hq] at hh
      refine .inl ⟨by rw [if_neg (by decide)], [some (.tup (r.pcs.map Pc.pv)), some (kd b), some (.int x), some (.int (ix b x r.pcs : Int)), none, none, some c.pv], ?_, rfl⟩
      simp [cT1_span_across, hx, hh]
  have hfm : ∀ l : List Pc, (l.filterMap fun c => if (leO (ext b c).1 x && geO (ext b c).2 x) = true then some c.pv else none) = (l.filter fun c => leO (ext b c).1 x && geO (ext b c).2 x).map Pc.pv := by
    intro l
    induction l with
    | nil => rfl
    | cons c l ih =>
      by_cases q : (leO (ext b c).1 x && geO (ext b c).2 x) = true
      · rw [List.filterMap_cons, if_pos q, ih, List.filter_cons, if_pos q]; rfl
      · rw [List.filterMap_cons, if_neg q, ih, List.filter_cons, if_neg q]
  rw [hfm] at hlc
  generalize (S.filter fun c => leO (ext b c).1 x && geO (ext b c).2 x) = I at hlc
  unfold acrossP
  cases I with
  | nil =>
    simp at hlc
    simp [m_span_across, ms_span_across, ef, ecut, hlc]
  | cons h0 t =>
    obtain ⟨z, hz⟩ : ∃ z, (h0 :: t).getLast? = some z := ⟨_, List.getLast?_eq_some_getLast (by simp)⟩
    have hlast : atI ((h0 :: t).map Pc.pv) (-1) = some z.pv := atI_lastN (by rw [List.getLast?_map, hz]; rfl)
    have e1 : ∀ s, pIx (spanP s) (.int 0) = some (optP s.1) := fun s => by simp [spanP]
    have e2 : ∀ s, pIx (spanP s) (.int 1) = some (optP s.2) := fun s => by simp [spanP]
    have x1 := v_extent_of (c := h0) (b := !b)
    have x2 := v_extent_of (c := z) (b := !b)
    rw [List.getLast?_map, hz]
    simp at hlc hlast
    simp [m_span_across, ms_span_across, ef, ecut, hlc, eo, hlast, x1, x2, e1, e2]
    rfl

theorem pcs_len {r : Rs} {B : Int} (h : r.Ok B) : r.pcs.length ≤ 401 := by
  have key : ∀ (l : List P2) (k : Bool) (low : Option P2), (pcsL k low l).length ≤ l.length + 1 := by
    intro l
    induction l with
    | nil => intro k low; cases low <;> simp [pcsL]
    | cons c l ih => intro k low; rw [pcsL_cons]; simp; exact ih _ _
  cases r with
  | level v => simp [Rs.pcs]
  | plumb v => simp [Rs.pcs]
  | bent k l =>
    have := key l k none
    have := h.2.1
    show (pcsL k none l).length ≤ 401
    omega
def OnW (w : Str) (b : Bool) : Prop := (b = true ∧ w = "on") ∨ (b = false ∧ (w = "above" ∨ w = "below"))
theorem v_place_w {r : Rs} {B x y : Int} (h : r.Ok B) : ∃ w, outV m_place_by [.tup (r.pcs.map Pc.pv), .int x, .int y] = some (.str w) ∧ OnW w (r.on (x, y)) := by
  obtain ⟨A0, A1⟩ := rs_hits (b := true) (x := x) h
  have es := v_span_across (b := true) (x := x) h
  have ef := v_span_of (b := true) (pcs_ne h)
  simp at es ef
  cases hh : (hits true x r.pcs).head? with
  | none =>
    have hnil : hits true x r.pcs = [] := List.head?_eq_none_iff.1 hh
    have hoff := A0 hnil (x, y) rfl
    rw [hnil] at es
    simp [acrossP] at es
    have e0 : pIx (spanP (spanR true r.pcs)) (.int 0) = some (optP (spanR true r.pcs).1) := by simp [spanP]
    rw [hoff]
    cases hl : (spanR true r.pcs).1 with
    | none =>
      rw [hl] at e0
      exact ⟨"below", by simp [m_place_by, ms_place_by, es, ef, e0], .inr ⟨rfl, by simp⟩⟩
    | some j =>
      rw [hl] at e0
      by_cases hj : x < j
      · exact ⟨"above", by simp [m_place_by, ms_place_by, es, ef, e0, hj], .inr ⟨rfl, by simp⟩⟩
      · exact ⟨"below", by simp [m_place_by, ms_place_by, es, ef, e0, hj], .inr ⟨rfl, by simp⟩⟩
  | some h0 =>
    obtain ⟨z, hz⟩ : ∃ z, (hits true x r.pcs).getLast? = some z := by
      cases q : (hits true x r.pcs).getLast? with
      | some z => exact ⟨z, rfl⟩
      | none => rw [List.getLast?_eq_none_iff.1 q] at hh; cases hh
    have a1 := A1 h0 z hh hz (x, y) rfl
    have ea : acrossP (hits true x r.pcs) = spanP (h0.1, z.2) := by unfold acrossP; rw [hh, hz]
    rw [ea] at es
    have e1 := v_holds (lo := h0.1) (hi := z.2) (i := y)
    have e2 := v_holds (lo := none) (hi := z.2) (i := y)
    have e3 : pIx (spanP (h0.1, z.2)) (.int 1) = some (optP z.2) := by simp [spanP]
    have e4 : isNn (spanP (h0.1, z.2)) = some false := rfl
    simp at a1
    have e2' : outV m_holds [.tup [.non, optP z.2], .int y] = some (.bl (geO z.2 y)) := by simpa [spanP] using e2
    cases q1 : leO h0.1 y <;> cases q2 : geO z.2 y <;> rw [q1, q2] at a1 e1 <;> rw [q2] at e2' <;> simp at a1 e1 <;> rw [a1]
    · exact ⟨"above", by simp [m_place_by, ms_place_by, es, e1, e2', e3, e4], .inr ⟨rfl, by simp⟩⟩
    · exact ⟨"below", by simp [m_place_by, ms_place_by, es, e1, e2', e3, e4], .inr ⟨rfl, by simp⟩⟩
    · exact ⟨"above", by simp [m_place_by, ms_place_by, es, e1, e2', e3, e4], .inr ⟨rfl, by simp⟩⟩
    · exact ⟨"on", by simp [m_place_by, ms_place_by, es, e1, e2', e3, e4], .inl ⟨rfl, rfl⟩⟩
theorem v_place_by {r : Rs} {B x y : Int} (h : r.Ok B) : ∃ w, outV m_place_by [.tup (r.pcs.map Pc.pv), .int x, .int y] = some (.str w) ∧ eqD (.str w) (.str "on") = some (r.on (x, y)) := by
  obtain ⟨w, e, q⟩ := v_place_w (x := x) (y := y) h
  refine ⟨w, e, ?_⟩
  rcases q with ⟨h1, rfl⟩ | ⟨h1, rfl | rfl⟩ <;> rw [h1] <;> simp

/-! ### the law's own pieces, and what is on them -/
theorem lp_loop {r0 rm : PV} : ∀ {l : List P2} {k : Bool} {low : Option P2} {A : List Pc} {t u v : Option PV}, l ≠ [] ∨ low ≠ none → A.length + l.length < 10000 →
    ∃ k' t' u' v', loopM (tT [4, 5]) lB1__law_pieces (zipP (optPt low :: (l.map pt ++ [.non])) (l.map pt ++ [.non])) [some r0, some (.lst (A.map Pc.pv)), some (.bl k), some rm, t, u, v] =
      .nxt [some r0, some (.lst ((A ++ pcsL k low l).map Pc.pv)), some (.bl k'), some rm, t', u', v']
  | [], k, low, A, t, u, v, hn, hl => by
    cases low with
    | none => simp at hn
    | some c =>
      have hA : A.length < 16777216 := by omega
      refine ⟨!k, some (pt c), some .non, some (pt c), ?_⟩
      have hb : lB1__law_pieces [some r0, some (.lst (A.map Pc.pv)), some (.bl k), some rm, some (pt c), some .non, v] = .nxt [some r0, some (.lst ((A ++ pcsL k (some c) []).map Pc.pv)), some (.bl (!k)), some rm, some (pt c), some .non, some (pt c)] := by
        cases k <;> simp [lB1__law_pieces, pcsL, Pc.pv, hA]
      simp only [List.map_nil, List.nil_append, zipP, loopM_cons, tT_ap, setAll_cons, setAll_nil, stepE_some, List.set_cons_succ, List.set_cons_zero, optPt_some]
      rw [hb, loopK_nxt]
      rfl
  | c :: l, k, low, A, t, u, v, hn, hl => by
    simp only [List.length_cons] at hl
    have hA : A.length < 16777216 := by omega
    obtain ⟨k', t', u', v', e⟩ := lp_loop (r0 := r0) (rm := rm) (l := l) (k := !k) (low := some c) (A := A ++ [(⟨k, across k c, low.map (along k), some (along k c)⟩ : Pc)]) (t := some (optPt low)) (u := some (pt c)) (v := some (pt c)) (.inr (by simp)) (by simp; omega)
    refine ⟨k', t', u', v', ?_⟩
    have hb : lB1__law_pieces [some r0, some (.lst (A.map Pc.pv)), some (.bl k), some rm, some (optPt low), some (pt c), v] = .nxt [some r0, some (.lst ((A ++ [(⟨k, across k c, low.map (along k), some (along k c)⟩ : Pc)]).map Pc.pv)), some (.bl (!k)), some rm, some (optPt low), some (pt c), some (pt c)] := by
      cases k <;> cases low <;> simp [lB1__law_pieces, Pc.pv, hA]
    simp only [List.map_cons, List.cons_append, zipP, loopM_cons, tT_ap, setAll_cons, setAll_nil, stepE_some, List.set_cons_succ, List.set_cons_zero]
    rw [hb, loopK_nxt]
    have e2 : (A ++ [(⟨k, across k c, low.map (along k), some (along k c)⟩ : Pc)]) ++ pcsL (!k) (some c) l = A ++ pcsL k low (c :: l) := by
      have : pcsL k low (c :: l) = ⟨k, across k c, low.map (along k), some (along k c)⟩ :: pcsL (!k) (some c) l := by cases low <;> rfl
      rw [this]; simp
    rw [e2] at e
    exact e
theorem v_law_pieces {r : Rs} {B : Int} (h : r.Ok B) : outV m__law_pieces [r.pv] = some (.lst (r.pcs.map Pc.pv)) := by
  cases r with
  | level v => simp [m__law_pieces, ms__law_pieces, Rs.pv, Rs.pcs, Pc.pv]
  | plumb v => simp [m__law_pieces, ms__law_pieces, Rs.pv, Rs.pcs, Pc.pv]
  | bent k l =>
    obtain ⟨h1, h2, -, -⟩ := h
    obtain ⟨k', t', u', v', e⟩ := lp_loop (r0 := (Rs.bent k l).pv) (rm := .lst (.non :: (l.map pt ++ [.non]))) (l := l) (k := k) (low := none) (A := []) (t := none) (u := none) (v := none) (.inl h1) (by simp; omega)
    have hl : 1 + l.length ≤ 16777216 := by omega
    have hl2 : l.length + 1 + 1 ≤ 16777216 := by omega
    simp [Rs.pv] at e
    simp [m__law_pieces, ms__law_pieces, Rs.pv, Rs.pcs, hl, hl2, e]
theorem v_law_holds {lo hi : Option Int} {i : Int} : outV m__law_holds [optP lo, optP hi, .int i] = some (.bl (leO lo i && geO hi i)) := by
  cases lo <;> cases hi <;> simp [m__law_holds, ms__law_holds]
  all_goals first
    | done
    | (split <;> (try simp_all) <;> (try omega))
theorem lo_loop {r0 : PV} {x y : Int} : ∀ {l : List Pc} {a b c d : Option PV}, ∃ e', loopM (tT [3, 4, 5, 6]) lB1__law_is_on (l.map Pc.pv) [some r0, some (.int x), some (.int y), a, b, c, d] = if (l.any fun z => z.on (x, y)) = true then .ret (.bl true) e' else .nxt e'
  | [], a, b, c, d => ⟨_, by simp; rfl⟩
  | p :: l, a, b, c, d => by
    obtain ⟨k, here, lo, hi⟩ := p
    obtain ⟨e', e⟩ := lo_loop (r0 := r0) (x := x) (y := y) (l := l) (a := some (kd k)) (b := some (.int here)) (c := some (optP lo)) (d := some (optP hi))
    have hs : loopM (tT [3, 4, 5, 6]) lB1__law_is_on (List.map Pc.pv (⟨k, here, lo, hi⟩ :: l)) [some r0, some (.int x), some (.int y), a, b, c, d] = loopK (lB1__law_is_on [some r0, some (.int x), some (.int y), some (kd k), some (.int here), some (optP lo), some (optP hi)]) (tT [3, 4, 5, 6]) lB1__law_is_on (l.map Pc.pv) := by
      simp only [List.map_cons, loopM_cons, Pc.pv, tT_ap, setAll_cons, setAll_nil, stepE_some, List.set_cons_succ, List.set_cons_zero]
    rw [hs]
    by_cases ho : Pc.on ⟨k, here, lo, hi⟩ (x, y) = true
    · refine ⟨[some r0, some (.int x), some (.int y), some (kd k), some (.int here), some (optP lo), some (optP hi)], ?_⟩
      have hb : lB1__law_is_on [some r0, some (.int x), some (.int y), some (kd k), some (.int here), some (optP lo), some (optP hi)] = .ret (.bl true) [some r0, some (.int x), some (.int y), some (kd k), some (.int here), some (optP lo), some (optP hi)] := by
        unfold Pc.on at ho
        simp only [Bool.and_eq_true, decide_eq_true_eq] at ho
        obtain ⟨h1, h2, h3⟩ := ho
        cases k <;> simp at h1 h2 h3 <;> simp [lB1__law_is_on, v_law_holds, h1, h2, h3]
      rw [hb, loopK_ret, List.any_cons, ho]
      rfl
    · refine ⟨e', ?_⟩
      have hb : lB1__law_is_on [some r0, some (.int x), some (.int y), some (kd k), some (.int here), some (optP lo), some (optP hi)] = .nxt [some r0, some (.int x), some (.int y), some (kd k), some (.int here), some (optP lo), some (optP hi)] := by
        have ho2 := ho
        unfold Pc.on at ho2
        cases k with
        | true =>
          by_cases h1 : y = here
          · simp [h1] at ho2
            cases h2 : leO lo x <;> cases h3 : geO hi x <;> simp [h2, h3] at ho2 <;> simp [lB1__law_is_on, v_law_holds, h1, h2, h3]
          · simp [lB1__law_is_on, v_law_holds, h1]
        | false =>
          by_cases h1 : x = here
          · simp [h1] at ho2
            cases h2 : leO lo y <;> cases h3 : geO hi y <;> simp [h2, h3] at ho2 <;> simp [lB1__law_is_on, v_law_holds, h1, h2, h3]
          · simp [lB1__law_is_on, v_law_holds, h1]
      rw [hb, loopK_nxt, e, List.any_cons]
      simp only [Bool.not_eq_true] at ho
      rw [ho, Bool.false_or]
theorem v_law_is_on {r : Rs} {B x y : Int} (h : r.Ok B) : outV m__law_is_on [r.pv, .int x, .int y] = some (.bl (r.on (x, y))) := by
  obtain ⟨e', e⟩ := lo_loop (r0 := r.pv) (x := x) (y := y) (l := r.pcs) (a := none) (b := none) (c := none) (d := none)
  unfold Rs.on
  generalize hb : (r.pcs.any fun z => z.on (x, y)) = b at *
  cases b with
  | true => simp at e; simp [m__law_is_on, ms__law_is_on, v_law_pieces h, e]
  | false => simp at e; simp [m__law_is_on, ms__law_is_on, v_law_pieces h, e]

/-! ### corners of rises, points near them -/
def rims : Rs → List P2
  | .level v => [(0, v)]
  | .plumb v => [(v, 0)]
  | .bent _ l => l
theorem v_rims {r : Rs} : outV m__law_rims [r.pv] = some (.lst ((rims r).map pt)) := by
  cases r with
  | level v => simp [m__law_rims, ms__law_rims, Rs.pv, rims, pt]
  | plumb v => simp [m__law_rims, ms__law_rims, Rs.pv, rims, pt]
  | bent k l => simp [m__law_rims, ms__law_rims, Rs.pv, rims]
theorem rims_in {r : Rs} {B : Int} (h : r.Ok B) : ∀ p ∈ rims r, Inb B p := by
  cases r with
  | level v =>
    intro p hp
    have hp : p = (0, v) := by simpa [rims] using hp
    subst hp
    unfold Rs.Ok at h; dsimp only at h
    unfold Inb; dsimp only; omega
  | plumb v =>
    intro p hp
    have hp : p = (v, 0) := by simpa [rims] using hp
    subst hp
    unfold Rs.Ok at h; dsimp only at h
    unfold Inb; dsimp only; omega
  | bent k l => exact h.2.2.1
theorem rims_len {r : Rs} {B : Int} (h : r.Ok B) : 0 < (rims r).length ∧ (rims r).length ≤ 400 := by
  cases r with
  | level v => simp [rims]
  | plumb v => simp [rims]
  | bent k l => exact ⟨List.length_pos_iff.2 h.1, h.2.1⟩
theorem amongP {n : Nat} {c : PV} {l : List P2} (h : Cask n c) (hl : 0 < l.length) (hw : l.length < 2 ^ 60) (hn : n < 2 ^ 40) : ∃ p c', out0 m__law_among [c, .lst (l.map pt)] = some (pt p, c') ∧ p ∈ l ∧ Cask (n + 1) c' := by
  obtain ⟨q, c', e, hq, k⟩ := among (l := l.map pt) h (by simpa using hl) (by simpa using hw) hn
  obtain ⟨p, hp, rfl⟩ := List.mem_map.1 hq
  exact ⟨p, c', e, hp, k⟩
theorem amongI {n : Nat} {c : PV} {l : List Int} (h : Cask n c) (hl : 0 < l.length) (hw : l.length < 2 ^ 60) (hn : n < 2 ^ 40) : ∃ i c', out0 m__law_among [c, .lst (l.map .int)] = some (.int i, c') ∧ i ∈ l ∧ Cask (n + 1) c' := by
  obtain ⟨q, c', e, hq, k⟩ := among (l := l.map .int) h (by simpa using hl) (by simpa using hw) hn
  obtain ⟨p, hp, rfl⟩ := List.mem_map.1 hq
  exact ⟨p, c', e, hp, k⟩

theorem ln_loop {r0 y0 : PV} {S : List P2} {B : Int} (hS : 0 < S.length) (hS2 : S.length < 10000) (hB : ∀ p ∈ S, Inb B p) : ∀ {l : List PV} {c : PV} {L : List P2} {a b d e t : Option PV} {n : Nat}, Cask n c → n + 5 * l.length < 2 ^ 39 → L.length + 2 * l.length < 10000 → (∀ p ∈ L, Inb (B + 10 ^ 18) p) →
    ∃ (c' : PV) (L' : List P2) (a' b' d' e' t' : Option PV), loopM (tN 5) lB2__law_near l [some c, some r0, some (.lst (S.map pt)), some y0, some (.lst (L.map pt)), t, a, b, d, e] = .nxt [some c', some r0, some (.lst (S.map pt)), some y0, some (.lst (L'.map pt)), t', a', b', d', e'] ∧
      Cask (n + 5 * l.length) c' ∧ L'.length = L.length + 2 * l.length ∧ ∀ p ∈ L', Inb (B + 10 ^ 18) p
  | [], c, L, a, b, d, e, t, n, h, _, _, hL => ⟨c, L, a, b, d, e, t, rfl, h, rfl, hL⟩
  | q :: l, c, L, a, b, d, e, t, n, h, hn, hl, hL => by
    simp only [List.length_cons] at hn hl
    obtain ⟨p, c1, e1, hp, k1⟩ := amongP h hS (by omega) (by omega)
    obtain ⟨i, c2, e2, hi, k2⟩ := amongI (l := [0, 0, 1, -1, 2, -5, 1000000000000000000]) k1 (by decide) (by decide) (by omega)
    obtain ⟨j, c3, e3, hj, k3⟩ := amongI (l := [0, 0, 1, -1, 3, -1000000000000000000]) k2 (by decide) (by decide) (by omega)
    obtain ⟨p2, c4, e4, hp2, k4⟩ := amongP k3 hS (by omega) (by omega)
    obtain ⟨p3, c5, e5, hp3, k5⟩ := amongP k4 hS (by omega) (by omega)
    have hi2 : -(10 ^ 18) ≤ i ∧ i ≤ 10 ^ 18 := by simp at hi; omega
    have hj2 : -(10 ^ 18) ≤ j ∧ j ≤ 10 ^ 18 := by simp at hj; omega
    have b1 := hB p hp
    have b2 := hB p2 hp2
    have b3 := hB p3 hp3
    obtain ⟨c', L', a', b', d', e', t', e6, k6, n6, hL6⟩ := ln_loop (r0 := r0) (y0 := y0) hS hS2 hB (l := l) (L := L ++ [(p.1 + i, p.2 + j), (p2.1, p3.2)]) (a := some (.int p.1)) (b := some (.int p.2)) (d := some (.int i)) (e := some (.int j)) (t := some q) k5 (by omega) (by simp; omega) (fun w hw => by
      rcases List.mem_append.1 hw with hw | hw
      · exact hL w hw
      · simp at hw
        unfold Inb at *
        rcases hw with rfl | rfl <;> dsimp only <;> omega)
    refine ⟨c', L', a', b', d', e', t', ?_, k6.mono (by simp; omega), by rw [n6]; simp; omega, hL6⟩
    have hLl : L.length < 16777216 := by omega
    have hLl2 : L.length + 1 < 16777216 := by omega
    have p18 : CPowB 10 18 := by unfold CPowB; decide +kernel
    simp at e2 e3
    have hb : lB2__law_near [some c, some r0, some (.lst (S.map pt)), some y0, some (.lst (L.map pt)), some q, a, b, d, e] = .nxt [some c5, some r0, some (.lst (S.map pt)), some y0, some (.lst ((L ++ [(p.1 + i, p.2 + j), (p2.1, p3.2)]).map pt)), some q, some (.int p.1), some (.int p.2), some (.int i), some (.int j)] := by
      simp [lB2__law_near, e1, e2, e3, e4, e5, p18, hLl, hLl2, pt]
    simp only [loopM_cons, tN_ap, stepE_some]
    show loopK (lB2__law_near [some c, some r0, some (.lst (S.map pt)), some y0, some (.lst (L.map pt)), some q, a, b, d, e]) _ _ _ = _
    rw [hb, loopK_nxt]
    exact e6

theorem lnear {n : Nat} {c : PV} {r : Rs} (h : Cask n c) (hn : n < 2 ^ 38) (hr : r.Ok (10 ^ 18)) : ∃ (L : List P2) (c' : PV), out0 m__law_near [c, .lst [r.pv]] = some (.lst (L.map pt), c') ∧ L.length ≤ 16 ∧ (∀ p ∈ L, Inb (2 * 10 ^ 18) p) ∧ Cask (n + 40) c' := by
  obtain ⟨h1, h2⟩ := rims_len hr
  obtain ⟨c', L', a', b', d', e', t', e, k, n2, hL⟩ := ln_loop (r0 := .lst [r.pv]) (y0 := r.pv) (S := rims r) h1 (by omega) (rims_in hr) (l := rangeP 0 8) (c := c) (L := []) (a := none) (b := none) (d := none) (e := none) (t := none) h (by rw [rangeP_len]; omega) (by rw [rangeP_len]; simp) (fun p hp => by cases hp)
  rw [rangeP_len] at k n2
  refine ⟨L', c', ?_, by rw [n2]; simp, fun p hp => by have := hL p hp; unfold Inb at *; omega, k⟩
  have hrg : iRange1 [.int 8] = some (rangeP 0 8) := iRange1_nat (n := 8) (by decide)
  have hl : (rims r).length ≤ 16777216 := by omega
  simp at e
  have hb : loopM (tN 3) lB1__law_near [r.pv] [some c, some (.lst [r.pv]), some (.lst []), none, none, none, none, none, none, none] = .nxt [some c, some (.lst [r.pv]), some (.lst ((rims r).map pt)), some r.pv, none, none, none, none, none, none] := by
    simp [lB1__law_near, v_rims, hl]
  simp [m__law_near, ms__law_near, hb, hrg, e]

theorem v_least {l : List (Option Int)} {s : Option Int} (h1 : ∃ t ∈ l, t = s) (h2 : ∀ v, s = some v → ∀ t ∈ l, ∃ w, t = some w ∧ v ≤ w) : outV m__law_least [.lst (l.map optP)] = some (optP s) := by
  obtain ⟨t, ht, rfl⟩ := h1
  cases t with
  | none => simp [m__law_least, ms__law_least, inD_none, ht]
  | some v =>
    have hn : none ∉ l := fun q => by obtain ⟨w, e, _⟩ := h2 v rfl none q; cases e
    obtain ⟨ns, rfl⟩ : ∃ ns : List Int, l = ns.map some := by
      refine ⟨l.filterMap id, ?_⟩
      have : ∀ k : List (Option Int), none ∉ k → k = (k.filterMap id).map some := by
        intro k
        induction k with
        | nil => intro _; rfl
        | cons a k ih =>
          intro hk
          cases a with
          | none => exact absurd List.mem_cons_self hk
          | some i =>
            have := ih fun q => hk (List.mem_cons_of_mem _ q)
            rw [List.filterMap_cons]
            simp only [id, List.map_cons]
            rw [← this]
      exact this l hn
    have hm := gMin_is (l := ns) (v := v) (by simpa using ht) fun i hi => by
      obtain ⟨w, e, hw⟩ := h2 v rfl (some i) (List.mem_map.2 ⟨i, hi, rfl⟩)
      cases e; exact hw
    have hi := inD_none (l := ns.map some)
    have hd : decide (none ∈ ns.map some) = false := by simp
    rw [hd] at hi
    have e2 : (ns.map some).map optP = ns.map PV.int := by rw [List.map_map]; rfl
    rw [e2] at hi ⊢
    simp [m__law_least, ms__law_least, hi, hm]
theorem v_most {l : List (Option Int)} {s : Option Int} (h1 : ∃ t ∈ l, t = s) (h2 : ∀ v, s = some v → ∀ t ∈ l, ∃ w, t = some w ∧ w ≤ v) : outV m__law_most [.lst (l.map optP)] = some (optP s) := by
  obtain ⟨t, ht, rfl⟩ := h1
  cases t with
  | none => simp [m__law_most, ms__law_most, inD_none, ht]
  | some v =>
    have hn : none ∉ l := fun q => by obtain ⟨w, e, _⟩ := h2 v rfl none q; cases e
    obtain ⟨ns, rfl⟩ : ∃ ns : List Int, l = ns.map some := by
      refine ⟨l.filterMap id, ?_⟩
      have : ∀ k : List (Option Int), none ∉ k → k = (k.filterMap id).map some := by
        intro k
        induction k with
        | nil => intro _; rfl
        | cons a k ih =>
          intro hk
          cases a with
          | none => exact absurd List.mem_cons_self hk
          | some i =>
            have := ih fun q => hk (List.mem_cons_of_mem _ q)
            rw [List.filterMap_cons]
            simp only [id, List.map_cons]
            rw [← this]
      exact this l hn
    have hm := gMax_is (l := ns) (v := v) (by simpa using ht) fun i hi => by
      obtain ⟨w, e, hw⟩ := h2 v rfl (some i) (List.mem_map.2 ⟨i, hi, rfl⟩)
      cases e; exact hw
    have hi := inD_none (l := ns.map some)
    have hd : decide (none ∈ ns.map some) = false := by simp
    rw [hd] at hi
    have e2 : (ns.map some).map optP = ns.map PV.int := by rw [List.map_map]; rfl
    rw [e2] at hi ⊢
    simp [m__law_most, ms__law_most, hi, hm]
theorem rg_loop {r0 : PV} {m : Bool} : ∀ {L : List Pc} {A B : List (Option Int)} {a b c d : Option PV}, A.length + L.length < 10000 → B.length + L.length < 10000 →
    ∃ a' b' c' d', loopM (tT [4, 5, 6, 7]) lB1__law_range (L.map Pc.pv) [some r0, some (kd m), some (.lst (A.map optP)), some (.lst (B.map optP)), a, b, c, d] =
      .nxt [some r0, some (kd m), some (.lst ((A ++ (L.map (endOf (!m))).map (·.1)).map optP)), some (.lst ((B ++ (L.map (endOf (!m))).map (·.2)).map optP)), a', b', c', d']
  | [], A, B, a, b, c, d, _, _ => ⟨a, b, c, d, by simp⟩
  | p :: L, A, B, a, b, c, d, h1, h2 => by
    simp only [List.length_cons] at h1 h2
    obtain ⟨k, here, lo, hi⟩ := p
    obtain ⟨a', b', c', d', e⟩ := rg_loop (r0 := r0) (m := m) (L := L) (A := A ++ [(endOf (!m) ⟨k, here, lo, hi⟩).1]) (B := B ++ [(endOf (!m) ⟨k, here, lo, hi⟩).2]) (a := some (kd k)) (b := some (.int here)) (c := some (optP lo)) (d := some (optP hi)) (by simp; omega) (by simp; omega)
    refine ⟨a', b', c', d', ?_⟩
    have hA : A.length < 16777216 := by omega
    have hB : B.length < 16777216 := by omega
    have hb : lB1__law_range [some r0, some (kd m), some (.lst (A.map optP)), some (.lst (B.map optP)), some (kd k), some (.int here), some (optP lo), some (optP hi)] =
        .nxt [some r0, some (kd m), some (.lst ((A ++ [(endOf (!m) ⟨k, here, lo, hi⟩).1]).map optP)), some (.lst ((B ++ [(endOf (!m) ⟨k, here, lo, hi⟩).2]).map optP)), some (kd k), some (.int here), some (optP lo), some (optP hi)] := by
      cases k <;> cases m <;> simp [lB1__law_range, endOf, hA, hB]
    simp only [List.map_cons, loopM_cons, Pc.pv, tT_ap, setAll_cons, setAll_nil, stepE_some, List.set_cons_succ, List.set_cons_zero]
    rw [hb, loopK_nxt, e]
    simp
theorem v_law_range {r : Rs} {m : Bool} (h : r.Ok (10 ^ 18)) : outV m__law_range [r.pv, kd m] = some (spanP (spanR (!m) r.pcs)) := by
  obtain ⟨s1, s2, s3, s4⟩ := ends_spec (b := !m) h
  have hl := pcs_len h
  obtain ⟨a', b', c', d', e⟩ := rg_loop (r0 := r.pv) (m := m) (L := r.pcs) (A := []) (B := []) (a := none) (b := none) (c := none) (d := none) (by simp; omega) (by simp; omega)
  have l1 := v_least (l := (r.pcs.map (endOf (!m))).map (·.1)) (s := (spanR (!m) r.pcs).1) (by obtain ⟨t, ht, e⟩ := s1; exact ⟨t.1, List.mem_map.2 ⟨t, ht, rfl⟩, e⟩)
    (fun v hv t ht => by obtain ⟨u, hu, rfl⟩ := List.mem_map.1 ht; exact s2 v hv u hu)
  have l2 := v_most (l := (r.pcs.map (endOf (!m))).map (·.2)) (s := (spanR (!m) r.pcs).2) (by obtain ⟨t, ht, e⟩ := s3; exact ⟨t.2, List.mem_map.2 ⟨t, ht, rfl⟩, e⟩)
    (fun v hv t ht => by obtain ⟨u, hu, rfl⟩ := List.mem_map.1 ht; exact s4 v hv u hu)
  generalize (r.pcs.map (endOf (!m))).map (·.1) = L1 at *
  generalize (r.pcs.map (endOf (!m))).map (·.2) = L2 at *
  simp at e
  simp [m__law_range, ms__law_range, v_law_pieces h, e, l1, l2, spanP]

theorem across_acc {b : Bool} {x : Int} {r : Rs} : acrossP (hits b x r.pcs) = optS (accO b x r) := by
  unfold acrossP accO
  cases (hits b x r.pcs).head? <;> cases (hits b x r.pcs).getLast? <;> rfl

theorem v_currents_of {r : Rs} (h : r.Ok (10 ^ 18)) : outV m_currents_of [r.pv] = some (spanP (spanR true r.pcs)) := by
  have := v_span_of (b := true) (pcs_ne h)
  simp at this
  simp [m_currents_of, ms_currents_of, v_check_rise h, v_row_of h, this]
theorem v_tensions_of {r : Rs} (h : r.Ok (10 ^ 18)) : outV m_tensions_of [r.pv] = some (spanP (spanR false r.pcs)) := by
  have := v_span_of (b := false) (pcs_ne h)
  simp at this
  simp [m_tensions_of, ms_tensions_of, v_check_rise h, v_row_of h, this]

/-! ### what goes with a number, as the law looks -/
theorem en_loop {b : Bool} {x : Int} {R0 : PV} : ∀ {l : List Pc} {A : List (Option Int × Option Int)} {s5 s6 s7 s8 : Option PV}, A.length + l.length < 10000 →
    ∃ a5 a6 a7 a8, loopM (tT [5, 6, 7, 8]) lB1__law_ends (l.map Pc.pv) [some R0, some (kd b), some (.int x), some (.lst ((A.map (·.1)).map optP)), some (.lst ((A.map (·.2)).map optP)), s5, s6, s7, s8] =
      .nxt [some R0, some (kd b), some (.int x), some (.lst (((A ++ hits b x l).map (·.1)).map optP)), some (.lst (((A ++ hits b x l).map (·.2)).map optP)), a5, a6, a7, a8]
  | [], A, s5, s6, s7, s8, _ => ⟨s5, s6, s7, s8, by simp [hits]⟩
  | c :: l, A, s5, s6, s7, s8, hl => by
    simp only [List.length_cons] at hl
    obtain ⟨k, here, lo, hi⟩ := c
    have hA : ((A.map (·.1)).map optP).length < 16777216 := by simp; omega
    have hA2 : ((A.map (·.2)).map optP).length < 16777216 := by simp; omega
    have hc : hits b x (⟨k, here, lo, hi⟩ :: l) = (hit b x ⟨k, here, lo, hi⟩).toList ++ hits b x l := hits_cons
    obtain ⟨a5, a6, a7, a8, ih⟩ := en_loop (b := b) (x := x) (R0 := R0) (l := l) (A := A ++ (hit b x ⟨k, here, lo, hi⟩).toList) (s5 := some (kd k)) (s6 := some (.int here)) (s7 := some (optP lo)) (s8 := some (optP hi)) (by
      have : (hit b x ⟨k, here, lo, hi⟩).toList.length ≤ 1 := by cases hit b x ⟨k, here, lo, hi⟩ <;> simp
      rw [List.length_append]; omega)
    refine ⟨a5, a6, a7, a8, ?_⟩
    have hh := v_law_holds (lo := lo) (hi := hi) (i := x)
    have hb : lB1__law_ends [some R0, some (kd b), some (.int x), some (.lst ((A.map (·.1)).map optP)), some (.lst ((A.map (·.2)).map optP)), some (kd k), some (.int here), some (optP lo), some (optP hi)] = .nxt [some R0, some (kd b), some (.int x), some (.lst (((A ++ (hit b x ⟨k, here, lo, hi⟩).toList).map (·.1)).map optP)), some (.lst (((A ++ (hit b x ⟨k, here, lo, hi⟩).toList).map (·.2)).map optP)), some (kd k), some (.int here), some (optP lo), some (optP hi)] := by
      rw [List.map_append, List.map_append, List.map_append, List.map_append]
      generalize (A.map (·.1)).map optP = A1 at *
      generalize (A.map (·.2)).map optP = A2 at *
      unfold hit
      simp only
      have hA' : A1.length + 1 ≤ 16777216 := by omega
      have hA2' : A2.length + 1 ≤ 16777216 := by omega
      cases q : (leO lo x && geO hi x) <;> rw [q] at hh <;> by_cases z : here = x <;> cases k <;> cases b <;> simp [lB1__law_ends, hh, hA, hA2, z]
    rw [List.map_cons, loopM_cons]
    have et : tT [5, 6, 7, 8] (Pc.pv ⟨k, here, lo, hi⟩) [some R0, some (kd b), some (.int x), some (.lst ((A.map (·.1)).map optP)), some (.lst ((A.map (·.2)).map optP)), s5, s6, s7, s8] = some [some R0, some (kd b), some (.int x), some (.lst ((A.map (·.1)).map optP)), some (.lst ((A.map (·.2)).map optP)), some (kd k), some (.int here), some (optP lo), some (optP hi)] := by simp [Pc.pv]
    rw [et, stepE_some, hb, loopK_nxt, ih, hc, List.append_assoc]
theorem v_law_ends {b : Bool} {x : Int} {r : Rs} (h : r.Ok (10 ^ 18)) : outV m__law_ends [r.pv, kd b, .int x] = some (optS (accO b x r)) := by
  have e0 := v_law_pieces h
  have hl := pcs_len h
  obtain ⟨a5, a6, a7, a8, e⟩ := en_loop (b := b) (x := x) (R0 := r.pv) (l := r.pcs) (A := []) (s5 := none) (s6 := none) (s7 := none) (s8 := none) (by simp; omega)
  rw [List.nil_append] at e
  simp only [List.map_nil] at e
  have nl : eqD (.lst (((hits b x r.pcs).map (·.1)).map optP)) (.lst []) = some (hits b x r.pcs).isEmpty := by
    have p1 : pl 3 (.lst (((hits b x r.pcs).map (·.1)).map optP)) = true := by
      show (((hits b x r.pcs).map (·.1)).map optP).all (pl 2) = true
      rw [List.all_map, List.all_eq_true]
      intro s _
      cases s <;> rfl
    rw [eqD_dec p1 (show pl 3 (.lst []) = true from rfl)]
    cases hits b x r.pcs <;> simp
  cases h0 : (hits b x r.pcs).head? with
  | none =>
    have hz : hits b x r.pcs = [] := List.head?_eq_none_iff.1 h0
    have q : accO b x r = none := by unfold accO; rw [h0]
    rw [hz] at e nl
    simp only [List.map_nil, List.isEmpty_nil] at e nl
    rw [q]
    generalize r.pcs.map Pc.pv = LP at *
    generalize r.pv = RP at *
    simp [m__law_ends, ms__law_ends, e0, e, nl]
  | some t0 =>
    obtain ⟨t1, h1⟩ : ∃ z, (hits b x r.pcs).getLast? = some z := by
      cases q : (hits b x r.pcs).getLast? with
      | some z => exact ⟨z, rfl⟩
      | none => rw [List.getLast?_eq_none_iff.1 q] at h0; cases h0
    have q : accO b x r = some (t0.1, t1.2) := by unfold accO; rw [h0, h1]
    obtain ⟨c1, c2, c3⟩ := hits_ends h h0 h1
    have l1 := v_least (l := (hits b x r.pcs).map (·.1)) (s := t0.1) ⟨t0.1, List.mem_map.2 ⟨t0, List.mem_of_head? h0, rfl⟩, rfl⟩ (fun v hv t ht => by
      obtain ⟨u, hu, rfl⟩ := List.mem_map.1 ht
      exact c1 v hv u hu)
    have l2 := v_most (l := (hits b x r.pcs).map (·.2)) (s := t1.2) ⟨t1.2, List.mem_map.2 ⟨t1, List.mem_of_getLast? h1, rfl⟩, rfl⟩ (fun v hv t ht => by
      obtain ⟨u, hu, rfl⟩ := List.mem_map.1 ht
      exact c2 v hv u hu)
    have ie : (hits b x r.pcs).isEmpty = false := by cases z : hits b x r.pcs with
      | nil => rw [z] at h0; cases h0
      | cons a l => rfl
    rw [ie] at nl
    rw [q]
    generalize ((hits b x r.pcs).map (·.1)).map optP = L1 at *
    generalize ((hits b x r.pcs).map (·.2)).map optP = L2 at *
    generalize r.pcs.map Pc.pv = LP at *
    generalize r.pv = RP at *
    simp [m__law_ends, ms__law_ends, e0, e, nl, l1, l2, spanP]
theorem v_law_tens {x : Int} {r : Rs} (h : r.Ok (10 ^ 18)) : outV m__law_tensions [r.pv, .int x] = some (optS (accO true x r)) := by
  have := v_law_ends (b := true) (x := x) h
  simp at this
  simp [m__law_tensions, ms__law_tensions, this]
theorem v_law_curr {x : Int} {r : Rs} (h : r.Ok (10 ^ 18)) : outV m__law_currents [r.pv, .int x] = some (optS (accO false x r)) := by
  have := v_law_ends (b := false) (x := x) h
  simp at this
  simp [m__law_currents, ms__law_currents, this]
/-! ### what the program tells -/
theorem v_tens {x : Int} {r : Rs} (h : r.Ok (10 ^ 18)) (hx : -(10 ^ 60) < x ∧ x < 10 ^ 60) : outV m_tensions_at [r.pv, .int x] = some (optS (accO true x r)) := by
  have := v_span_across (b := true) (x := x) h
  rw [across_acc] at this
  simp at this
  simp [m_tensions_at, ms_tensions_at, v_check_rise h, v_check_number hx, v_row_of h, this]
theorem v_curr {x : Int} {r : Rs} (h : r.Ok (10 ^ 18)) (hx : -(10 ^ 60) < x ∧ x < 10 ^ 60) : outV m_currents_at [r.pv, .int x] = some (optS (accO false x r)) := by
  have := v_span_across (b := false) (x := x) h
  rw [across_acc] at this
  simp at this
  simp [m_currents_at, ms_currents_at, v_check_rise h, v_check_number hx, v_row_of h, this]
/-- the word of a place -/
def plW (r : Rs) (x y : Int) : Str := if r.on (x, y) = true then "on" else match accO true x r with
  | none => if (match (spanR true r.pcs).1 with | some j => decide (x < j) | none => false) = true then "above" else "below"
  | some t => if geO t.2 y = true then "below" else "above"
theorem v_place {r : Rs} {B x y : Int} (h : r.Ok B) : outV m_place_by [.tup (r.pcs.map Pc.pv), .int x, .int y] = some (.str (plW r x y)) := by
  have es := v_span_across (b := true) (x := x) h
  have ef := v_span_of (b := true) (pcs_ne h)
  rw [across_acc] at es
  simp at es ef
  unfold plW
  cases q : accO true x r with
  | none =>
    have hoff : r.on (x, y) = false := by
      cases z : r.on (x, y) with
      | false => rfl
      | true =>
        have := on_in (b := true) h z
        exact absurd this ((accO_none h).1 q)
    rw [q] at es
    rw [hoff]
    simp at es
    have e0 : pIx (spanP (spanR true r.pcs)) (.int 0) = some (optP (spanR true r.pcs).1) := by simp [spanP]
    cases hl : (spanR true r.pcs).1 with
    | none =>
      rw [hl] at e0
      simp [m_place_by, ms_place_by, es, ef, e0]
    | some j =>
      rw [hl] at e0
      by_cases hj : x < j
      · simp [m_place_by, ms_place_by, es, ef, e0, hj]
      · simp [m_place_by, ms_place_by, es, ef, e0, hj]
  | some t =>
    rw [q] at es
    simp at es
    have on := ((accO_on h q).1 (x, y) rfl)
    have e1 := v_holds (lo := t.1) (hi := t.2) (i := y)
    have e2 := v_holds (lo := none) (hi := t.2) (i := y)
    have e3 : pIx (spanP t) (.int 1) = some (optP t.2) := by simp [spanP]
    have e4 : isNn (spanP t) = some false := rfl
    have e2' : outV m_holds [.tup [.non, optP t.2], .int y] = some (.bl (geO t.2 y)) := by simpa [spanP] using e2
    simp only [across_true] at on
    cases q1 : leO t.1 y <;> cases q2 : geO t.2 y <;> rw [q1, q2] at e1 <;> rw [q2] at e2' <;> rw [q1, q2] at on <;> simp at on e1
    · rw [on]; simp [m_place_by, ms_place_by, es, e1, e2', e3, e4, q2]
    · rw [on]; simp [m_place_by, ms_place_by, es, e1, e2', e3, e4, q2]
    · rw [on]; simp [m_place_by, ms_place_by, es, e1, e2', e3, e4, q2]
    · rw [on]; simp [m_place_by, ms_place_by, es, e1, e2', e3, e4, q2]
theorem v_place_of {x y : Int} {r : Rs} (h : r.Ok (10 ^ 18)) (hx : -(10 ^ 60) < x ∧ x < 10 ^ 60) (hy : -(10 ^ 60) < y ∧ y < 10 ^ 60) : outV m_place_of [r.pv, .int x, .int y] = some (.str (plW r x y)) := by
  simp [m_place_of, ms_place_of, v_check_rise h, v_check_number hx, v_check_number hy, v_row_of h, v_place h]
theorem plW_cases {r : Rs} {x y : Int} : (r.on (x, y) = true ∧ plW r x y = "on") ∨ (r.on (x, y) = false ∧ (plW r x y = "above" ∨ plW r x y = "below")) := by
  unfold plW
  cases r.on (x, y) with
  | true => exact .inl ⟨rfl, rfl⟩
  | false =>
    refine .inr ⟨rfl, ?_⟩
    cases accO true x r with
    | none =>
      simp only [Bool.false_eq_true, if_false]
      by_cases z : (match (spanR true r.pcs).1 with | some j => decide (x < j) | none => false) = true
      · exact .inl (if_pos z)
      · exact .inr (if_neg z)
    | some t =>
      simp only [Bool.false_eq_true, if_false]
      by_cases z : geO t.2 y = true
      · exact .inr (if_pos z)
      · exact .inl (if_neg z)
theorem on_str {r : Rs} {x y : Int} : eqD (.str (plW r x y)) (.str "on") = some (r.on (x, y)) := by
  rcases plW_cases (r := r) (x := x) (y := y) with ⟨h1, h2⟩ | ⟨h1, h2 | h2⟩ <;> rw [h1, h2] <;> simp
theorem pl_str {r : Rs} {x y : Int} : eqD (.str (plW r x y)) (.str (plW r x y)) = some true := by
  rcases plW_cases (r := r) (x := x) (y := y) with ⟨h1, h2⟩ | ⟨h1, h2 | h2⟩ <;> rw [h2] <;> simp
theorem v_is_on3 {x y : Int} {r : Rs} (h : r.Ok (10 ^ 18)) (hx : -(10 ^ 60) < x ∧ x < 10 ^ 60) (hy : -(10 ^ 60) < y ∧ y < 10 ^ 60) : outV m_is_on [r.pv, .int x, .int y] = some (.bl (r.on (x, y))) := by
  simp [m_is_on, ms_is_on, v_place_of h hx hy, on_str]
theorem v_law_place {x y : Int} {r : Rs} (h : r.Ok (10 ^ 18)) : outV m__law_place [r.pv, .int x, .int y] = some (.str (plW r x y)) := by
  have e1 := v_law_is_on (x := x) (y := y) h
  have e2 := v_law_tens (x := x) h
  have e3 := v_law_range (m := false) h
  simp at e3
  unfold plW
  cases z : r.on (x, y) with
  | true =>
    rw [z] at e1
    simp [m__law_place, ms__law_place, e1]
  | false =>
    rw [z] at e1
    cases q : accO true x r with
    | none =>
      rw [q] at e2
      simp at e2
      have e0 : pIx (spanP (spanR true r.pcs)) (.int 0) = some (optP (spanR true r.pcs).1) := by simp [spanP]
      cases hl : (spanR true r.pcs).1 with
      | none =>
        rw [hl] at e0
        simp [m__law_place, ms__law_place, e1, e2, e3, e0]
      | some j =>
        rw [hl] at e0
        by_cases hj : x < j
        · simp [m__law_place, ms__law_place, e1, e2, e3, e0, hj]
        · simp [m__law_place, ms__law_place, e1, e2, e3, e0, hj]
    | some t =>
      rw [q] at e2
      obtain ⟨lo, hi⟩ := t
      cases hi with
      | none => cases lo <;> simp [spanP] at e2 <;> simp [m__law_place, ms__law_place, e1, e2]
      | some u =>
        by_cases hj : u < y
        · have : ¬ y ≤ u := by omega
          cases lo <;> simp [spanP] at e2 <;> simp [m__law_place, ms__law_place, e1, e2, hj, this]
        · have : y ≤ u := by omega
          cases lo <;> simp [spanP] at e2 <;> simp [m__law_place, ms__law_place, e1, e2, hj, this]

/-! ### a point is told, points near a rise -/
theorem sp0 {s : Option Int × Option Int} : pIx (spanP s) (.int 0) = some (optP s.1) := by simp [spanP]
theorem sp1 {s : Option Int × Option Int} : pIx (spanP s) (.int 1) = some (optP s.2) := by simp [spanP]
theorem spn {s : Option Int × Option Int} : isNn (spanP s) = some false := rfl
theorem eq_optS {s : Option (Option Int × Option Int)} : eqD (optS s) (optS s) = some true := by
  have p : pl 2 (optS s) = true := by
    cases s with
    | none => rfl
    | some t => obtain ⟨a, b⟩ := t; cases a <;> cases b <;> rfl
  rw [eqD_dec p p]
  simp
theorem in_acc {b : Bool} {x B : Int} {r : Rs} (h : r.Ok B) : (leO (spanR b r.pcs).1 x && geO (spanR b r.pcs).2 x) = (accO b x r).isSome := by
  have e := accO_none (b := b) (s := x) h
  rw [Bool.eq_iff_iff]
  have a : (leO (spanR b r.pcs).1 x && geO (spanR b r.pcs).2 x) = true ↔ inB r b x := by
    rw [Bool.and_eq_true, leO_iff, geO_iff]; rfl
  rw [a]
  cases q : accO b x r with
  | none => simp; exact e.1 q
  | some t => simp; exact Classical.byContradiction fun z => by have := e.2 z; rw [q] at this; cases this
theorem on_acc3 {b : Bool} {B : Int} {r : Rs} {p : P2} (h : r.Ok B) : r.on p = (match accO b (along b p) r with | none => false | some t => leO t.1 (across b p) && geO t.2 (across b p)) := by
  cases q : accO b (along b p) r with
  | none =>
    cases z : r.on p with
    | false => rfl
    | true => exact absurd (on_in (b := b) h z) ((accO_none h).1 q)
  | some t =>
    have := (accO_on h q).1 p rfl
    rw [Bool.eq_iff_iff, Bool.and_eq_true]
    exact this
theorem point_right {x y : Int} {r : Rs} (h : r.Ok (10 ^ 18)) (hx : -(10 ^ 60) < x ∧ x < 10 ^ 60) (hy : -(10 ^ 60) < y ∧ y < 10 ^ 60) : outV m__law_point_right [r.pv, .int x, .int y] = some (.bl true) := by
  have a1 := v_is_on3 h hx hy
  have a2 := v_law_is_on (x := x) (y := y) h
  have b1 := v_place_of h hx hy
  have b2 := v_law_place (x := x) (y := y) h
  have b3 := pl_str (r := r) (x := x) (y := y)
  have c1 := v_tens h hx
  have c2 := v_law_tens (x := x) h
  have c3 := eq_optS (s := accO true x r)
  have d1 := v_curr h hy
  have d2 := v_law_curr (x := y) h
  have d3 := eq_optS (s := accO false y r)
  have o1 := on_acc3 (b := true) (p := (x, y)) h
  have o2 := on_acc3 (b := false) (p := (x, y)) h
  simp only [along_true, across_true] at o1
  simp only [along_false, across_false] at o2
  have f1 := v_currents_of h
  have f2 := v_tensions_of h
  have g1 := v_law_holds (lo := (spanR true r.pcs).1) (hi := (spanR true r.pcs).2) (i := x)
  have g2 := v_law_holds (lo := (spanR false r.pcs).1) (hi := (spanR false r.pcs).2) (i := y)
  rw [in_acc h] at g1 g2
  have i0 := sp0 (s := spanR true r.pcs)
  have i1 := sp1 (s := spanR true r.pcs)
  have j0 := sp0 (s := spanR false r.pcs)
  have j1 := sp1 (s := spanR false r.pcs)
  generalize plW r x y = W at *
  generalize spanR true r.pcs = S1 at *
  generalize spanR false r.pcs = S2 at *
  generalize r.on (x, y) = v at *
  have m0 := fun s => sp0 (s := s)
  have m1 := fun s => sp1 (s := s)
  have mn := fun s => spn (s := s)
  cases q1 : accO true x r with
  | none =>
    rw [q1] at c1 c2 c3 o1 g1
    simp only at o1
    subst o1
    simp only [optS_none, Option.isSome_none] at c1 c2 c3 g1
    cases q2 : accO false y r with
    | none =>
      rw [q2] at d1 d2 d3 g2
      simp only [optS_none, Option.isSome_none] at d1 d2 d3 g2
      generalize r.pv = RP at *
      simp [m__law_point_right, ms__law_point_right, a1, a2, b1, b2, b3, c1, c2, d1, d2, f1, f2, g1, g2, i0, i1, j0, j1]
    | some u =>
      rw [q2] at d1 d2 d3 o2 g2
      simp only [optS_some, Option.isSome_some] at d1 d2 d3 g2
      simp only at o2
      have h2 := v_law_holds (lo := u.1) (hi := u.2) (i := x)
      rw [← o2] at h2
      generalize r.pv = RP at *
      have k0 := m0 u
      have k1 := m1 u
      have kn := mn u
      generalize spanP u = U at *
      simp [m__law_point_right, ms__law_point_right, a1, a2, b1, b2, b3, c1, c2, d1, d2, d3, f1, f2, g1, g2, i0, i1, j0, j1, k0, k1, kn, h2]
  | some t =>
    rw [q1] at c1 c2 c3 o1 g1
    simp only [optS_some, Option.isSome_some] at c1 c2 c3 g1
    simp only at o1
    have h1 := v_law_holds (lo := t.1) (hi := t.2) (i := y)
    rw [← o1] at h1
    have l0 := m0 t
    have l1 := m1 t
    have ln := mn t
    generalize spanP t = T at *
    cases q2 : accO false y r with
    | none =>
      rw [q2] at d1 d2 d3 o2 g2
      simp only at o2
      subst o2
      simp only [optS_none, Option.isSome_none] at d1 d2 d3 g2
      generalize r.pv = RP at *
      simp [m__law_point_right, ms__law_point_right, a1, a2, b1, b2, b3, c1, c2, c3, d1, d2, f1, f2, g1, g2, i0, i1, j0, j1, l0, l1, ln, h1]
    | some u =>
      rw [q2] at d1 d2 d3 o2 g2
      simp only [optS_some, Option.isSome_some] at d1 d2 d3 g2
      simp only at o2
      have h2 := v_law_holds (lo := u.1) (hi := u.2) (i := x)
      rw [← o2] at h2
      have k0 := m0 u
      have k1 := m1 u
      have kn := mn u
      generalize spanP u = U at *
      generalize r.pv = RP at *
      cases v <;> simp [m__law_point_right, ms__law_point_right, a1, a2, b1, b2, b3, c1, c2, c3, d1, d2, d3, f1, f2, g1, g2, i0, i1, j0, j1, k0, k1, kn, h2, l0, l1, ln, h1]
theorem more_ok {C R X Y : Option PV} : ∀ {l : List (Option (Option Int × Option Int))} {s4 : Option PV}, (∀ t ∈ l, ∀ s, t = some s → ∀ u v, s.1 = some u → s.2 = some v → u ≤ v) → ∃ a, loopM (tN 4) lB1__law_right (l.map optS) [C, R, X, Y, s4] = .nxt [C, R, X, Y, a]
  | [], s4, _ => ⟨s4, rfl⟩
  | t :: l, s4, h => by
    obtain ⟨a, e⟩ := more_ok (C := C) (R := R) (X := X) (Y := Y) (l := l) (s4 := some (optS t)) fun t ht => h t (List.mem_cons_of_mem _ ht)
    refine ⟨a, ?_⟩
    have hb : lB1__law_right [C, R, X, Y, some (optS t)] = .nxt [C, R, X, Y, some (optS t)] := by
      cases t with
      | none => simp [lB1__law_right]
      | some s =>
        obtain ⟨lo, hi⟩ := s
        cases lo with
        | none => simp [lB1__law_right, spanP]
        | some u =>
          cases hi with
          | none => simp [lB1__law_right, spanP]
          | some v =>
            have hu := h _ List.mem_cons_self (some u, some v) rfl u v rfl rfl
            have : ¬ v < u := by omega
            simp [lB1__law_right, spanP, this]
    rw [List.map_cons, loopM_cons]
    have et : tN 4 (optS t) [C, R, X, Y, s4] = some [C, R, X, Y, some (optS t)] := rfl
    rw [et, stepE_some, hb, loopK_nxt, e]
theorem pts_loop {C : Option PV} {r : Rs} (h : r.Ok (10 ^ 18)) : ∀ {l : List P2} {X Y s4 : Option PV}, (∀ p ∈ l, Inb (3 * 10 ^ 18) p) → ∃ a b c, loopM (tT [2, 3]) lB2__law_right (l.map pt) [C, some r.pv, X, Y, s4] = .nxt [C, some r.pv, a, b, c]
  | [], X, Y, s4, _ => ⟨X, Y, s4, rfl⟩
  | p :: l, X, Y, s4, hp => by
    obtain ⟨x, y⟩ := p
    have hi := hp (x, y) List.mem_cons_self
    unfold Inb at hi
    simp only at hi
    have hx : -(10 ^ 60) < x ∧ x < 10 ^ 60 := by omega
    have hy : -(10 ^ 60) < y ∧ y < 10 ^ 60 := by omega
    have e1 := point_right h hx hy
    have e2 := v_tens h hx
    have e3 := v_curr h hy
    obtain ⟨a, e4⟩ := more_ok (C := C) (R := some r.pv) (X := some (.int x)) (Y := some (.int y)) (l := [accO true x r, accO false y r]) (s4 := s4) fun t ht s e u v hu hv => by
      rcases List.mem_cons.1 ht with rfl | ht
      · exact (accO_on h e).2 u v hu hv
      · rw [List.mem_singleton] at ht
        subst ht
        exact (accO_on h e).2 u v hu hv
    obtain ⟨a2, b2, c2, e5⟩ := pts_loop (C := C) h (l := l) (X := some (.int x)) (Y := some (.int y)) (s4 := a) fun p hq => hp p (List.mem_cons_of_mem _ hq)
    refine ⟨a2, b2, c2, ?_⟩
    simp only [List.map_cons, List.map_nil] at e4
    have hb : lB2__law_right [C, some r.pv, some (.int x), some (.int y), s4] = .nxt [C, some r.pv, some (.int x), some (.int y), a] := by
      generalize optS (accO true x r) = U at *
      generalize optS (accO false y r) = V at *
      generalize r.pv = RP at *
      simp [lB2__law_right, e1, e2, e3, e4]
    rw [List.map_cons, loopM_cons]
    have et : tT [2, 3] (pt (x, y)) [C, some r.pv, X, Y, s4] = some [C, some r.pv, some (.int x), some (.int y), s4] := by simp [pt]
    rw [et, stepE_some, hb, loopK_nxt, e5]
theorem right {n : Nat} {c : PV} (h : Cask n c) (hn : n < 2 ^ 26) : ∃ c', out0 m__law_right [c] = some (.bl true, c') ∧ Cask (n + 1100) c' := by
  obtain ⟨m, c1, e1, hm, k1⟩ := amongI (l := [1, 3, 9, 30]) h (by decide) (by decide) (by omega)
  simp at hm
  obtain ⟨r, c2, e2, ok, few, k2⟩ := rise k1 (m := m) (by omega) (by omega) (by omega)
  have ok' : r.Ok (10 ^ 18) := ok_mono ok (by omega)
  obtain ⟨L, c3, e3, l3, b3, k3⟩ := lnear k2 (by omega) ok'
  have er := v_rims (r := r)
  obtain ⟨r1, r2⟩ := rims_len ok'
  obtain ⟨a, b, d, e4⟩ := pts_loop (C := some c3) (r := r) ok' (l := rims r ++ L) (X := none) (Y := none) (s4 := none) fun p hp => by
    rcases List.mem_append.1 hp with hp | hp
    · have := rims_in ok' p hp
      unfold Inb at *; omega
    · have := b3 p hp
      unfold Inb at *; omega
  refine ⟨c3, ?_, k3.mono (by omega)⟩
  have ll : ((rims r).map pt).length + (L.map pt).length ≤ 16777216 := by simp; omega
  rw [List.map_append] at e4
  generalize (rims r).map pt = RL at *
  generalize L.map pt = LL at *
  generalize r.pv = RP at *
  simp at e1
  simp [m__law_right, ms__law_right, e1, e2, er, e3, ll, e4]

/-! ### the first numbers -/
theorem v_law_cask {p : PV} {ns : List Int} (hp : p = .lst (ns.map .int) ∨ p = .fz (ns.map .int)) {s : Nat} (hs : s < 100) : ∃ c, outV m__law_cask [p, .int s] = some c ∧ Cask 0 c := by
  have p1 : CPowB 10 55 := by unfold CPowB; decide +kernel
  have p2 : CPowB 10 58 := by unfold CPowB; decide +kernel
  have p3 : CPowB 10 16 := by unfold CPowB; decide +kernel
  have b1 : ∀ x : Int, 0 ≤ x % 2305843009213693669 ∧ x % 2305843009213693669 < 2305843009213693669 := fun x => ⟨Int.emod_nonneg _ (by decide), Int.emod_lt_of_pos _ (by decide)⟩
  have m1 : CMulW 263 s := mulW 24 50 (by decide) (by decide) (by omega) (by omega)
  have m2 : CMulW ((10 : Int) ^ 55) (10 ^ 58) := mulW 200 200 (by decide +kernel) (by decide +kernel) (by decide +kernel) (by decide +kernel)
  have m2' : CMulW 10000000000000000000000000000000000000000000000000000000 10000000000000000000000000000000000000000000000000000000000 := m2
  have m3 : ∀ x : Int, CMulW (x % 2305843009213693669) 83 := fun x => mulW 62 62 (by have := b1 x; omega) (by have := b1 x; omega) (by decide) (by decide)
  have m4 : CMulW 1301 s := mulW 24 50 (by decide) (by decide) (by omega) (by omega)
  have m5 : ∀ b : Bool, CMulW 47 (if b = true then 1 else 0) := fun b => by cases b <;> exact mulW 24 24 (by decide) (by decide) (by decide) (by decide)
  have q1 : ∀ x : Int, CPos x 2305843009213693669 := fun x => by unfold CPos; decide
  have q2 : ∀ x : Int, CPos x 1152921504606846697 := fun x => by unfold CPos; decide
  have q3 : ∀ x : Int, CPos x 100000000000000000000000000000000000000000000000000000000000000000000000000000000000000000000000000000000000000000 := fun x => by unfold CPos; decide
  suffices key : ∃ a b : Int, outV m__law_cask [p, .int s] = some (.lst [.int a, .int b, .int 0]) by
    obtain ⟨a, b, e⟩ := key
    exact ⟨_, e, a, b, 0, rfl, by omega, by omega⟩
  by_cases hlt : s < ns.length
  · have m6 := m5 (decide (ns[s] < 0))
    simp only [decide_eq_true_eq] at m6
    rcases hp with rfl | rfl <;> simp [m__law_cask, ms__law_cask, hlt, p1, p2, p3, m2', m3, m4, m6, q1, q2, q3]
  · have m6 := m5 (decide (263 * (s : Int) + 109 < 0))
    simp only [decide_eq_true_eq] at m6
    rcases hp with rfl | rfl <;> simp [m__law_cask, ms__law_cask, hlt, p1, p2, p3, m1, m2', m3, m4, m6, q1, q2, q3]

theorem pure_of {p : PV} (h : outV m_law [p] = some (.bl true)) : ∃ e, m_law [p] = .ok (.bl true) e := by
  unfold outV at h
  cases q : m_law [p] with
  | ok v e => rw [q] at h; cases h; exact ⟨e, rfl⟩
  | _ => rw [q] at h; cases h
theorem script_len {p : PV} {ns : List Int} (hp : p = .lst (ns.map .int) ∨ p = .fz (ns.map .int)) : gLen [p] = some (.int ns.length) := by rcases hp with rfl | rfl <;> simp

theorem outs {p : PV} {ns : List Int} (hp : p = .lst (ns.map .int) ∨ p = .fz (ns.map .int)) : ∀ {m : Nat} {s : Nat} {q c : Option PV}, s + m ≤ 10 →
    ∃ q' c', loopM (tN 1) lB1_law (rangeP s m) [some p, q, c, none, none, none, none, none] = .nxt [some p, q', c', none, none, none, none, none]
  | 0, s, q, c, _ => ⟨q, c, by rw [rangeP_zero]; rfl⟩
  | m + 1, s, q, c, hs => by
    obtain ⟨cp, e1, k1⟩ := v_law_cask hp (s := s) (by omega)
    obtain ⟨c1, f1, k2⟩ := right k1 (by omega)
    obtain ⟨c2, f2, k3⟩ := right k2 (by omega)
    obtain ⟨c3, f3, k4⟩ := right k3 (by omega)
    obtain ⟨q', c', e3⟩ := outs hp (m := m) (s := s + 1) (q := some (.int s)) (c := some c3) (by omega)
    refine ⟨q', c', ?_⟩
    have hb : lB1_law [some p, some (.int s), c, none, none, none, none, none] = .nxt [some p, some (.int s), some c3, none, none, none, none, none] := by
      simp [lB1_law, e1, f1, f2, f3]
    rw [rangeP_succ]
    simp only [loopM_cons, tN_ap, stepE_some]
    show loopK (lB1_law [some p, some (.int s), c, none, none, none, none, none]) _ _ _ = _
    rw [hb, loopK_nxt, show ((s : Int) + 1) = ((s + 1 : Nat) : Int) by omega]
    exact e3
def restLaw : Ms := (mSeq (mUnp [3, 4] (mTup (mCons (mTup (mCons (mC (.str "steep")) (mCons (mTup (mCons (mTup (mCons (mC (.int 0)) (mCons (mC (.int 0)) mNil))) (mCons (mTup (mCons (mC (.int 2)) (mCons (mC (.int 0)) mNil))) (mCons (mTup (mCons (mC (.int 2)) (mCons (mC (.int 3)) mNil))) (mCons (mTup (mCons (mC (.int 4)) (mCons (mC (.int 3)) mNil))) mNil))))) mNil))) (mCons (mTup (mCons (mC (.str "steep")) (mCons (mTup (mCons (mTup (mCons (mC (.int 0)) (mCons (mC (.int 0)) mNil))) mNil)) mNil))) mNil)))) (mSeq (mSet 5 (mBin pAdd (mLc [6] (tN 6) mYes cE1_law (mIt (mTup (mCons (mC (.int 2)) (mCons (mC (.int 0)) (mCons (mC (.int 1)) (mCons (mC (.int 5)) (mCons (mNeg (mC (.int 1))) mNil)))))))) (mLc [7] (tN 7) mYes cE2_law (mIt (mTup (mCons (mC (.int 0)) (mCons (mC (.int 1)) (mCons (mNeg (mC (.int 7))) (mCons (mC (.int 3)) (mCons (mC (.int 4)) mNil)))))))))) (mSeq (mIfS (mTB (mBin pNe (mVar 5) (mLst (mCons (mTup (mCons (mC (.int 0)) (mCons (mC (.int 3)) mNil))) (mCons (mTup (mCons (mC .non) (mCons (mC (.int 0)) mNil))) (mCons (mTup (mCons (mC (.int 0)) (mCons (mC (.int 0)) mNil))) (mCons (mC .non) (mCons (mC .non) (mCons (mTup (mCons (mC (.int 0)) (mCons (mC (.int 2)) mNil))) (mCons (mTup (mCons (mC (.int 2)) (mCons (mC (.int 2)) mNil))) (mCons (mTup (mCons (mC (.int 0)) (mCons (mC (.int 0)) mNil))) (mCons (mTup (mCons (mC (.int 2)) (mCons (mC (.int 4)) mNil))) (mCons (mTup (mCons (mC (.int 4)) (mCons (mC (.int 4)) mNil))) mNil))))))))))))) (mRet (mC (.bl false))) mNext) (mSeq (mIfS (mTB (mBin pNe (mLst (mCons (mDef 1 [] m_currents_of (mrV (mVar 3) mrNil)) (mCons (mDef 1 [] m_tensions_of (mrV (mVar 3) mrNil)) (mCons (mDef 1 [] m_currents_of (mrV (mVar 4) mrNil)) (mCons (mDef 1 [] m_tensions_of (mrV (mVar 4) mrNil)) mNil))))) (mLst (mCons (mTup (mCons (mC (.int 0)) (mCons (mC (.int 4)) mNil))) (mCons (mTup (mCons (mC .non) (mCons (mC .non) mNil))) (mCons (mTup (mCons (mC (.int 0)) (mCons (mC .non) mNil))) (mCons (mTup (mCons (mC .non) (mCons (mC (.int 0)) mNil))) mNil))))))) (mRet (mC (.bl false))) mNext) (mRet (mBin pEq (mLst (mCons (mDef 3 [] m_place_of (mrV (mVar 4) (mrV (mC (.int 3)) (mrV (mC (.int 1)) mrNil)))) (mCons (mDef 3 [] m_place_of (mrV (mVar 4) (mrV (mC (.int 3)) (mrV (mNeg (mC (.int 1))) mrNil)))) (mCons (mDef 3 [] m_place_of (mrV (mVar 4) (mrV (mNeg (mC (.int 1))) (mrV (mNeg (mC (.int 5))) mrNil)))) (mCons (mDef 3 [] m_place_of (mrV (mVar 4) (mrV (mC (.int 0)) (mrV (mNeg (mC (.int 5))) mrNil)))) mNil))))) (mLst (mCons (mC (.str "above")) (mCons (mC (.str "below")) (mCons (mC (.str "above")) (mCons (mC (.str "on")) mNil)))))))))))
theorem law_eq : ms_law = mSeq (mFor (mItA iRange1 (mCons (mCall gMax (mCons (mC (.int 1)) (mCons (mCall gMin (mCons (mC (.int 4)) (mCons (mCall gLen (mCons (mVar 0) mNil)) mNil))) mNil))) mNil)) (tN 1) lB1_law) restLaw := rfl
theorem rest_law : ∀ (p : PV) (a c : Option PV), (match restLaw [some p, a, c, none, none, none, none, none] with | .ret q _ => some q | _ => none) = some (.bl true) := fun p a c => by kernel_rfl
theorem pure_law (p : PV) (ns : List Int) (hp : p = .lst (ns.map .int) ∨ p = .fz (ns.map .int)) (hl : ns.length ≤ 63) : ∃ e, m_law [p] = .ok (.bl true) e := by
  have hlen := script_len hp
  obtain ⟨a, c, e⟩ := outs hp (m := max 1 (min 4 ns.length)) (s := 0) (q := none) (c := none) (by omega)
  have hr : iRange1 [.int (max 1 (min 4 (ns.length : Int)))] = some (rangeP 0 (max 1 (min 4 ns.length))) := by
    rw [show (max 1 (min 4 (ns.length : Int))) = ((max 1 (min 4 ns.length) : Nat) : Int) by omega]
    exact iRange1_nat (by omega)
  have e2 : (mFor (mItA iRange1 (mCons (mCall gMax (mCons (mC (.int 1)) (mCons (mCall gMin (mCons (mC (.int 4)) (mCons (mCall gLen (mCons (mVar 0) mNil)) mNil))) mNil))) mNil)) (tN 1) lB1_law) [some p, none, none, none, none, none, none, none] = .nxt [some p, a, c, none, none, none, none, none] := by
    simp at e
    simp [hlen, hr, e]
  have e3 := rest_law p a c
  have e4 : ms_law [some p, none, none, none, none, none, none, none] = restLaw [some p, a, c, none, none, none, none, none] := by
    rw [law_eq]
    unfold mSeq
    rw [e2]
  have e5 : startE 8 [p] = [some p, none, none, none, none, none, none, none] := rfl
  unfold m_law M.runN
  rw [e5, e4]
  cases q : restLaw [some p, a, c, none, none, none, none, none] with
  | ret v e => rw [q] at e3; cases e3; exact ⟨e, rfl⟩
  | _ => rw [q] at e3; cases e3

theorem script_rv {S : Se} {H : Hp} {a : Addr} {vs : List V} {l : List PV} (h : SqL S.K H a vs) (r : RVs S H (fun _ => False) vs l) : ∃ p, (p = .lst l ∨ p = .fz l) ∧ RV S H (fun _ => False) (.ref a) p := by
  rcases h with (h | ⟨o, h⟩) | ⟨o, its, n, h⟩
  · exact ⟨.lst l, .inl rfl, .lst id h r⟩
  · exact ⟨.fz l, .inr rfl, .fz id h r⟩
  · exact ⟨.fz l, .inr rfl, .fzK (fun _ => .inr ⟨o, its, n, h⟩) r⟩
theorem sp_law {S : Se} {H : Hp} {a : Addr} {ns : List Int} (hl : ns.length ≤ 63) (ht : ∀ p ∈ S.T.l, LamX.TabS H p.1 p.2) (h : SqL S.K H a (ns.map V.int)) : spM S 1 [] m_law [.ref a] H (fun v _ => v = .bl true) fun _ _ _ => False := by
  obtain ⟨p, hp, r⟩ := script_rv h (RVs.of_ints ns)
  obtain ⟨e, he⟩ := pure_law p ns hp hl
  refine ⟨fun _ => False, [p], rfl, rfl, fun _ z => z.elim, ht, fun k q e _ => ?_, fun k q e hk => (by cases hk), fun k k2 z hk => (by cases hk), ?_⟩
  · match k, e with
    | 0, e => cases e; exact ⟨_, rfl, r⟩
  · rw [he]
    intro v H2 _ _ rv _
    cases rv
    rfl
end K03
open PySem PySem.W PySem.Calls PyProof.Rows
theorem PySem.Challenge.cw_risenets_k03_whole_points_and_ranges_holds : PySem.Challenge.rw_risenets_k03_whole_points_and_ranges.Holds := by
  w_on; o_law
  refine HandSHeadRun.head_any (r := OpenLaw.row PySem.Challenge.rw_risenets_k03_whole_points_and_ranges) (q := view (OpenLaw.row PySem.Challenge.rw_risenets_k03_whole_points_and_ranges).prog [56]) (H := K03.hk) (ob := K03.ob) (M := 4000) (loose := K03.names) (d := HandSHeadRun.topDef (OpenLaw.row PySem.Challenge.rw_risenets_k03_whole_points_and_ranges).prog 56) (kwd := []) K03.ob_same
    (by kernel_rfl) (fun s => by kernel_rfl) K03.run (by kernel_rfl) (by kernel_rfl) (by kernel_rfl) (by rfl) (by first | assumption | decide +kernel) (by decide +kernel) ⟨rfl, rfl, rfl, rfl, rfl, by decide +kernel⟩ ?hw ?hc
  case hw => w_witness2
  case hc =>
    refine M.walk_ofG (l := PySem.Challenge.rw_risenets_k03_whole_points_and_ranges) (n := 63) (k := 11) (x := "script") rfl (by decide) (by kernel_rfl) ⟨rfl, by decide, by decide⟩ ?F
    intro w mg fa h Y G hmg0
    obtain ⟨K, KX, c⟩ := Y
    have hmg : mg ("law" : PySem.Str) = some (.ref fa) := (congrArg mg (show ("law" : PySem.Str) = (HandSHeadRun.topDef (OpenLaw.row PySem.Challenge.rw_risenets_k03_whole_points_and_ranges).prog 56).name by kernel_rfl)).trans hmg0
    obtain ⟨fd, hb, hF⟩ := K03.facts (P := (PySem.Challenge.rw_risenets_k03_whole_points_and_ranges).prog) (w := w) KX G hmg c.t.d c.more
    have mm : ∀ {p : PySem.Addr × PySem.Addr}, p ∈ K03.tf.map (He.cT K) → ∃ q ∈ K03.tf, He.cT K q = p := fun hp => List.mem_map.mp hp
    refine ⟨K, KX, fd, K03.tf.map (He.cT K), _, fun p hp => ?_, fun p hp => ?_, fun p hp => ?_, hb, fun H a ns hl hT hS => K03.sp_law hl (K03.tabs_at hT) hS, hF⟩
    · obtain ⟨q, hq, e⟩ := mm hp; subst e; exact c.empty q hq
    · obtain ⟨q, hq, e⟩ := mm hp; subst e; exact c.out q hq
    · obtain ⟨q, hq, e⟩ := mm hp; subst e; exact PySem.W.codeHd_of_K KX (c.hd q hq)

