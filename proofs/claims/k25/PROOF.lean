import PyProof.Rows.All
import Wide.All
import OpenK.AllK
import Wide.FinOn
import HandS.ForMost
import HandS.Wide
import HandS.IsInst
import HandS.Zip
import HandS.TupMul
import HandS.TupAny
import HandS.Deep
import HandS.Flow
import HandS.Style
import HandS.Lambda
import HandS.Defaults
import KE.KRevSl
import HandS.CallLocal
import HandS.NoneIn
import PyProof.ReprRoads
import HandS.Dict
import HandS.RaiseMore
import HandS.EndTab
import HandS.FStrTup
import PyProof.FitsInt
import KE.KExcInit
import HandS.ExcInit
import HandS.ExcOwn
import HandS.ExcField
import HandS.HeadHook4
import PyProof.ExcClass
import PyProof.ExcBaseAll.LookupError
import HandS.TryMany
import HandS.HeadHook3
import HandS.HeadWalk
import HandS.NestedK
import KE.DataMinMax
import HandS.SortKw
import KE.GoesMore
import PyProof.EnumMake
import HandS.Property
import HandS.Codes
import HandS.NamedTup0
import HandS.New0
import HandS.SetFor
import HandS.SortInts
import HandS.DictComp
import HandS.Small
import HandS.More
import HandS.Star
import KE.KStateDown
import Lean
import HandS.Exc
import HandS.Head0
import HandS.Head1
import HandS.Head2
import HandS.HeadEnd
import HandS.HeadHook1
import HandS.HeadHook2
import PySem.Challenge.RW_risenets_k25_errors_of_kinds
set_option Elab.async false
set_option linter.all false
set_option maxRecDepth 100000
set_option maxHeartbeats 0
namespace M
open PySem PySem.Spec PyProof.Rows L2

/-! ### values, told whole -/
inductive PV where
  | non | bl (b : Bool) | int (i : Int) | str (x : Str) | ty (n : String) | gl (x : Str)
  | tup (l : List PV) | lst (l : List PV) | fz (l : List PV) | dK (l : List (Key × PV)) | fK (l : List (Key × PV)) | ins (c : Str) (l : List (Str × PV)) | exn (a d : Addr) (c : Str) (l : List (Str × PV))

structure Se where
  K : PySem.W.Frag
  mg : Str → Option Value
  T : List (Addr × Str)
/-- no table of code objects -/
def NT (o : HO) : Prop := ∀ ps, o ≠ .tbl ps
/-- there, and no table -/
def Hd (H : Hp) (a : Addr) : Prop := ∃ o, H a = some o ∧ NT o
theorem Hd.ne {H : Hp} {a : Addr} (h : Hd H a) : H a ≠ none := by obtain ⟨o, e, _⟩ := h; rw [e]; simp
theorem nt_lst {l : List V} : NT (.lst l) := fun _ z => by cases z
theorem nt_tup {l : List V} : NT (.tup l) := fun _ z => by cases z
theorem nt_frz {o : Obj} {u : HO} : NT (.frz o u) := fun _ z => by cases z
theorem nt_dK {l : List (Key × V)} : NT (.dK l) := fun _ z => by cases z
theorem nt_ins {C d : Addr} {l : List (Str × V)} : NT (.ins C d l) := fun _ z => by cases z

mutual
/-- the value v is, in the heap H, the told one; no cell of it is one of O, whose cells can change -/
inductive RV (S : Se) (H : Hp) (O : Addr → Prop) : V → PV → Prop
  | non : RV S H O .non .non
  | bl (b : Bool) : RV S H O (.bl b) (.bl b)
  | int (i : Int) : RV S H O (.int i) (.int i)
  | str (x : Str) : RV S H O (.str x) (.str x)
  | ty (n : String) : RV S H O (.ty n) (.ty n)
  | gl {x : Str} {v : V} {u : Value} : S.mg x = some u → RelV v u → RV S H O v (.gl x)
  | tup {a : Addr} {vs : List V} {l : List PV} : ¬ O a → Rd H a (.tup vs) → RVs S H O vs l → RV S H O (.ref a) (.tup l)
  | tupK {a : Addr} {vs : List V} {l : List PV} : (∀ H, SqT S.K H a vs) → RVs S H O vs l → RV S H O (.ref a) (.tup l)
  | lst {a : Addr} {vs : List V} {l : List PV} : ¬ O a → H a = some (.lst vs) → RVs S H O vs l → RV S H O (.ref a) (.lst l)
  | fz {a : Addr} {o : Obj} {vs : List V} {l : List PV} : ¬ O a → H a = some (.frz o (.lst vs)) → RVs S H O vs l → RV S H O (.ref a) (.fz l)
  | fzK {a : Addr} {vs : List V} {l : List PV} : (∀ H, SqL S.K H a vs) → RVs S H O vs l → RV S H O (.ref a) (.fz l)
  | dK {a : Addr} {kvs : List (Key × V)} {l : List (Key × PV)} : ¬ O a → H a = some (.dK kvs) → KVs S H O kvs l → RV S H O (.ref a) (.dK l)
  | fK {a : Addr} {o : Obj} {kvs : List (Key × V)} {l : List (Key × PV)} : ¬ O a → H a = some (.frz o (.dK kvs)) → KVs S H O kvs l → RV S H O (.ref a) (.fK l)
  | ins {a C dx : Addr} {c : Str} {fs : List (Str × V)} {l : List (Str × PV)} : ¬ O a → H a = some (.ins C dx fs) → S.mg c = some (.ref C) → FVs S H O fs l → RV S H O (.ref a) (.ins c l)
  | exn {a C d : Addr} {c : Str} {fs : List (Str × V)} {l : List (Str × PV)} : ¬ O d → H d = some (.xd fs) → S.mg c = some (.ref C) → FVs S H O fs l → RV S H O (.ref a) (.exn a d c l)
inductive RVs (S : Se) (H : Hp) (O : Addr → Prop) : List V → List PV → Prop
  | nil : RVs S H O [] []
  | cons {v : V} {p : PV} {vs : List V} {l : List PV} : RV S H O v p → RVs S H O vs l → RVs S H O (v :: vs) (p :: l)
inductive KVs (S : Se) (H : Hp) (O : Addr → Prop) : List (Key × V) → List (Key × PV) → Prop
  | nil : KVs S H O [] []
  | cons {k : Key} {v : V} {p : PV} {vs : List (Key × V)} {l : List (Key × PV)} : RV S H O v p → KVs S H O vs l → KVs S H O ((k, v) :: vs) ((k, p) :: l)
inductive FVs (S : Se) (H : Hp) (O : Addr → Prop) : List (Str × V) → List (Str × PV) → Prop
  | nil : FVs S H O [] []
  | cons {k : Str} {v : V} {p : PV} {vs : List (Str × V)} {l : List (Str × PV)} : RV S H O v p → FVs S H O vs l → FVs S H O ((k, v) :: vs) ((k, p) :: l)
end

/-- what is not of O, and no table, stays -/
structure Keep (O : Addr → Prop) (H H' : Hp) : Prop where
  kp : ∀ a o, H a = some o → ¬ O a → NT o → H' a = some o
/-- what is of O' and stood, is of O -/
def Less (H : Hp) (O O' : Addr → Prop) : Prop := ∀ a, Hd H a → O' a → O a

section
variable {S : Se} {H H' : Hp} {O O' : Addr → Prop}
theorem Rd.keepM {a : Addr} {u : HO} (k : Keep O H H') (n : ¬ O a) (r : Rd H a u) (nt : NT u := by exact fun _ z => by cases z) : Rd H' a u := by
  rcases r with r | ⟨o, r⟩
  · exact .inl (k.kp a _ r n nt)
  · exact .inr ⟨o, k.kp a _ r n (fun _ z => by cases z)⟩
theorem Rd.some {a : Addr} {u : HO} (r : Rd H a u) (nt : NT u := by exact fun _ z => by cases z) : Hd H a := by
  rcases r with r | ⟨o, r⟩
  · exact ⟨_, r, nt⟩
  · exact ⟨_, r, nt_frz⟩
mutual
theorem RV.mono (k : Keep O H H') (q : Less H O O') {v : V} {p : PV} : RV S H O v p → RV S H' O' v p
  | .non => .non
  | .bl b => .bl b
  | .int i => .int i
  | .str x => .str x
  | .ty n => .ty n
  | .gl h r => .gl h r
  | .tup n r t => .tup (fun z => n (q _ (Rd.some r) z)) (Rd.keepM k n r) (RVs.mono k q t)
  | .tupK r t => .tupK r (RVs.mono k q t)
  | .lst n r t => .lst (fun z => n (q _ ⟨_, r, fun _ z => by cases z⟩ z)) (k.kp _ _ r n (fun _ z => by cases z)) (RVs.mono k q t)
  | .fz n r t => .fz (fun z => n (q _ ⟨_, r, fun _ z => by cases z⟩ z)) (k.kp _ _ r n (fun _ z => by cases z)) (RVs.mono k q t)
  | .fzK r t => .fzK r (RVs.mono k q t)
  | .dK n r t => .dK (fun z => n (q _ ⟨_, r, fun _ z => by cases z⟩ z)) (k.kp _ _ r n (fun _ z => by cases z)) (KVs.mono k q t)
  | .fK n r t => .fK (fun z => n (q _ ⟨_, r, fun _ z => by cases z⟩ z)) (k.kp _ _ r n (fun _ z => by cases z)) (KVs.mono k q t)
  | .ins n r m t => .ins (fun z => n (q _ ⟨_, r, fun _ z => by cases z⟩ z)) (k.kp _ _ r n (fun _ z => by cases z)) m (FVs.mono k q t)
  | .exn n r m t => .exn (fun z => n (q _ ⟨_, r, fun _ z => by cases z⟩ z)) (k.kp _ _ r n (fun _ z => by cases z)) m (FVs.mono k q t)
theorem RVs.mono (k : Keep O H H') (q : Less H O O') {vs : List V} {l : List PV} : RVs S H O vs l → RVs S H' O' vs l
  | .nil => .nil
  | .cons r t => .cons (RV.mono k q r) (RVs.mono k q t)
theorem KVs.mono (k : Keep O H H') (q : Less H O O') {vs : List (Key × V)} {l : List (Key × PV)} : KVs S H O vs l → KVs S H' O' vs l
  | .nil => .nil
  | .cons r t => .cons (RV.mono k q r) (KVs.mono k q t)
theorem FVs.mono (k : Keep O H H') (q : Less H O O') {vs : List (Str × V)} {l : List (Str × PV)} : FVs S H O vs l → FVs S H' O' vs l
  | .nil => .nil
  | .cons r t => .cons (RV.mono k q r) (FVs.mono k q t)
end
theorem Less.refl : Less H O O := fun _ _ z => z
theorem Keep.refl : Keep O H H := ⟨fun _ _ e _ _ => e⟩
theorem Keep.all {P : Addr → Prop} (h : ∀ a o, H a = some o → H' a = some o) : Keep P H H' := ⟨fun a o e _ _ => h a o e⟩
theorem Keep.upd {p : Addr} {o : HO} (hp : H p = none) : Keep O H (upd H p o) := Keep.all fun a u e => by rw [upd_ne (ne_of_none e hp)]; exact e
theorem tab_own {b P : Addr} {q : Str} {u o : HO} (hb : H b = some u) (nt : NT u) (ne : ∀ φ, u ≠ .ext φ) (t : LamX.TabS H P q) : LamX.TabS (L2.upd H b o) P q := by
  obtain ⟨ps, h1, h2, h3⟩ := t
  refine ⟨ps, ?_, h2, fun pos cv hc => ?_⟩
  · rw [upd_ne (fun z => nt ps (by rw [z, hb] at h1; exact Option.some.inj h1))]; exact h1
  · obtain ⟨c, e1, e2⟩ := h3 pos cv hc
    refine ⟨c, e1, ?_⟩
    rw [upd_ne (fun z => ne _ (by rw [z, hb] at e2; exact Option.some.inj e2))]; exact e2
theorem Keep.own {b : Addr} {u o : HO} (hb : H b = some u) (ob : O b) (nt : NT u := by exact fun _ z => by cases z) (ne : ∀ φ, u ≠ .ext φ := by exact fun _ z => by cases z) : Keep O H (L2.upd H b o) :=
  ⟨fun z w e n _ => by rw [upd_ne (show z ≠ b from fun q => n (q ▸ ob))]; exact e⟩
theorem Keep.trans {H2 : Hp} (a : Keep O H H') (b : Keep O H' H2) : Keep O H H2 := ⟨fun c o e n t => b.kp c o (a.kp c o e n t) n t⟩

theorem RVs.length {vs : List V} {l : List PV} (r : RVs S H O vs l) : vs.length = l.length := by
  match vs, l, r with
  | _, _, .nil => rfl
  | _, _, .cons _ t => exact congrArg Nat.succ (RVs.length t)
theorem RVs.get : ∀ {vs : List V} {l : List PV} {i : Nat} {p : PV}, RVs S H O vs l → l[i]? = some p → ∃ v, vs[i]? = some v ∧ RV S H O v p
  | _, _, _, _, .nil, e => by simp at e
  | _, _, 0, _, .cons r _, e => by simp at e; subst e; exact ⟨_, rfl, r⟩
  | _, _, i + 1, p, .cons _ t, e => by
    obtain ⟨v, h1, h2⟩ := RVs.get (i := i) (p := p) t (by simpa using e)
    exact ⟨v, by simpa using h1, h2⟩
theorem RVs.getV : ∀ {vs : List V} {l : List PV} {i : Nat} {v : V}, RVs S H O vs l → vs[i]? = some v → ∃ p, l[i]? = some p ∧ RV S H O v p
  | _, _, _, _, .nil, e => by simp at e
  | _, _, 0, _, .cons r _, e => by simp at e; subst e; exact ⟨_, rfl, r⟩
  | _, _, i + 1, p, .cons _ t, e => by
    obtain ⟨v, h1, h2⟩ := RVs.getV (i := i) (v := p) t (by simpa using e)
    exact ⟨v, by simpa using h1, h2⟩
theorem RVs.append : ∀ {vs ws : List V} {l m : List PV}, RVs S H O vs l → RVs S H O ws m → RVs S H O (vs ++ ws) (l ++ m)
  | _, _, _, _, .nil, s => s
  | _, _, _, _, .cons r t, s => .cons r (RVs.append t s)
theorem RVs.take : ∀ {vs : List V} {l : List PV} (n : Nat), RVs S H O vs l → RVs S H O (vs.take n) (l.take n)
  | _, _, 0, _ => .nil
  | _, _, _ + 1, .nil => .nil
  | _, _, n + 1, .cons r t => .cons r (RVs.take n t)
theorem RVs.drop : ∀ {vs : List V} {l : List PV} (n : Nat), RVs S H O vs l → RVs S H O (vs.drop n) (l.drop n)
  | _, _, 0, r => r
  | _, _, _ + 1, .nil => .nil
  | _, _, n + 1, .cons _ t => RVs.drop n t
theorem RVs.set {v : V} {p : PV} (r : RV S H O v p) : ∀ {vs : List V} {l : List PV} (i : Nat), RVs S H O vs l → RVs S H O (vs.set i v) (l.set i p)
  | _, _, _, .nil => .nil
  | _, _, 0, .cons _ t => .cons r t
  | _, _, i + 1, .cons q t => .cons q (RVs.set r i t)
theorem RVs.reverse {vs : List V} {l : List PV} (r : RVs S H O vs l) : RVs S H O vs.reverse l.reverse := by
  match vs, l, r with
  | _, _, .nil => exact .nil
  | _, _, .cons q t =>
    rw [List.reverse_cons, List.reverse_cons]
    exact (RVs.reverse t).append (.cons q .nil)
theorem RVs.ints : ∀ {vs : List V} {ns : List Int}, RVs S H O vs (ns.map PV.int) → vs = ns.map V.int
  | _, [], h => by cases h; rfl
  | _, n :: ns, h => by
    cases h with
    | cons r t =>
      cases r
      rw [RVs.ints t]
      rfl
theorem RVs.bls : ∀ {vs : List V} {ns : List Bool}, RVs S H O vs (ns.map PV.bl) → vs = ns.map V.bl
  | _, [], h => by cases h; rfl
  | _, n :: ns, h => by
    cases h with
    | cons r t =>
      cases r
      rw [RVs.bls t]
      rfl
theorem RVs.of_ints : ∀ (ns : List Int), RVs S H O (ns.map V.int) (ns.map PV.int)
  | [] => .nil
  | n :: ns => .cons (.int n) (RVs.of_ints ns)
theorem RV.sqT {a : Addr} {l : List PV} (r : RV S H O (.ref a) (.tup l)) : ∃ vs, SqT S.K H a vs ∧ RVs S H O vs l := by
  cases r with
  | tup n r t => exact ⟨_, .inl r, t⟩
  | tupK r t => exact ⟨_, r H, t⟩
theorem RV.isT {v : V} {l : List PV} (r : RV S H O v (.tup l)) : ∃ a vs, v = .ref a ∧ SqT S.K H a vs ∧ RVs S H O vs l := by
  cases r with
  | tup n r t => exact ⟨_, _, rfl, .inl r, t⟩
  | tupK r t => exact ⟨_, _, rfl, r H, t⟩
theorem RV.isL {v : V} {l : List PV} (r : RV S H O v (.lst l)) : ∃ a vs, v = .ref a ∧ H a = some (.lst vs) ∧ RVs S H O vs l := by
  cases r with
  | lst n r t => exact ⟨_, _, rfl, r, t⟩
theorem RV.isF {v : V} {l : List PV} (r : RV S H O v (.fz l)) : ∃ a vs, v = .ref a ∧ SqL S.K H a vs ∧ RVs S H O vs l := by
  cases r with
  | fz n r t => exact ⟨_, _, rfl, .inl (.inr ⟨_, r⟩), t⟩
  | fzK r t => exact ⟨_, _, rfl, r H, t⟩
theorem RVs.newT {vs : List V} {l : List PV} {p : Addr} (r : RVs S H O vs l) (hp : H p = none) (hO : ∀ a, O a → Hd H a) : RV S (upd H p (.tup vs)) O (.ref p) (.tup l) :=
  .tup (fun z => (hO p z).ne hp) (.inl upd_same) (r.mono (Keep.upd hp) Less.refl)
theorem RVs.newL {vs : List V} {l : List PV} {p : Addr} (r : RVs S H O vs l) (hp : H p = none) (hO : ∀ a, O a → Hd H a) : RV S (upd H p (.lst vs)) O (.ref p) (.lst l) :=
  .lst (fun z => (hO p z).ne hp) upd_same (r.mono (Keep.upd hp) Less.refl)
end

/-! ### the frame's names, told whole -/
abbrev En := List (Option PV)
def Own (ow : List Nat) (σ : L2.St) (a : Addr) : Prop := ∃ i, i ∈ ow ∧ σ[i]? = some (some (.ref a))
def Gd (G : Addr → Prop) (ow : List Nat) (σ : L2.St) (a : Addr) : Prop := G a ∨ Own ow σ a
/-- a cell that can change, as it stands -/
def At (S : Se) (H : Hp) (O : Addr → Prop) (v : V) : PV → Prop
  | .lst l => ∃ a vs, v = .ref a ∧ H a = some (.lst vs) ∧ RVs S H O vs l
  | .dK l => ∃ a kvs, v = .ref a ∧ H a = some (.dK kvs) ∧ KVs S H O kvs l
  | _ => False
structure ER (S : Se) (G : Addr → Prop) (ow : List Nat) (σ : L2.St) (H : Hp) (e : En) : Prop where
  val : ∀ i p, e[i]? = some (some p) → i ∉ ow → ∃ v, σ[i]? = some (some v) ∧ RV S H (Gd G ow σ) v p
  own : ∀ i p, e[i]? = some (some p) → i ∈ ow → ∃ v, σ[i]? = some (some v) ∧ At S H (Gd G ow σ) v p
  off : ∀ i, i ∈ ow → (∀ p, e[i]? ≠ some (some p)) → ∀ a, σ[i]? ≠ some (some (.ref a))
  sep : ∀ i j a, i ∈ ow → j ∈ ow → σ[i]? = some (some (.ref a)) → σ[j]? = some (some (.ref a)) → i = j
  ng : ∀ i a, i ∈ ow → σ[i]? = some (some (.ref a)) → ¬ G a
  gt : ∀ a, G a → Hd H a
  tb : ∀ p ∈ S.T, LamX.TabS H p.1 p.2
  len : e.length = σ.length
section
variable {S : Se} {G : Addr → Prop} {ow ow' : List Nat} {σ : L2.St} {H H' : Hp} {e e' : En}
theorem At.mono {O O' : Addr → Prop} {v : V} {p : PV} (h : At S H O v p) (k : Keep O H H') (q : Less H O O') (s : ∀ a, v = .ref a → H' a = H a) : At S H' O' v p := by
  cases p with
  | lst l => obtain ⟨a, vs, rfl, e1, t⟩ := h; exact ⟨a, vs, rfl, by rw [s a rfl]; exact e1, t.mono k q⟩
  | dK l => obtain ⟨a, vs, rfl, e1, t⟩ := h; exact ⟨a, vs, rfl, by rw [s a rfl]; exact e1, t.mono k q⟩
  | _ => exact h
theorem At.ref {O : Addr → Prop} {v : V} {p : PV} (h : At S H O v p) : ∃ a, v = .ref a ∧ Hd H a := by
  cases p with
  | lst l => obtain ⟨a, vs, rfl, e1, t⟩ := h; exact ⟨a, rfl, _, e1, nt_lst⟩
  | dK l => obtain ⟨a, vs, rfl, e1, t⟩ := h; exact ⟨a, rfl, _, e1, nt_dK⟩
  | _ => exact h.elim
theorem ER.ownT (R : ER S G ow σ H e) {a : Addr} (h : Own ow σ a) : Hd H a := by
  obtain ⟨i, hi, e1⟩ := h
  by_cases q : ∃ p, e[i]? = some (some p)
  · obtain ⟨p, q⟩ := q
    obtain ⟨v, e2, t⟩ := R.own i p q hi
    rw [e1] at e2; cases e2
    obtain ⟨b, e3, e4⟩ := t.ref
    cases e3
    exact e4
  · exact absurd e1 (R.off i hi (fun p z => q ⟨p, z⟩) a)
theorem ER.tracked (R : ER S G ow σ H e) : ∀ a, Gd G ow σ a → Hd H a := fun a h => h.elim (R.gt a) R.ownT
theorem Keep.gd {O : Addr → Prop} (k : Keep O H H') : Keep (fun a => G a ∨ O a) H H' := ⟨fun a o e n t => k.kp a o e (fun z => n (.inr z)) t⟩
/-- new cells alone -/
theorem ER.keep (R : ER S G ow σ H e) (k : ∀ a o, H a = some o → H' a = some o) : ER S G ow σ H' e := by
  have kk : Keep (Gd G ow σ) H H' := Keep.all k
  refine ⟨fun i p h1 h2 => ?_, fun i p h1 h2 => ?_, R.off, R.sep, R.ng, fun a g => ?_, fun p hp => (R.tb p hp).ext k, R.len⟩
  · obtain ⟨v, h3, h4⟩ := R.val i p h1 h2
    exact ⟨v, h3, h4.mono kk Less.refl⟩
  · obtain ⟨v, h3, h4⟩ := R.own i p h1 h2
    refine ⟨v, h3, h4.mono kk Less.refl fun a z => ?_⟩
    obtain ⟨b, e3, e4⟩ := h4.ref
    rw [z] at e3; cases e3
    obtain ⟨o, q, _⟩ := e4
    rw [q, k a o q]
  · obtain ⟨o, q, nt⟩ := R.gt a g
    exact ⟨o, k a o q, nt⟩
theorem ER.new (R : ER S G ow σ H e) {p : Addr} {o : HO} (hp : H p = none) : ER S G ow σ (upd H p o) e := R.keep fun a u z => by rw [upd_ne (ne_of_none z hp)]; exact z
/-- a cell is let go: it does not change any more -/
theorem Own.less {a : Addr} (h : ∀ i ∈ ow', i ∈ ow) (z : Own ow' σ a) : Own ow σ a := let ⟨i, hi, e⟩ := z; ⟨i, h i hi, e⟩
theorem Gd.less {a : Addr} (h : ∀ i ∈ ow', i ∈ ow) (z : Gd G ow' σ a) : Gd G ow σ a := z.imp id (Own.less h)
theorem ER.less (R : ER S G ow σ H e) (h : ∀ i ∈ ow', i ∈ ow) : ER S G ow' σ H e := by
  have q : Less H (Gd G ow σ) (Gd G ow' σ) := fun a _ z => z.less h
  refine ⟨fun i p h1 h2 => ?_, fun i p h1 h2 => ?_, fun i hi => R.off i (h i hi), fun i j a hi hj => R.sep i j a (h i hi) (h j hj), fun i a hi => R.ng i a (h i hi), R.gt, R.tb, R.len⟩
  · by_cases h3 : i ∈ ow
    · obtain ⟨v, h4, h5⟩ := R.own i p h1 h3
      refine ⟨v, h4, ?_⟩
      have no : ∀ a, v = .ref a → ¬ Gd G ow' σ a := fun a z g => by
        subst z
        rcases g with g | ⟨j, hj, e1⟩
        · exact R.ng i a h3 h4 g
        · exact h2 (R.sep i j a h3 (h j hj) h4 e1 ▸ hj)
      cases p with
      | lst l => obtain ⟨a, vs, rfl, e1, t⟩ := h5; exact .lst (no a rfl) e1 (t.mono Keep.refl q)
      | dK l => obtain ⟨a, vs, rfl, e1, t⟩ := h5; exact .dK (no a rfl) e1 (t.mono Keep.refl q)
      | _ => exact h5.elim
    · obtain ⟨v, h4, h5⟩ := R.val i p h1 h3
      exact ⟨v, h4, h5.mono Keep.refl q⟩
  · obtain ⟨v, h3, h4⟩ := R.own i p h1 (h i h2)
    exact ⟨v, h3, h4.mono Keep.refl q fun _ _ => rfl⟩
end

/-! ### what comes out -/
structure Ex where
  c : Str
  fs : List (Str × PV)
inductive Out (α : Type) where
  | ok (a : α) (e : En)
  | exc (x : Ex) (e : En)
  | bad
def Out.bind {α β : Type} (o : Out α) (f : α → En → Out β) : Out β := match o with
  | .ok a e => f a e
  | .exc x e => .exc x e
  | .bad => .bad
/-- a partial function's value -/
def lift {α : Type} (o : Option α) (e : En) : Out α := match o with
  | some a => .ok a e
  | none => .bad
abbrev Mo (α : Type) := En → Out α

/-- what is wanted of an exception: its class, its dict, the frame's names, the heap -/
abbrev XW := Value → Option Addr → L2.St → Hp → Prop
def ExAt (S : Se) (H : Hp) (O : Addr → Prop) (cls : Value) (d : Option Addr) (x : Ex) : Prop :=
  S.mg x.c = some cls ∧ match d with
  | none => x.fs = []
  | some a => ¬ O a ∧ ∃ fs, H a = some (.xd fs) ∧ FVs S H O fs x.fs
/-- the static part of a frame -/
structure Fm where
  S : Se
  G : Addr → Prop
  io : List Nat
  W : XW
def Post {α : Type} (F : Fm) (ow : List Nat) (σ : L2.St) (H : Hp) (o : Out α) (R : α → En → Hp → Prop) : Prop := match o with
  | .ok a e => ∀ H', Keep (Own ow σ) H H' → ER F.S F.G ow σ H' e → R a e H'
  | .exc x e => ∀ H' cls d, Keep (Own ow σ) H H' → ER F.S F.G ow σ H' e → ExAt F.S H' (Gd F.G ow σ) cls d x → F.W cls d σ H'
  | .bad => False
section
variable {α β : Type} {F : Fm} {ow : List Nat} {σ : L2.St} {H H' : Hp}
theorem Post.mono {o : Out α} {R R' : α → En → Hp → Prop} (p : Post F ow σ H o R) (h : ∀ a e H', Keep (Own ow σ) H H' → ER F.S F.G ow σ H' e → R a e H' → R' a e H') : Post F ow σ H o R' := by
  cases o with
  | ok a e => exact fun H' k r => h a e H' k r (p H' k r)
  | exc x e => exact p
  | bad => exact p
theorem Post.from {o : Out α} {R : α → En → Hp → Prop} (p : Post F ow σ H o R) (k : Keep (Own ow σ) H H') : Post F ow σ H' o R := by
  cases o with
  | ok a e => exact fun H2 k2 r => p H2 (k.trans k2) r
  | exc x e => exact fun H2 c d k2 r => p H2 c d (k.trans k2) r
  | bad => exact p
/-- the first half of a pair of steps -/
theorem Post.unbind {o : Out α} {f : α → En → Out β} {R : β → En → Hp → Prop} (p : Post F ow σ H (o.bind f) R) : Post F ow σ H o fun a e H1 => Post F ow σ H1 (f a e) R := by
  cases o with
  | ok a e => exact fun H' k r => Post.from p k
  | exc x e => exact p
  | bad => exact p
theorem Post.of_lift {o : Option α} {e : En} {R : α → En → Hp → Prop} (p : Post F ow σ H (lift o e) R) (er : ER F.S F.G ow σ H e) : ∃ a, o = some a ∧ ∀ H', (∀ a u, H a = some u → H' a = some u) → R a e H' := by
  cases o with
  | none => exact p.elim
  | some a => exact ⟨a, rfl, fun H' k => p H' (Keep.all k) (er.keep k)⟩
end

/-- an expression's reading, by its mirror -/
def rd (F : Fm) (ow : List Nat) (m : Mo PV) : TE := fun σ H Q => ∃ e, ER F.S F.G ow σ H e ∧ Post F ow σ H (m e) fun p _ H' => ∀ v, RV F.S H' (Gd F.G ow σ) v p → Q v H'
def rdT (F : Fm) (ow : List Nat) (m : Mo Bool) : TT := fun σ H Q => ∃ e, ER F.S F.G ow σ H e ∧ Post F ow σ H (m e) fun b _ H' => Q b H'
def rdA (F : Fm) (ow : List Nat) (m : Mo (List PV)) : TA := fun σ H Q => ∃ e, ER F.S F.G ow σ H e ∧ Post F ow σ H (m e) fun l _ H' => ∀ vs, RVs F.S H' (Gd F.G ow σ) vs l → Q vs H'
end M

namespace M
open PySem PySem.Spec PyProof.Rows L2

/-! ### data -/
mutual
def toD : PV → Option PyData
  | .non => some .none
  | .bl b => some (.bool b)
  | .int i => some (.int i)
  | .str x => some (.str x)
  | .tup l => (toDs l).map .tuple
  | .lst l => (toDs l).map .list
  | .fz _ => none
  | .ty _ => none
  | .gl _ => none
  | .dK _ => none
  | .fK _ => none
  | .ins _ _ => none
  | .exn _ _ _ _ => none
def toDs : List PV → Option (List PyData)
  | [] => some []
  | p :: l => (toD p).bind fun d => (toDs l).map fun ds => d :: ds
end
section
variable {S : Se} {H : Hp} {O : Addr → Prop}
mutual
theorem RV.dp {v : V} {p : PV} {d : PyData} : RV S H O v p → toD p = some d → Dp S.K H v d
  | .non, e => by simp only [toD] at e; cases e; exact .non
  | .bl b, e => by simp only [toD] at e; cases e; exact .bl b
  | .int i, e => by simp only [toD] at e; cases e; exact .int i
  | .str x, e => by simp only [toD] at e; cases e; exact .str x
  | .ty n, e => by simp [toD] at e
  | .gl _ _, e => by simp [toD] at e
  | .tup (l := l) n r t, e => by
    simp only [toD] at e
    cases q : toDs l with
    | none => rw [q] at e; cases e
    | some ds => rw [q] at e; cases e; exact .tup (.inl r) (RVs.dp t q)
  | .tupK (l := l) r t, e => by
    simp only [toD] at e
    cases q : toDs l with
    | none => rw [q] at e; cases e
    | some ds => rw [q] at e; cases e; exact .tup (r H) (RVs.dp t q)
  | .lst (l := l) n r t, e => by
    simp only [toD] at e
    cases q : toDs l with
    | none => rw [q] at e; cases e
    | some ds => rw [q] at e; cases e; exact .lst (.inl (.inl r)) (RVs.dp t q)
  | .fz _ _ _, e => by simp [toD] at e
  | .fzK _ _, e => by simp [toD] at e
  | .dK _ _ _, e => by simp [toD] at e
  | .fK _ _ _, e => by simp [toD] at e
  | .ins _ _ _ _, e => by simp [toD] at e
  | .exn _ _ _ _, e => by simp [toD] at e
theorem RVs.dp {vs : List V} {l : List PV} {ds : List PyData} : RVs S H O vs l → toDs l = some ds → DpAll S.K H vs ds
  | .nil, e => by simp only [toDs] at e; cases e; exact .nil
  | .cons (p := p) (l := l) r t, e => by
    simp only [toDs] at e
    cases q1 : toD p with
    | none => rw [q1] at e; cases e
    | some d =>
      rw [q1] at e
      cases q2 : toDs l with
      | none => rw [q2] at e; cases e
      | some ds => rw [q2] at e; cases e; exact .cons (RV.dp r q1) (RVs.dp t q2)
end
end

def eqD (a b : PV) : Option Bool := match toD a, toD b with
  | some d, some e => if SeqAt.shaped d && SeqAt.shaped e then some (d.eqv e) else none
  | _, _ => none
theorem eqD_some {a b : PV} {k : Bool} (h : eqD a b = some k) : ∃ d e, toD a = some d ∧ toD b = some e ∧ SeqAt.shaped d = true ∧ SeqAt.shaped e = true ∧ d.eqv e = k := by
  unfold eqD at h
  split at h
  · rename_i d e h1 h2
    split at h
    · rename_i h3
      rw [Bool.and_eq_true] at h3
      cases h
      exact ⟨d, e, h1, h2, h3.1, h3.2, rfl⟩
    · cases h
  · cases h

def truth : PV → Option Bool
  | .non => some false
  | .bl b => some b
  | .int i => some (i != 0)
  | .str y => if y.length ≤ sizeLine then some ((y.length : Int) != 0) else none
  | .tup l => some (!l.isEmpty)
  | .lst l => some (!l.isEmpty)
  | .fz l => some (!l.isEmpty)
  | .dK l => some (!l.isEmpty)
  | _ => none
theorem KVs.length {S : Se} {H : Hp} {O : Addr → Prop} : ∀ {vs : List (Key × V)} {l : List (Key × PV)}, KVs S H O vs l → vs.length = l.length
  | _, _, .nil => rfl
  | _, _, .cons _ t => congrArg Nat.succ (KVs.length t)
theorem emp_of {α β : Type} {l : List α} {m : List β} (h : l.length = m.length) : (!l.isEmpty) = !m.isEmpty := by
  cases l <;> cases m <;> simp_all
theorem RV.tru {S : Se} {H : Hp} {O : Addr → Prop} {v : V} {p : PV} {k : Bool} (r : RV S H O v p) (h : truth p = some k) : TruV S.K v H k := by
  cases r with
  | non => cases h; rfl
  | bl b => cases h; rfl
  | int i => cases h; rfl
  | str x =>
    simp only [truth] at h
    split at h
    · rename_i q; cases h; exact ⟨q, rfl⟩
    · cases h
  | tup n r t => cases h; exact .inr (.inl ⟨_, .inl r, (emp_of t.length).symm⟩)
  | tupK r t => cases h; exact .inr (.inl ⟨_, r H, (emp_of t.length).symm⟩)
  | lst n r t => cases h; exact .inl ⟨_, .inl (.inl r), (emp_of t.length).symm⟩
  | fz n r t => cases h; exact .inl ⟨_, .inl (.inr ⟨_, r⟩), (emp_of t.length).symm⟩
  | fzK r t => cases h; exact .inl ⟨_, r H, (emp_of t.length).symm⟩
  | dK n r t => cases h; exact .inr (.inr ⟨_, r, (emp_of t.length).symm⟩)
  | _ => cases h

/-! ### readings, weakened -/
section
variable {X : Cx}
theorem _root_.L2.PE.imp {e : Expr} {t t' : TE} (h : PE X e t) (i : ∀ σ H Q, t' σ H Q → t σ H Q) : PE X e t' := ⟨fun pins s σ H Q I q => h.run pins s σ H Q I (i σ H Q q)⟩
theorem _root_.L2.PT.imp {e : Expr} {t t' : TT} (h : PT X e t) (i : ∀ σ H Q, t' σ H Q → t σ H Q) : PT X e t' := ⟨fun pins s σ H Q I q => h.run pins s σ H Q I (i σ H Q q)⟩
theorem _root_.L2.PW.imp {e : Expr} {t t' : TT} (h : PW X e t) (i : ∀ σ H Q, t' σ H Q → t σ H Q) : PW X e t' := ⟨fun wh pins s σ H Q I q => h.run wh pins s σ H Q I (i σ H Q q)⟩
theorem _root_.L2.PA.imp {e : List Expr} {t t' : TA} (h : PA X e t) (i : ∀ σ H Q, t' σ H Q → t σ H Q) : PA X e t' := ⟨fun pos pins s σ H Q I q => h.run pos pins s σ H Q I (i σ H Q q)⟩
theorem _root_.L2.PS.imp {e : Stmt} {t t' : TS} (h : PS X e t) (i : ∀ D σ H, t' D σ H → t D σ H) : PS X e t' := ⟨fun pins s σ H D I q => h.run pins s σ H D I (i D σ H q)⟩
theorem _root_.L2.PSs.imp {e : List Stmt} {t t' : TS} (h : PSs X e t) (i : ∀ D σ H, t' D σ H → t D σ H) : PSs X e t' := ⟨fun pins s σ H D I q => h.run pins s σ H D I (i D σ H q)⟩
end

/-! ### names, constants -/
section
variable {X : Cx} {F : Fm} {ow : List Nat}
def mVar (i : Nat) : Mo PV := fun e => match e[i]? with
  | some (some p) => .ok p e
  | _ => .bad
def mC (p : PV) : Mo PV := fun e => .ok p e
theorem pm_var (i : Nat) {x : Str} {pos : Pos} (hi : i ∉ ow := by decide) (hN : X.N[i]? = some x := by rfl) (hv : Vis X.env.scope x := by first | exact .inl rfl | exact .inr (.inl rfl) | exact .inr (.inr rfl))
    (hd : (x == ("__debug__" : Str)) = false := by decide) (hcd : (x == ("__classdict__" : Str)) = false := by decide) : PE X (.Name x pos) (rd F ow (mVar i)) :=
  (pe_var hN hv hd hcd).imp fun σ H Q ⟨e, R, p⟩ => by
    unfold mVar at p
    split at p
    · rename_i q h
      obtain ⟨v, h1, h2⟩ := R.val i q h hi
      exact ⟨v, h1, p H Keep.refl R v h2⟩
    · exact p.elim
theorem rd_C {p : PV} {v : V} {σ : L2.St} {H : Hp} {Q : VK} (h : rd F ow (mC p) σ H Q) (r : ∀ H O, RV F.S H O v p) : tC v σ H Q := by
  obtain ⟨e, R, q⟩ := h
  exact q H Keep.refl R v (r _ _)
theorem pm_int {i j pos} : PE X (.Constant (.int i) j pos) (rd F ow (mC (.int i))) := pe_int.imp fun _ _ _ h => rd_C h fun _ _ => .int i
theorem pm_bl {b j pos} : PE X (.Constant (.bool b) j pos) (rd F ow (mC (.bl b))) := pe_bl.imp fun _ _ _ h => rd_C h fun _ _ => .bl b
theorem pm_non {j pos} : PE X (.Constant .none j pos) (rd F ow (mC .non)) := pe_non.imp fun _ _ _ h => rd_C h fun _ _ => .non
theorem pm_str {x j pos} : PE X (.Constant (.str x) j pos) (rd F ow (mC (.str x))) := pe_str.imp fun _ _ _ h => rd_C h fun _ _ => .str x
/-- an int of the module -/
theorem pm_glI {x : Str} {i : Int} {t : Tok} {pos : Pos} (hg : Gl X x) (hm : X.mg x = some (.int i t)) (hd : (x == ("__debug__" : Str)) = false := by decide) : PE X (.Name x pos) (rd F ow (mC (.int i))) :=
  (pe_glob (v := .int i) hg hm ⟨t, rfl⟩ hd).imp fun _ _ _ h => rd_C h fun _ _ => .int i
theorem pm_ty {x : Str} {n : String} {pos : Pos} (hg : Gl X x) (hm : X.mg x = none) (hv : bootBuiltins x = some (.type n)) (hn : x ≠ "__name__" := by decide) (hd : (x == ("__debug__" : Str)) = false := by decide) : PE X (.Name x pos) (rd F ow (mC (.ty n))) :=
  (pe_bltn (v := .ty n) hg hm hv rfl hn hd).imp fun _ _ _ h => rd_C h fun _ _ => .ty n

/-! ### two-place operations, by values -/
abbrev Pre (H : Hp) (O : Addr → Prop) : Prop := ∀ a, O a → Hd H a
def BinOk (X : Cx) (F : Fm) (f : Value → Value → Sem Value) (g : PV → PV → Option PV) : Prop := ∀ O : Addr → Prop, ∃ r : R2, OpR X f r ∧
  ∀ H x y a b c Q, Pre H O → RV F.S H O x a → RV F.S H O y b → g a b = some c → (∀ v H', (∀ z u, H z = some u → H' z = some u) → RV F.S H' O v c → Q v H') → r x y H Q
def mBin (g : PV → PV → Option PV) (ma mb : Mo PV) : Mo PV := fun e => (ma e).bind fun a e1 => (mb e1).bind fun b e2 => lift (g a b) e2
/-- the rule by values gives a step's end -/
theorem bin_end {g : PV → PV → Option PV} {f : Value → Value → Sem Value} (h : BinOk X F f g) : OpR X f fun x y H Q => ∃ (O : Addr → Prop) (a b c : PV), Pre H O ∧ RV F.S H O x a ∧ RV F.S H O y b ∧ g a b = some c ∧ ∀ v H', (∀ z u, H z = some u → H' z = some u) → RV F.S H' O v c → Q v H' := by
  intro pins s σ H x y v u Q I rx ry ⟨O, a, b, c, p, ra, rb, e, q⟩
  obtain ⟨r, hr, k⟩ := h O
  exact hr pins s σ H x y v u Q I rx ry (k H x y a b c Q p ra rb e q)
theorem bin_go {g : PV → PV → Option PV} {ma mb : Mo PV} {σ : L2.St} {H : Hp} {Q : VK} (h : rd F ow (mBin g ma mb) σ H Q) :
    rd F ow ma σ H fun x H1 => rd F ow mb σ H1 fun y H2 => ∃ (O : Addr → Prop) (a b c : PV), Pre H2 O ∧ RV F.S H2 O x a ∧ RV F.S H2 O y b ∧ g a b = some c ∧ ∀ v H', (∀ z u, H2 z = some u → H' z = some u) → RV F.S H' O v c → Q v H' := by
  obtain ⟨e, R, p⟩ := h
  refine ⟨e, R, (Post.unbind p).mono fun a e1 H1 k1 R1 p1 x rx => ⟨e1, R1, (Post.unbind p1).mono fun b e2 H2 k2 R2 p2 y ry => ?_⟩⟩
  obtain ⟨c, hc, q⟩ := p2.of_lift R2
  exact ⟨Gd F.G ow σ, a, b, c, R2.tracked, rx.mono k2.gd Less.refl, ry, hc, fun v H' k rv => q H' k v rv⟩
theorem pm_bin {a b : Expr} {op : Operator} {g : PV → PV → Option PV} {ma mb : Mo PV} {pos : Pos} (h : BinOk X F (binaryOp op) g) (ha : PE X a (rd F ow ma)) (hb : PE X b (rd F ow mb)) : PE X (.BinOp a op b pos) (rd F ow (mBin g ma mb)) :=
  (pe_op (bin_end h) ha hb).imp fun σ H Q h => bin_go h
theorem pm_cmp {a b : Expr} {op : CmpOp} {g : PV → PV → Option PV} {ma mb : Mo PV} {pos : Pos} (h : BinOk X F (compareOp op) g) (ha : PE X a (rd F ow ma)) (hb : PE X b (rd F ow mb)) (hm : behindInMarks op b = false) : PE X (.Compare a [op] [b] pos) (rd F ow (mBin g ma mb)) :=
  (pe_cmpR (bin_end h) ha hb hm).imp fun σ H Q h => bin_go h
/-- .. as a test -/
def isB : PV → Option Bool
  | .bl b => some b
  | _ => none
def mTB (m : Mo PV) : Mo Bool := fun e => (m e).bind fun p e1 => lift (isB p) e1
theorem isB_some {p : PV} {b : Bool} (h : isB p = some b) : p = .bl b := by
  cases p <;> first | (cases h; done) | (cases h; rfl)
theorem tb_go {m : Mo PV} {σ : L2.St} {H : Hp} {Q : Bool → Hp → Prop} (h : rdT F ow (mTB m) σ H Q) : rd F ow m σ H fun x H1 => ∃ k, x = .bl k ∧ Q k H1 := by
  obtain ⟨e, R, p⟩ := h
  refine ⟨e, R, (Post.unbind p).mono fun a e1 H1 k1 R1 p1 x rx => ?_⟩
  obtain ⟨c, hc, q⟩ := p1.of_lift R1
  rw [isB_some hc] at rx
  cases rx
  exact ⟨c, rfl, q H1 fun _ _ z => z⟩
theorem pm_tcmp {a b : Expr} {op : CmpOp} {g : PV → PV → Option PV} {ma mb : Mo PV} {pos : Pos} (h : BinOk X F (compareOp op) g) (ha : PE X a (rd F ow ma)) (hb : PE X b (rd F ow mb)) (hm : behindInMarks op b = false) : PT X (.Compare a [op] [b] pos) (rdT F ow (mTB (mBin g ma mb))) :=
  (pt_cmpR (bin_end h) ha hb hm).imp fun σ H Q h => bin_go (tb_go h)
/-- any expression by its truth -/
def mTr (m : Mo PV) : Mo Bool := fun e => (m e).bind fun p e1 => lift (truth p) e1
theorem tr_go {m : Mo PV} (hS : F.S = ⟨X.K, X.mg, F.S.T⟩) {σ : L2.St} {H : Hp} {Q : Bool → Hp → Prop} (h : rdT F ow (mTr m) σ H Q) : rd F ow m σ H fun x H1 => ∃ k, TruV X.K x H1 k ∧ Q k H1 := by
  obtain ⟨e, R, p⟩ := h
  refine ⟨e, R, (Post.unbind p).mono fun a e1 H1 k1 R1 p1 x rx => ?_⟩
  obtain ⟨c, hc, q⟩ := p1.of_lift R1
  have z := rx.tru hc
  rw [hS] at z
  exact ⟨c, z, q H1 fun _ _ z => z⟩
theorem pm_tr {a : Expr} {m : Mo PV} (ha : PE X a (rd F ow m)) (he : ∀ whole, isTrue a X.env whole = (do let v ← whole; standAt a.pos; holding [v] (truthy v)) := by intro _; rfl) (hS : F.S = ⟨X.K, X.mg, F.S.T⟩ := by rfl) : PT X a (rdT F ow (mTr m)) :=
  (pt_truth ha he).imp fun σ H Q h => tr_go hS h
/-! ### and, or, not -/
def mAnd (a b : Mo Bool) : Mo Bool := fun e => (a e).bind fun k e1 => if k = true then b e1 else .ok false e1
def mOr (a b : Mo Bool) : Mo Bool := fun e => (a e).bind fun k e1 => if k = true then .ok true e1 else b e1
def mNot (a : Mo Bool) : Mo Bool := fun e => (a e).bind fun k e1 => .ok (!k) e1
theorem pm_not {a : Expr} {m : Mo Bool} {pos : Pos} (ha : PT X a (rdT F ow m)) : PT X (.UnaryOp .Not a pos) (rdT F ow (mNot m)) :=
  (pt_not ha).imp fun σ H Q ⟨e, R, p⟩ => ⟨e, R, (Post.unbind p).mono fun k e1 H1 k1 R1 p1 => p1 H1 Keep.refl R1⟩
theorem and_go {m m' : Mo Bool} {σ : L2.St} {H : Hp} {Q : Bool → Hp → Prop} (h : rdT F ow (mAnd m m') σ H Q) : tAnd (rdT F ow m) (rdT F ow m') σ H Q := by
  obtain ⟨e, R, p⟩ := h
  refine ⟨e, R, (Post.unbind p).mono fun k e1 H1 k1 R1 p1 => ?_⟩
  cases k with
  | true => exact ⟨e1, R1, p1⟩
  | false => exact p1 H1 Keep.refl R1
theorem or_go {m m' : Mo Bool} {σ : L2.St} {H : Hp} {Q : Bool → Hp → Prop} (h : rdT F ow (mOr m m') σ H Q) : tOr (rdT F ow m) (rdT F ow m') σ H Q := by
  obtain ⟨e, R, p⟩ := h
  refine ⟨e, R, (Post.unbind p).mono fun k e1 H1 k1 R1 p1 => ?_⟩
  cases k with
  | false => exact ⟨e1, R1, p1⟩
  | true => exact p1 H1 Keep.refl R1
theorem pw_andM {a b : Expr} {rest : List Expr} {m m' : Mo Bool} {pos : Pos} (ha : PT X a (rdT F ow m)) (hb : PW X (.BoolOp .And (b :: rest) pos) (rdT F ow m')) : PW X (.BoolOp .And (a :: b :: rest) pos) (rdT F ow (mAnd m m')) :=
  (pw_and ha hb).imp fun σ H Q h => and_go h
theorem pw_orM {a b : Expr} {rest : List Expr} {m m' : Mo Bool} {pos : Pos} (ha : PT X a (rdT F ow m)) (hb : PW X (.BoolOp .Or (b :: rest) pos) (rdT F ow m')) : PW X (.BoolOp .Or (a :: b :: rest) pos) (rdT F ow (mOr m m')) :=
  (pw_or ha hb).imp fun σ H Q h => or_go h
/-- as values: the first one by truth -/
def mAndV (a b : Mo PV) : Mo PV := fun e => (a e).bind fun p e1 => (lift (truth p) e1).bind fun k e2 => if k = true then b e2 else .ok p e2
def mOrV (a b : Mo PV) : Mo PV := fun e => (a e).bind fun p e1 => (lift (truth p) e1).bind fun k e2 => if k = true then .ok p e2 else b e2
def mNotV (a : Mo PV) : Mo PV := fun e => (a e).bind fun p e1 => (lift (truth p) e1).bind fun k e2 => .ok (.bl (!k)) e2
theorem pm_andV {a b : Expr} {rest : List Expr} {m m' : Mo PV} {pos : Pos} (ha : PE X a (rd F ow m)) (hb : PE X (.BoolOp .And (b :: rest) pos) (rd F ow m')) (hS : F.S = ⟨X.K, X.mg, F.S.T⟩ := by rfl) : PE X (.BoolOp .And (a :: b :: rest) pos) (rd F ow (mAndV m m')) :=
  (pe_andT ha hb).imp fun σ H Q ⟨e, R, p⟩ => by
    refine ⟨e, R, (Post.unbind p).mono fun p1 e1 H1 k1 R1 q1 x rx => ?_⟩
    obtain ⟨k, hk, q2⟩ := (Post.unbind q1).of_lift R1
    have z := rx.tru hk
    rw [hS] at z
    have q3 := q2 H1 fun _ _ z => z
    refine ⟨k, z, ?_⟩
    cases k with
    | true => exact ⟨e1, R1, q3⟩
    | false => exact q3 H1 Keep.refl R1 x rx
theorem pm_orV {a b : Expr} {rest : List Expr} {m m' : Mo PV} {pos : Pos} (ha : PE X a (rd F ow m)) (hb : PE X (.BoolOp .Or (b :: rest) pos) (rd F ow m')) (hS : F.S = ⟨X.K, X.mg, F.S.T⟩ := by rfl) : PE X (.BoolOp .Or (a :: b :: rest) pos) (rd F ow (mOrV m m')) :=
  (pe_orT ha hb).imp fun σ H Q ⟨e, R, p⟩ => by
    refine ⟨e, R, (Post.unbind p).mono fun p1 e1 H1 k1 R1 q1 x rx => ?_⟩
    obtain ⟨k, hk, q2⟩ := (Post.unbind q1).of_lift R1
    have z := rx.tru hk
    rw [hS] at z
    have q3 := q2 H1 fun _ _ z => z
    refine ⟨k, z, ?_⟩
    cases k with
    | false => exact ⟨e1, R1, q3⟩
    | true => exact q3 H1 Keep.refl R1 x rx
theorem pm_notV {a : Expr} {m : Mo PV} {pos : Pos} (ha : PE X a (rd F ow m)) (hS : F.S = ⟨X.K, X.mg, F.S.T⟩ := by rfl) : PE X (.UnaryOp .Not a pos) (rd F ow (mNotV m)) :=
  (pe_notT ha).imp fun σ H Q ⟨e, R, p⟩ => by
    refine ⟨e, R, (Post.unbind p).mono fun p1 e1 H1 k1 R1 q1 x rx => ?_⟩
    obtain ⟨k, hk, q2⟩ := (Post.unbind q1).of_lift R1
    have z := rx.tru hk
    rw [hS] at z
    exact ⟨k, z, q2 H1 (fun _ _ z => z) H1 Keep.refl R1 _ (.bl _)⟩
/-- a if t else b -/
def mIf (t : Mo Bool) (a b : Mo PV) : Mo PV := fun e => (t e).bind fun k e1 => if k = true then a e1 else b e1
theorem pm_if {c a b : Expr} {t : Mo Bool} {m m' : Mo PV} {pos : Pos} (hc : PT X c (rdT F ow t)) (ha : PE X a (rd F ow m)) (hb : PE X b (rd F ow m')) : PE X (.IfExp c a b pos) (rd F ow (mIf t m m')) :=
  (pe_ifExp hc ha hb).imp fun σ H Q ⟨e, R, p⟩ => by
    refine ⟨e, R, (Post.unbind p).mono fun k e1 H1 k1 R1 q1 => ?_⟩
    cases k with
    | true => exact ⟨e1, R1, q1⟩
    | false => exact ⟨e1, R1, q1⟩
/-- a op b op' c -/
def mChain (g g' : PV → PV → Option PV) (ma mb mc : Mo PV) : Mo PV := fun e => (ma e).bind fun a e1 => (mb e1).bind fun b e2 => (lift ((g a b).bind isB) e2).bind fun k e3 => if k = true then (mc e3).bind fun c e4 => lift (g' b c) e4 else .ok (.bl false) e3
theorem chain_go {g g' : PV → PV → Option PV} {ma mb mc : Mo PV} {σ : L2.St} {H : Hp} {Q : VK} (h : rd F ow (mChain g g' ma mb mc) σ H Q) :
    tChain (fun x y H Q => ∃ (O : Addr → Prop) (a b c : PV), Pre H O ∧ RV F.S H O x a ∧ RV F.S H O y b ∧ g a b = some c ∧ ∀ v H', (∀ z u, H z = some u → H' z = some u) → RV F.S H' O v c → Q v H')
      (fun x y H Q => ∃ (O : Addr → Prop) (a b c : PV), Pre H O ∧ RV F.S H O x a ∧ RV F.S H O y b ∧ g' a b = some c ∧ ∀ v H', (∀ z u, H z = some u → H' z = some u) → RV F.S H' O v c → Q v H') (rd F ow ma) (rd F ow mb) (rd F ow mc) σ H Q := by
  obtain ⟨e, R, p⟩ := h
  refine ⟨e, R, (Post.unbind p).mono fun a e1 H1 k1 R1 p1 x rx => ⟨e1, R1, (Post.unbind p1).mono fun b e2 H2 k2 R2 p2 y ry => ?_⟩⟩
  obtain ⟨k, hk, q⟩ := (Post.unbind p2).of_lift R2
  cases hg : g a b with
  | none => rw [hg] at hk; cases hk
  | some c =>
    rw [hg] at hk
    have hc := isB_some (show isB c = some k from hk)
    subst hc
    refine ⟨Gd F.G ow σ, a, b, _, R2.tracked, rx.mono k2.gd Less.refl, ry, hg, fun v H3 k3 rv => ?_⟩
    cases rv
    refine ⟨k, rfl, ?_⟩
    have q3 := q H3 k3
    have R3 := R2.keep k3
    cases k with
    | false => exact q3 H3 Keep.refl R3 _ (.bl _)
    | true =>
      refine ⟨e2, R3, (Post.unbind (show Post F ow σ H3 ((mc e2).bind fun c e4 => lift (g' b c) e4) _ from q3)).mono fun c e4 H4 k4 R4 p4 z rz => ?_⟩
      obtain ⟨c', hc', q4⟩ := p4.of_lift R4
      exact ⟨Gd F.G ow σ, b, c, c', R4.tracked, (ry.mono (Keep.all k3) Less.refl).mono k4.gd Less.refl, rz, hc', fun v H' k rv => q4 H' k v rv⟩
theorem pm_chain {a b c : Expr} {op op' : CmpOp} {g g' : PV → PV → Option PV} {ma mb mc : Mo PV} {pos : Pos} (h : BinOk X F (compareOp op) g) (h' : BinOk X F (compareOp op') g') (ha : PE X a (rd F ow ma)) (hb : PE X b (rd F ow mb)) (hc : PE X c (rd F ow mc))
    (hm : lastMarks [op, op'] [b, c] = false := by rfl) : PE X (.Compare a [op, op'] [b, c] pos) (rd F ow (mChain g g' ma mb mc)) :=
  (pe_chain (bin_end h) (bin_end h') ha hb hc hm).imp fun σ H Q h => chain_go h
theorem pm_tchain {a b c : Expr} {op op' : CmpOp} {g g' : PV → PV → Option PV} {ma mb mc : Mo PV} {pos : Pos} (h : BinOk X F (compareOp op) g) (h' : BinOk X F (compareOp op') g') (ha : PE X a (rd F ow ma)) (hb : PE X b (rd F ow mb)) (hc : PE X c (rd F ow mc))
    (hm : lastMarks [op, op'] [b, c] = false := by rfl) : PT X (.Compare a [op, op'] [b, c] pos) (rdT F ow (mTB (mChain g g' ma mb mc))) :=
  (pt_chain (bin_end h) (bin_end h') ha hb hc hm).imp fun σ H Q h => chain_go (tb_go h)
end
end M

namespace M
open PySem PySem.Spec PyProof.Rows L2

section
variable {X : Cx} {F : Fm} {ow : List Nat}
/-! ### arithmetic -/
def pIV (g : Int → Int → PV) : PV → PV → Option PV
  | .int i, .int j => some (g i j)
  | _, _ => none
abbrev pI (g : Int → Int → Int) : PV → PV → Option PV := pIV fun i j => .int (g i j)
abbrev pB (g : Int → Int → Bool) : PV → PV → Option PV := pIV fun i j => .bl (g i j)
def pIc (C : Int → Int → Prop) [DecidableRel C] (g : Int → Int → Int) : PV → PV → Option PV
  | .int i, .int j => if C i j then some (.int (g i j)) else none
  | _, _ => none
theorem bin_ints {f : Value → Value → Sem Value} {g : Int → Int → V} {g' : Int → Int → PV} (h : OpR X f (rI0 g)) (hg : ∀ i j S H O, RV S H O (g i j) (g' i j)) : BinOk X F f (pIV g') := by
  intro O
  refine ⟨_, h, fun H x y a b c Q hp ra rb e q => ?_⟩
  unfold pIV at e
  split at e
  · rename_i i j
    cases e
    cases ra
    cases rb
    exact ⟨i, j, rfl, rfl, q _ H (fun _ _ z => z) (hg ..)⟩
  · cases e
theorem bin_intsC {f : Value → Value → Sem Value} {C : Int → Int → Prop} [DecidableRel C] {g : Int → Int → Int} (h : OpR X f (rI C fun i j => .int (g i j))) : BinOk X F f (pIc C g) := by
  intro O
  refine ⟨_, h, fun H x y a b c Q hp ra rb e q => ?_⟩
  unfold pIc at e
  split at e
  · rename_i i j
    split at e
    · rename_i hc
      cases e
      cases ra
      cases rb
      exact ⟨i, j, rfl, rfl, hc, q _ H (fun _ _ z => z) (.int _)⟩
    · cases e
  · cases e
/-- either of two -/
def pOr (g g' : PV → PV → Option PV) : PV → PV → Option PV := fun a b => match g a b with
  | some c => some c
  | none => g' a b
theorem BinOk.or {f : Value → Value → Sem Value} {g g' : PV → PV → Option PV} (h : BinOk X F f g) (h' : BinOk X F f g') : BinOk X F f (pOr g g') := by
  intro O
  obtain ⟨r, hr, k⟩ := h O
  obtain ⟨r', hr', k'⟩ := h' O
  refine ⟨_, hr.or hr', fun H x y a b c Q hp ra rb e q => ?_⟩
  unfold pOr at e
  split at e
  · rename_i c' hc
    cases e
    exact .inl (k H x y a b _ Q hp ra rb hc q)
  · exact .inr (k' H x y a b c Q hp ra rb e q)
theorem bin_sub : BinOk X F (binaryOp .Sub) (pI fun i j => i - j) := bin_ints op_sub fun _ _ _ _ _ => .int _
theorem bin_addI : BinOk X F (binaryOp .Add) (pI fun i j => i + j) := bin_ints op_add fun _ _ _ _ _ => .int _
instance : DecidableRel CMulW := fun _ _ => by unfold CMulW; infer_instance
instance : DecidableRel CDivW := fun _ _ => by unfold CDivW; infer_instance
instance : DecidableRel CPow := fun _ _ => by unfold CPow; infer_instance
theorem bin_mulI : BinOk X F (binaryOp .Mult) (pIc CMulW fun i j => i * j) := bin_intsC op_mulW
theorem bin_div : BinOk X F (binaryOp .FloorDiv) (pIc CDivW fun i j => i / j) := bin_intsC op_fdivW
def CPos (_ j : Int) : Prop := 0 < j
instance : DecidableRel CPos := fun _ _ => by unfold CPos; infer_instance
theorem bin_mod : BinOk X F (binaryOp .Mod) (pIc CPos fun i j => i % j) := bin_intsC op_mod
theorem bin_pow : BinOk X F (binaryOp .Pow) (pIc CPow fun i j => i ^ j.toNat) := bin_intsC op_pow
theorem bin_lt : BinOk X F (compareOp .Lt) (pB fun i j => decide (i < j)) := bin_ints op_lt fun _ _ _ _ _ => .bl _
theorem bin_le : BinOk X F (compareOp .LtE) (pB fun i j => decide (i ≤ j)) := bin_ints op_le fun _ _ _ _ _ => .bl _
theorem bin_gt : BinOk X F (compareOp .Gt) (pB fun i j => decide (j < i)) := bin_ints op_gt fun _ _ _ _ _ => .bl _
theorem bin_ge : BinOk X F (compareOp .GtE) (pB fun i j => decide (j ≤ i)) := bin_ints op_ge fun _ _ _ _ _ => .bl _

/-! ### lists, tuples, texts put together -/
def pCatL : PV → PV → Option PV
  | .lst a, .lst b => if a.length + b.length ≤ sizeLine then some (.lst (a ++ b)) else none
  | _, _ => none
def pCatT : PV → PV → Option PV
  | .tup a, .tup b => if a.length + b.length ≤ sizeLine then some (.tup (a ++ b)) else none
  | _, _ => none
def pCatS : PV → PV → Option PV
  | .str a, .str b => if a.length + b.length ≤ sizeLine then some (.str (a ++ b)) else none
  | _, _ => none
theorem bin_catL : BinOk X F (binaryOp .Add) pCatL := by
  intro O
  refine ⟨_, op_cat, fun H x y a b c Q hp ra rb e q => ?_⟩
  unfold pCatL at e
  split at e
  · rename_i a b
    split at e
    · rename_i hc
      cases e
      obtain ⟨p1, vs, rfl, h1, t1⟩ := ra.isL
      obtain ⟨p2, ws, rfl, h2, t2⟩ := rb.isL
      refine ⟨_, _, _, _, rfl, rfl, h1, h2, by rw [t1.length, t2.length]; exact hc, fun p hn => q _ _ (fun z u e => ?_) ((t1.append t2).newL hn hp)⟩
      rw [upd_ne (ne_of_none e hn)]; exact e
    · cases e
  · cases e
theorem RVs.empty {S : Se} {H : Hp} {O : Addr → Prop} {vs : List V} (r : RVs S H O vs []) : vs = [] := by cases r; rfl
theorem RVs.emptyL {S : Se} {H : Hp} {O : Addr → Prop} {l : List PV} (r : RVs S H O [] l) : l = [] := by cases r; rfl
theorem bin_catT (hS : F.S = ⟨X.K, X.mg, F.S.T⟩ := by rfl) : BinOk X F (binaryOp .Add) pCatT := by
  intro O
  refine ⟨_, op_catA, fun H x y a b c Q hp ra rb e q => ?_⟩
  unfold pCatT at e
  split at e
  · rename_i a b
    split at e
    · rename_i hc
      cases e
      obtain ⟨p1, vs, rfl, h1, t1⟩ := ra.isT
      obtain ⟨p2, ws, rfl, h2, t2⟩ := rb.isT
      have hK : F.S.K = X.K := by rw [hS]
      rw [hK] at h1 h2
      refine ⟨_, _, _, _, rfl, rfl, h1, h2, by rw [t1.length, t2.length]; exact hc, fun e1 => ?_, fun e1 e2 => ?_, fun e1 e2 p hn => q _ _ (fun z u e => ?_) ((t1.append t2).newT hn hp)⟩
      · subst e1
        have := t1.emptyL
        subst this
        exact q _ H (fun _ _ z => z) (by simpa using rb)
      · subst e2
        have := t2.emptyL
        subst this
        exact q _ H (fun _ _ z => z) (by simpa using ra)
      · rw [upd_ne (ne_of_none e hn)]; exact e
    · cases e
  · cases e
theorem bin_catS : BinOk X F (binaryOp .Add) pCatS := by
  intro O
  refine ⟨_, op_add_str, fun H x y a b c Q hp ra rb e q => ?_⟩
  unfold pCatS at e
  split at e
  · rename_i a b
    split at e
    · rename_i hc
      cases e
      cases ra
      cases rb
      exact ⟨_, _, rfl, rfl, hc, q _ H (fun _ _ z => z) (.str _)⟩
    · cases e
  · cases e
def pAdd : PV → PV → Option PV
  | .int i, .int j => some (.int (i + j))
  | .lst a, .lst b => if a.length + b.length ≤ sizeLine then some (.lst (a ++ b)) else none
  | .tup a, .tup b => if a.length + b.length ≤ sizeLine then some (.tup (a ++ b)) else none
  | .str a, .str b => if a.length + b.length ≤ sizeLine then some (.str (a ++ b)) else none
  | _, _ => none
theorem BinOk.eq {f : Value → Value → Sem Value} {g g' : PV → PV → Option PV} (h : BinOk X F f g) (e : ∀ a b c, g' a b = some c → g a b = some c) : BinOk X F f g' := by
  intro O
  obtain ⟨r, hr, k⟩ := h O
  exact ⟨r, hr, fun H x y a b c Q hp ra rb e1 q => k H x y a b c Q hp ra rb (e a b c e1) q⟩
theorem bin_add (hS : F.S = ⟨X.K, X.mg, F.S.T⟩ := by rfl) : BinOk X F (binaryOp .Add) pAdd := by
  refine (bin_addI.or (bin_catL.or ((bin_catT hS).or bin_catS))).eq fun a b c h => ?_
  unfold pAdd at h
  split at h
  · exact h
  · simp only [pOr, pIV, pCatL]
    split at h
    · rename_i z; rw [if_pos z]; exact h
    · cases h
  · simp only [pOr, pIV, pCatL, pCatT]
    split at h
    · rename_i z; rw [if_pos z]; exact h
    · cases h
  · exact h
  · cases h
/-- xs * k -/
def pRepL : PV → PV → Option PV
  | .lst a, .int k => if -2 ^ 63 ≤ k ∧ k < 2 ^ 63 ∧ a.length * k.toNat ≤ sizeLine then some (.lst (List.replicate k.toNat a).flatten) else none
  | _, _ => none
/-- a tuple many times over, up to a million items -/
def rRepM (K : PySem.W.Frag) : R2 := fun x y H Q => ∃ l k xs, x = .ref l ∧ y = .int k ∧ SqT K H l xs ∧ xs ≠ [] ∧ 2 ≤ k ∧ xs.length * k.toNat ≤ 1000000 ∧ ∀ p, H p = none → Q (.ref p) (upd H p (.tup (List.replicate k.toNat xs).flatten))
theorem op_repM : OpR X (binaryOp .Mult) (rRepM X.K) := by
  intro pins s σ H x y v u Q I rx ry h
  obtain ⟨l, k, xs, rfl, rfl, hT, hne, h1, h2, q⟩ := h
  cases rx
  obtain ⟨t, rfl⟩ := ry
  obtain ⟨its, r, ⟨⟨cls, dd, data, sl⟩, ho, hc, n, hd⟩, hs⟩ := I.tuple hT
  simp only at hc hd
  subst hc hd
  have hle : its.length = xs.length := r.length.symm
  have hpos : 0 < xs.length := List.length_pos_iff.2 hne
  have hi : its.toArray.isEmpty = false := by
    cases its with
    | nil => simp at hle; omega
    | cons a b => rfl
  obtain ⟨m, rfl⟩ : ∃ m : Nat, k = m := ⟨k.toNat, by omega⟩
  simp only [Int.toNat_natCast] at h2 q ⊢
  have hm0 : its.toArray.size * m ≤ 1000000 := by rw [List.size_toArray, hle]; exact h2
  have hmi : ((its.toArray.size : Nat) : Int) * (m : Int) ≤ 1000000 := by
    rw [← Int.natCast_mul]
    exact Int.ofNat_le.2 hm0
  have hml : m ≤ 1000000 := Nat.le_trans (Nat.le_mul_of_pos_left m hpos) h2
  have flen : (List.replicate m its).flatten.length ≤ sizeLine := by
    rw [PyProof.Rows.lm_len_rep_flat, hle, sizeLine_eq, Nat.mul_comm]
    omega
  have c0 : (decide ((m : Int) < -(2 ^ 63)) || decide ((m : Int) ≥ 2 ^ 63)) = false := by
    rw [decide_eq_false (by omega), decide_eq_false (by omega)] <;> rfl
  have c1 : (its.toArray.isEmpty || (m : Int) == 1) = false := by
    rw [hi, Bool.false_or]
    exact beq_eq_false_iff_ne.mpr (by omega)
  have c2 : (decide ((m : Int) ≤ 0) || its.toArray.isEmpty) = false := by
    rw [hi, Bool.or_false]
    exact decide_eq_false (by omega)
  have c4 : Builtin.Tuple.tupleTooMany (((its.toArray.size : Nat) : Int) * (m : Int)) = false := by
    unfold Builtin.Tuple.tupleTooMany
    rw [sizeLine_eq]
    exact decide_eq_false (by omega)
  refine wpAny_binaryOp_repeat_ref (T := "tuple") (U := "int") (by decide) ⟨_, ho, rfl⟩ (fun s' => typeIs_int s' m t) noFill_tuple_mul F.fills_int_mul F.slot_int_rmul repeat_tuple F.slot_int_index.lookup
    (call_meets F.slot_int_rmul (typeIs_int s m t) F.entry_int_rmul (F.args_int_rmul_2 _ _) (int_rmul_tuple m t l its.toArray n dd sl)
      ⟨ho, rfl, ⟨_, ho, rfl⟩, call_meets F.slot_tuple_mul ⟨_, ho, rfl⟩ F.entry_tuple_mul (F.args_tuple_mul_2 _ _) (tuple_mulW l its.toArray n dd sl m t c0 c1 c2 (by omega) c4 (by rw [size_rep, List.size_toArray, Int.toNat_natCast]; exact flen)) ⟨ho, ?_⟩⟩)
  rw [size_rep, Int.toNat_natCast]
  refine ⟨.ref s.heap.objs.size, _, I.laid (t' := s.toks) (o := .tup (List.replicate m xs).flatten) (fun b ob q => Heap.get?_push_of_some _ q) (Nat.le_refl _) ?_, rfl, q _ (I.hok.fresh (Nat.le_refl _))⟩
  exact ⟨by rw [PyProof.Rows.lm_len_rep_flat, sizeLine_eq, Nat.mul_comm]; omega, _, r.rep m, IsTup.new _ _⟩
def pRepT : PV → PV → Option PV
  | .tup a, .int k => if a ≠ [] ∧ 2 ≤ k ∧ a.length * k.toNat ≤ 1000000 then some (.tup (List.replicate k.toNat a).flatten) else none
  | _, _ => none
theorem RVs.rep {S : Se} {H : Hp} {O : Addr → Prop} {vs : List V} {l : List PV} (r : RVs S H O vs l) : ∀ n : Nat, RVs S H O (List.replicate n vs).flatten (List.replicate n l).flatten
  | 0 => .nil
  | n + 1 => by
    rw [List.replicate_succ, List.replicate_succ, List.flatten_cons, List.flatten_cons]
    exact r.append (RVs.rep r n)
theorem bin_repL : BinOk X F (binaryOp .Mult) pRepL := by
  intro O
  refine ⟨_, op_rep, fun H x y a b c Q hp ra rb e q => ?_⟩
  unfold pRepL at e
  split at e
  · rename_i a k
    split at e
    · rename_i hc
      cases e
      obtain ⟨p1, vs, rfl, h1, t1⟩ := ra.isL
      cases rb
      refine ⟨_, _, _, rfl, rfl, h1, hc.1, hc.2.1, by rw [t1.length]; exact hc.2.2, fun p hn => q _ _ (fun z u e => ?_) ((t1.rep _).newL hn hp)⟩
      rw [upd_ne (ne_of_none e hn)]; exact e
    · cases e
  · cases e
theorem bin_repT (hS : F.S = ⟨X.K, X.mg, F.S.T⟩ := by rfl) : BinOk X F (binaryOp .Mult) pRepT := by
  intro O
  refine ⟨_, op_repM, fun H x y a b c Q hp ra rb e q => ?_⟩
  unfold pRepT at e
  split at e
  · rename_i a k
    split at e
    · rename_i hc
      cases e
      obtain ⟨p1, vs, rfl, h1, t1⟩ := ra.isT
      cases rb
      have hK : F.S.K = X.K := by rw [hS]
      rw [hK] at h1
      refine ⟨_, _, _, rfl, rfl, h1, fun z => ?_, hc.2.1, by rw [t1.length]; exact hc.2.2, fun p hn => q _ _ (fun z u e => ?_) ((t1.rep _).newT hn hp)⟩
      · subst z; exact hc.1 t1.emptyL
      · rw [upd_ne (ne_of_none e hn)]; exact e
    · cases e
  · cases e
def pMul : PV → PV → Option PV
  | .int i, .int j => if CMulW i j then some (.int (i * j)) else none
  | .lst a, .int k => if -2 ^ 63 ≤ k ∧ k < 2 ^ 63 ∧ a.length * k.toNat ≤ sizeLine then some (.lst (List.replicate k.toNat a).flatten) else none
  | .tup a, .int k => if a ≠ [] ∧ 2 ≤ k ∧ a.length * k.toNat ≤ 1000000 then some (.tup (List.replicate k.toNat a).flatten) else none
  | _, _ => none
theorem bin_mul (hS : F.S = ⟨X.K, X.mg, F.S.T⟩ := by rfl) : BinOk X F (binaryOp .Mult) pMul := by
  refine (bin_mulI.or (bin_repL.or (bin_repT hS))).eq fun a b c h => ?_
  unfold pMul at h
  split at h
  · simp only [pOr, pIc]
    split at h
    · rename_i z; rw [if_pos z]; exact h
    · cases h
  · simp only [pOr, pIc, pRepL]
    split at h
    · rename_i z; rw [if_pos z]; exact h
    · cases h
  · simp only [pOr, pIc, pRepL, pRepT]
    exact h
  · cases h

/-! ### == != is in -/
def pEq : PV → PV → Option PV := fun a b => (eqD a b).map .bl
def pNe : PV → PV → Option PV := fun a b => (eqD a b).map fun k => .bl (!k)
theorem bin_eq (hu : X.A.units + 64 < cLine) (hS : F.S = ⟨X.K, X.mg, F.S.T⟩ := by rfl) : BinOk X F (compareOp .Eq) pEq := by
  intro O
  refine ⟨_, op_eqD hu, fun H x y a b c Q hp ra rb e q => ?_⟩
  have hK : F.S.K = X.K := by rw [hS]
  unfold pEq at e
  cases h : eqD a b with
  | none => rw [h] at e; cases e
  | some k =>
    rw [h] at e
    cases e
    obtain ⟨d, d', h1, h2, h3, h4, h5⟩ := eqD_some h
    refine ⟨d, d', hK ▸ ra.dp h1, hK ▸ rb.dp h2, h3, h4, ?_⟩
    rw [h5]
    exact q _ H (fun _ _ z => z) (.bl _)
theorem bin_ne (hu : X.A.units + 64 < cLine) (hS : F.S = ⟨X.K, X.mg, F.S.T⟩ := by rfl) : BinOk X F (compareOp .NotEq) pNe := by
  intro O
  refine ⟨_, op_neD hu, fun H x y a b c Q hp ra rb e q => ?_⟩
  have hK : F.S.K = X.K := by rw [hS]
  unfold pNe at e
  cases h : eqD a b with
  | none => rw [h] at e; cases e
  | some k =>
    rw [h] at e
    cases e
    obtain ⟨d, d', h1, h2, h3, h4, h5⟩ := eqD_some h
    refine ⟨d, d', hK ▸ ra.dp h1, hK ▸ rb.dp h2, h3, h4, ?_⟩
    rw [h5]
    exact q _ H (fun _ _ z => z) (.bl _)
/-- is None -/
def isNn : PV → Option Bool
  | .non => some true
  | .gl _ => none
  | _ => some false
def pIsN : PV → PV → Option PV
  | a, .non => (isNn a).map .bl
  | _, _ => none
def pNotN : PV → PV → Option PV
  | a, .non => (isNn a).map fun k => .bl (!k)
  | _, _ => none
theorem RV.isNn {S : Se} {H : Hp} {O : Addr → Prop} {v : V} {p : PV} {k : Bool} (r : RV S H O v p) (h : isNn p = some k) : decide (v = .non) = k := by
  cases r <;> (simp only [M.isNn] at h; first | (cases h; done) | (cases h; simp))
theorem bin_isN : BinOk X F (compareOp .Is) pIsN := by
  intro O
  refine ⟨_, op_isN, fun H x y a b c Q hp ra rb e q => ?_⟩
  cases b with
  | non =>
    cases rb
    simp only [pIsN] at e
    cases h : isNn a with
    | none => rw [h] at e; cases e
    | some k =>
      rw [h] at e
      cases e
      refine ⟨rfl, ?_⟩
      rw [ra.isNn h]
      exact q _ H (fun _ _ z => z) (.bl _)
  | _ => simp [pIsN] at e
theorem bin_notN : BinOk X F (compareOp .IsNot) pNotN := by
  intro O
  refine ⟨_, op_notN, fun H x y a b c Q hp ra rb e q => ?_⟩
  cases b with
  | non =>
    cases rb
    simp only [pNotN] at e
    cases h : isNn a with
    | none => rw [h] at e; cases e
    | some k =>
      rw [h] at e
      cases e
      refine ⟨rfl, ?_⟩
      rw [ra.isNn h]
      exact q _ H (fun _ _ z => z) (.bl _)
  | _ => simp [pNotN] at e
/-- is True, is False of bools -/
def pIsB : PV → PV → Option PV
  | .bl a, .bl b => some (.bl (decide (a = b)))
  | _, _ => none
theorem bin_isB : BinOk X F (compareOp .Is) pIsB := by
  intro O
  refine ⟨_, op_isBl, fun H x y a b c Q hp ra rb e q => ?_⟩
  unfold pIsB at e
  split at e
  · cases e
    cases ra
    cases rb
    exact ⟨_, _, rfl, rfl, q _ H (fun _ _ z => z) (.bl _)⟩
  · cases e
end

/-! ### in, not in: a list or tuple of data -/
section
variable {X : Cx} {F : Fm} {ow : List Nat}
def inD (x c : PV) : Option Bool := match toD x, toD c with
  | some d, some (.list ds) => if SeqAt.shaped d && SeqAt.shaped (.list ds) then some (ds.any fun z => z.eqv d) else none
  | some d, some (.tuple ds) => if SeqAt.shaped d && SeqAt.shaped (.tuple ds) then some (ds.any fun z => z.eqv d) else none
  | _, _ => none
theorem inD_some {x c : PV} {k : Bool} (h : inD x c = some k) : ∃ d ds e, toD x = some d ∧ toD c = some e ∧ (e = .list ds ∨ e = .tuple ds) ∧ SeqAt.shaped d = true ∧ SeqAt.shaped e = true ∧ (ds.any fun z => z.eqv d) = k := by
  unfold inD at h
  split at h
  · rename_i d ds h1 h2
    split at h
    · rename_i h3
      rw [Bool.and_eq_true] at h3
      cases h
      exact ⟨d, ds, _, h1, h2, .inl rfl, h3.1, h3.2, rfl⟩
    · cases h
  · rename_i d ds h1 h2
    split at h
    · rename_i h3
      rw [Bool.and_eq_true] at h3
      cases h
      exact ⟨d, ds, _, h1, h2, .inr rfl, h3.1, h3.2, rfl⟩
    · cases h
  · cases h
def rInA (K : PySem.W.Frag) (neg : Bool) : R2 := fun x y H Q => ∃ d ds e, Dp K H x d ∧ Dp K H y e ∧ (e = .list ds ∨ e = .tuple ds) ∧ SeqAt.shaped d = true ∧ SeqAt.shaped e = true ∧ Q (.bl (if neg then !(ds.any fun z => z.eqv d) else ds.any fun z => z.eqv d)) H
theorem tup_shaped {ds : List PyData} (h : SeqAt.shaped (.tuple ds) = true) : SeqAt.shaped (.list ds) = true := by
  unfold SeqAt.shaped at *
  simp only [PyData.canLay0, PyData.depth] at *
  exact h
theorem in_room {A : Around} {d : PyData} {ds : List PyData} (sd : SeqAt.shaped d = true) (hu : A.units + 65 < cLine) : A.units + 1 + min (PyData.depthAll ds) d.depth < cLine := by
  have h1 := SeqAt.depth_of_shaped sd
  have h2 : min (PyData.depthAll ds) d.depth ≤ d.depth := Nat.min_le_right _ _
  omega
theorem op_inA (hu : X.A.units + 65 < cLine) : OpR X (compareOp .In) (rInA X.K false) := by
  intro pins s σ H x y v u Q I rx ry h
  obtain ⟨d, ds, e, hd, he, hc, sd, se, q⟩ := h
  obtain ⟨as, r1⟩ := Dp.reads I d x v hd rx
  obtain ⟨bs, r2⟩ := Dp.reads I e y u he ry
  rcases hc with rfl | rfl
  · exact SeqAt.in_list_reads r2 r1 (SeqAt.canLay_of_shaped se) (SeqAt.canLay_of_shaped sd) (in_room sd hu) ⟨.bl _, H, I, rfl, q⟩
  · exact SeqAt.in_tuple_reads r2 r1 (SeqAt.canLay_of_shaped (tup_shaped se)) (SeqAt.canLay_of_shaped sd) (in_room sd hu) ⟨.bl _, H, I, rfl, q⟩
theorem op_notInA (hu : X.A.units + 65 < cLine) : OpR X (compareOp .NotIn) (rInA X.K true) := by
  intro pins s σ H x y v u Q I rx ry h
  obtain ⟨d, ds, e, hd, he, hc, sd, se, q⟩ := h
  obtain ⟨as, r1⟩ := Dp.reads I d x v hd rx
  obtain ⟨bs, r2⟩ := Dp.reads I e y u he ry
  rcases hc with rfl | rfl
  · exact SeqAt.notIn_list_reads r2 r1 (SeqAt.canLay_of_shaped se) (SeqAt.canLay_of_shaped sd) (in_room sd hu) ⟨.bl _, H, I, rfl, q⟩
  · exact SeqAt.notIn_tuple_reads r2 r1 (SeqAt.canLay_of_shaped (tup_shaped se)) (SeqAt.canLay_of_shaped sd) (in_room sd hu) ⟨.bl _, H, I, rfl, q⟩
def pIn : PV → PV → Option PV := fun x c => (inD x c).map .bl
def pNotIn : PV → PV → Option PV := fun x c => (inD x c).map fun k => .bl (!k)
theorem bin_in (hu : X.A.units + 65 < cLine) (hS : F.S = ⟨X.K, X.mg, F.S.T⟩ := by rfl) : BinOk X F (compareOp .In) pIn := by
  intro O
  refine ⟨_, op_inA hu, fun H x y a b c Q hp ra rb e q => ?_⟩
  have hK : F.S.K = X.K := by rw [hS]
  unfold pIn at e
  cases h : inD a b with
  | none => rw [h] at e; cases e
  | some k =>
    rw [h] at e
    cases e
    obtain ⟨d, ds, d', h1, h2, h3, h4, h5, h6⟩ := inD_some h
    refine ⟨d, ds, d', hK ▸ ra.dp h1, hK ▸ rb.dp h2, h3, h4, h5, ?_⟩
    rw [h6]
    exact q _ H (fun _ _ z => z) (.bl _)
theorem bin_notIn (hu : X.A.units + 65 < cLine) (hS : F.S = ⟨X.K, X.mg, F.S.T⟩ := by rfl) : BinOk X F (compareOp .NotIn) pNotIn := by
  intro O
  refine ⟨_, op_notInA hu, fun H x y a b c Q hp ra rb e q => ?_⟩
  have hK : F.S.K = X.K := by rw [hS]
  unfold pNotIn at e
  cases h : inD a b with
  | none => rw [h] at e; cases e
  | some k =>
    rw [h] at e
    cases e
    obtain ⟨d, ds, d', h1, h2, h3, h4, h5, h6⟩ := inD_some h
    refine ⟨d, ds, d', hK ▸ ra.dp h1, hK ▸ rb.dp h2, h3, h4, h5, ?_⟩
    rw [h6]
    exact q _ H (fun _ _ z => z) (.bl _)
end
end M

namespace M
open PySem PySem.Spec PyProof.Rows L2

section
variable {X : Cx} {F : Fm} {ow : List Nat}
/-! ### argument lists, displays -/
def mNil : Mo (List PV) := fun e => .ok [] e
def mCons (m : Mo PV) (ml : Mo (List PV)) : Mo (List PV) := fun e => (m e).bind fun p e1 => (ml e1).bind fun l e2 => .ok (p :: l) e2
theorem pma_nil : PA X [] (rdA F ow mNil) := pa_nil.imp fun σ H Q ⟨e, R, p⟩ => p H Keep.refl R [] .nil
theorem cons_go {m : Mo PV} {ml : Mo (List PV)} {σ : L2.St} {H : Hp} {Q : List V → Hp → Prop} (h : rdA F ow (mCons m ml) σ H Q) : tCons (rd F ow m) (rdA F ow ml) σ H Q := by
  obtain ⟨e, R, p⟩ := h
  refine ⟨e, R, (Post.unbind p).mono fun a e1 H1 k1 R1 p1 x rx => ⟨e1, R1, (Post.unbind p1).mono fun l e2 H2 k2 R2 p2 xs rs => ?_⟩⟩
  exact p2 H2 Keep.refl R2 _ (.cons (rx.mono k2.gd Less.refl) rs)
theorem pma_cons {a : Expr} {es : List Expr} {m : Mo PV} {ml : Mo (List PV)} (ha : PE X a (rd F ow m)) (hr : PA X es (rdA F ow ml)) (hs : starEach (a :: es) X.env = (false, eval a X.env) :: starEach es X.env := by rfl) : PA X (a :: es) (rdA F ow (mCons m ml)) :=
  (pa_cons ha hr hs).imp fun σ H Q h => cons_go h
def mTup (ml : Mo (List PV)) : Mo PV := fun e => (ml e).bind fun l e1 => lift (if l.length ≤ 1000 then some (.tup l) else none) e1
def mLst (ml : Mo (List PV)) : Mo PV := fun e => (ml e).bind fun l e1 => lift (if l.length ≤ 1000 then some (.lst l) else none) e1
theorem line1000 : 1000 ≤ sizeLine := by rw [sizeLine_eq]; decide
theorem upd_keep {H : Hp} {p : Addr} {o : HO} (hn : H p = none) : ∀ z u, H z = some u → upd H p o z = some u := fun z u e => by rw [upd_ne (ne_of_none e hn)]; exact e
theorem pm_tup {es : List Expr} {ml : Mo (List PV)} {k : Nat} {pos : Pos} (h : PA X es (rdA F ow ml)) : PE X (.Tuple es k pos) (rd F ow (mTup ml)) :=
  (pe_tup h).imp fun σ H Q ⟨e, R, p⟩ => by
    refine ⟨e, R, (Post.unbind p).mono fun l e1 H1 k1 R1 p1 xs rs => ?_⟩
    obtain ⟨c, hc, q⟩ := p1.of_lift R1
    split at hc
    · rename_i hl
      cases hc
      refine ⟨by rw [rs.length]; exact Nat.le_trans hl line1000, fun p hn => ?_⟩
      exact q _ (upd_keep hn) _ (rs.newT hn R1.tracked)
    · cases hc
theorem pm_lst {es : List Expr} {ml : Mo (List PV)} {pos : Pos} (h : PA X es (rdA F ow ml)) : PE X (.List es pos) (rd F ow (mLst ml)) :=
  (pe_lst h).imp fun σ H Q ⟨e, R, p⟩ => by
    refine ⟨e, R, (Post.unbind p).mono fun l e1 H1 k1 R1 p1 xs rs => ?_⟩
    obtain ⟨c, hc, q⟩ := p1.of_lift R1
    split at hc
    · rename_i hl
      cases hc
      refine ⟨by rw [rs.length]; exact Nat.le_trans hl line1000, fun p hn => ?_⟩
      exact q _ (upd_keep hn) _ (rs.newL hn R1.tracked)
    · cases hc

/-! ### one-place operations -/
def mNeg (m : Mo PV) : Mo PV := fun e => (m e).bind fun p e1 => lift (match p with | .int i => some (.int (-i)) | _ => none) e1
theorem pm_neg {a : Expr} {m : Mo PV} {pos : Pos} (ha : PE X a (rd F ow m)) : PE X (.UnaryOp .USub a pos) (rd F ow (mNeg m)) :=
  (pe_un un_neg ha).imp fun σ H Q ⟨e, R, p⟩ => by
    refine ⟨e, R, (Post.unbind p).mono fun p1 e1 H1 k1 R1 q1 x rx => ?_⟩
    obtain ⟨c, hc, q⟩ := q1.of_lift R1
    split at hc
    · cases hc
      cases rx
      exact ⟨_, rfl, q H1 (fun _ _ z => z) _ (.int _)⟩
    · cases hc

/-! ### places, parts -/
def pIx : PV → PV → Option PV
  | .tup l, .int i => atI l i
  | .lst l, .int i => atI l i
  | .fz l, .int i => atI l i
  | _, _ => none
theorem RVs.atI {S : Se} {H : Hp} {O : Addr → Prop} {vs : List V} {l : List PV} {i : Int} {p : PV} (r : RVs S H O vs l) (h : atI l i = some p) : ∃ v, L2.atI vs i = some v ∧ RV S H O v p := by
  unfold L2.atI at *
  rw [r.length]
  cases q : ixN l.length i with
  | none => rw [q] at h; cases h
  | some j => rw [q] at h; exact r.get h
theorem ix_end : IxR X fun x y H Q => ∃ (O : Addr → Prop) (a b c : PV), Pre H O ∧ RV ⟨X.K, X.mg, F.S.T⟩ H O x a ∧ RV ⟨X.K, X.mg, F.S.T⟩ H O y b ∧ pIx a b = some c ∧ ∀ v H', (∀ z u, H z = some u → H' z = some u) → RV ⟨X.K, X.mg, F.S.T⟩ H' O v c → Q v H' := by
  intro value slice pins s σ H x y v u Q I rx ry ⟨O, a, b, c, p, ra, rb, e, q⟩ hs
  refine ix_seq value slice pins s σ H x y v u Q I rx ry ?_ hs
  unfold pIx at e
  split at e
  · obtain ⟨p1, vs, rfl, h1, t1⟩ := ra.isT
    cases rb
    obtain ⟨w, h2, h3⟩ := t1.atI e
    exact .inr (.inl ⟨_, _, _, _, rfl, rfl, h1, h2, q w H (fun _ _ z => z) h3⟩)
  · obtain ⟨p1, vs, rfl, h1, t1⟩ := ra.isL
    cases rb
    obtain ⟨w, h2, h3⟩ := t1.atI e
    exact .inl ⟨_, _, _, _, rfl, rfl, .inl (.inl h1), h2, q w H (fun _ _ z => z) h3⟩
  · obtain ⟨p1, vs, rfl, h1, t1⟩ := ra.isF
    cases rb
    obtain ⟨w, h2, h3⟩ := t1.atI e
    exact .inl ⟨_, _, _, _, rfl, rfl, h1, h2, q w H (fun _ _ z => z) h3⟩
  · cases e
theorem pm_ix {a b : Expr} {ma mb : Mo PV} {pos : Pos} (ha : PE X a (rd F ow ma)) (hb : PE X b (rd F ow mb)) (hs : PlainIx b := by exact fun _ _ => rfl) (hS : F.S = ⟨X.K, X.mg, F.S.T⟩ := by rfl) : PE X (.Subscript a b pos) (rd F ow (mBin pIx ma mb)) :=
  (pe_ix ix_end ha hb hs).imp fun σ H Q h => by
    have z := bin_go h
    rw [hS] at z
    exact z
/-- a part's end -/
def rdO (F : Fm) (ow : List Nat) (m : Mo (Option Int)) : TO := fun σ H Q => ∃ e, ER F.S F.G ow σ H e ∧ Post F ow σ H (m e) fun o _ H' => Q o H'
def mNo : Mo (Option Int) := fun e => .ok none e
def mPart (m : Mo PV) : Mo (Option Int) := fun e => (m e).bind fun p e1 => lift (match p with | .int i => some (some i) | _ => none) e1
theorem _root_.L2.PO.imp {e : Option Expr} {t t' : TO} (h : PO X e t) (i : ∀ σ H Q, t' σ H Q → t σ H Q) : PO X e t' := ⟨fun pins s σ H Q I q => h.run pins s σ H Q I (i σ H Q q)⟩
theorem pmo_none : PO X none (rdO F ow mNo) := po_none.imp fun σ H Q ⟨e, R, p⟩ => p H Keep.refl R
theorem pmo_some {a : Expr} {m : Mo PV} (ha : PE X a (rd F ow m)) : PO X (some a) (rdO F ow (mPart m)) :=
  (po_some ha).imp fun σ H Q ⟨e, R, p⟩ => by
    refine ⟨e, R, (Post.unbind p).mono fun p1 e1 H1 k1 R1 q1 x rx => ?_⟩
    obtain ⟨c, hc, q⟩ := q1.of_lift R1
    split at hc
    · cases hc
      cases rx
      exact ⟨_, rfl, q H1 fun _ _ z => z⟩
    · cases hc
def cutP (l : List PV) (lo hi : Option Int) : List PV := List.take (HT.sIx l.length l.length hi - HT.sIx l.length 0 lo) (List.drop (HT.sIx l.length 0 lo) l)
theorem RVs.cut {S : Se} {H : Hp} {O : Addr → Prop} {vs : List V} {l : List PV} (r : RVs S H O vs l) (lo hi : Option Int) : RVs S H O (cutV vs lo hi) (cutP l lo hi) := by
  unfold cutV cutP
  rw [r.length]
  exact (r.drop _).take _
theorem cut_whole {l : List PV} {lo hi : Option Int} (h : HT.sIx l.length 0 lo = 0 ∧ HT.sIx l.length l.length hi = l.length) : cutP l lo hi = l := by
  unfold cutP
  rw [h.1, h.2]
  simp
def pSl : PV → Option Int → Option Int → Option PV
  | .tup l, lo, hi => some (.tup (cutP l lo hi))
  | .lst l, lo, hi => some (.lst (cutP l lo hi))
  | .fz l, lo, hi => some (.lst (cutP l lo hi))
  | _, _, _ => none
theorem SlR.or {r r' : V → Option Int → Option Int → Hp → VK → Prop} (h : SlR X r) (h' : SlR X r') : SlR X fun x lo hi H Q => r x lo hi H Q ∨ r' x lo hi H Q := by
  intro pins s σ H x v vl vu lo hi sl Q I rx hs pl pu q
  rcases q with q | q
  · exact h pins s σ H x v vl vu lo hi sl Q I rx hs pl pu q
  · exact h' pins s σ H x v vl vu lo hi sl Q I rx hs pl pu q
def mSl (m : Mo PV) (ml mh : Mo (Option Int)) : Mo PV := fun e => (m e).bind fun p e1 => (ml e1).bind fun lo e2 => (mh e2).bind fun hi e3 => lift (pSl p lo hi) e3
theorem pm_sl {a : Expr} {lo hi : Option Expr} {m : Mo PV} {ml mh : Mo (Option Int)} {pos p2 : Pos} (ha : PE X a (rd F ow m)) (hl : PO X lo (rdO F ow ml)) (hh : PO X hi (rdO F ow mh)) (hS : F.S = ⟨X.K, X.mg, F.S.T⟩ := by rfl) : PE X (.Subscript a (.Slice lo hi none p2) pos) (rd F ow (mSl m ml mh)) :=
  (pe_slice (SlR.or sl_list sl_tupA) ha hl hh).imp fun σ H Q ⟨e, R, p⟩ => by
    have hK : F.S.K = X.K := by rw [hS]
    refine ⟨e, R, (Post.unbind p).mono fun a e1 H1 k1 R1 p1 x rx => ⟨e1, R1, (Post.unbind p1).mono fun lo e2 H2 k2 R2 p2 => ⟨e2, R2, (Post.unbind p2).mono fun hi e3 H3 k3 R3 p3 => ?_⟩⟩⟩
    have rx := rx.mono (k2.trans k3).gd Less.refl
    obtain ⟨c, hc, q⟩ := p3.of_lift R3
    unfold pSl at hc
    split at hc
    · cases hc
      obtain ⟨p1, vs, rfl, h1, t1⟩ := rx.isT
      rw [hK] at h1
      refine .inr ⟨_, _, rfl, h1, fun hw => ?_, fun hw p hn => ?_⟩
      · rw [t1.length] at hw
        rw [cut_whole hw] at q
        exact q H3 (fun _ _ z => z) _ rx
      · exact q _ (upd_keep hn) _ ((t1.cut _ _).newT hn R3.tracked)
    · cases hc
      obtain ⟨p1, vs, rfl, h1, t1⟩ := rx.isL
      exact .inl ⟨_, _, rfl, .inl (.inl h1), fun p hn => q _ (upd_keep hn) _ ((t1.cut _ _).newL hn R3.tracked)⟩
    · cases hc
      obtain ⟨p1, vs, rfl, h1, t1⟩ := rx.isF
      rw [hK] at h1
      exact .inl ⟨_, _, rfl, h1, fun p hn => q _ (upd_keep hn) _ ((t1.cut _ _).newL hn R3.tracked)⟩
    · cases hc

/-! ### a value that is looked at here: also a cell that can change -/
def WV (S : Se) (H : Hp) (O : Addr → Prop) (v : V) (p : PV) : Prop := RV S H O v p ∨ At S H O v p
inductive WVs (S : Se) (H : Hp) (O : Addr → Prop) : List V → List PV → Prop
  | nil : WVs S H O [] []
  | cons {v : V} {p : PV} {vs : List V} {l : List PV} : WV S H O v p → WVs S H O vs l → WVs S H O (v :: vs) (p :: l)
def isCell : PV → Bool
  | .lst _ => true
  | .dK _ => true
  | _ => false
section
variable {S : Se} {H : Hp} {O : Addr → Prop}
theorem WV.rv {v : V} {p : PV} (h : WV S H O v p) (hp : isCell p = false := by rfl) : RV S H O v p := by
  rcases h with h | h
  · exact h
  · cases p with
    | lst l => cases hp
    | dK l => cases hp
    | _ => exact h.elim
theorem WV.isL {v : V} {l : List PV} (r : WV S H O v (.lst l)) : ∃ a vs, v = .ref a ∧ H a = some (.lst vs) ∧ RVs S H O vs l := by
  rcases r with r | r
  · exact r.isL
  · exact r
theorem WV.isT {v : V} {l : List PV} (r : WV S H O v (.tup l)) : ∃ a vs, v = .ref a ∧ SqT S.K H a vs ∧ RVs S H O vs l := r.rv.isT
theorem WV.isF {v : V} {l : List PV} (r : WV S H O v (.fz l)) : ∃ a vs, v = .ref a ∧ SqL S.K H a vs ∧ RVs S H O vs l := r.rv.isF
theorem RVs.wv : ∀ {vs : List V} {l : List PV}, RVs S H O vs l → WVs S H O vs l
  | _, _, .nil => .nil
  | _, _, .cons r t => .cons (.inl r) (RVs.wv t)
theorem WVs.one {xs : List V} {p : PV} (r : WVs S H O xs [p]) : ∃ x, xs = [x] ∧ WV S H O x p := by
  cases r with | cons r t => cases t; exact ⟨_, rfl, r⟩
theorem WVs.two {xs : List V} {p q : PV} (r : WVs S H O xs [p, q]) : ∃ x y, xs = [x, y] ∧ WV S H O x p ∧ WV S H O y q := by
  cases r with | cons r t => obtain ⟨y, e, r2⟩ := t.one; subst e; exact ⟨_, _, rfl, r, r2⟩
theorem RVs.one {S : Se} {H : Hp} {O : Addr → Prop} {xs : List V} {p : PV} (r : RVs S H O xs [p]) : ∃ x, xs = [x] ∧ RV S H O x p := by
  cases r with | cons r t => cases t; exact ⟨_, rfl, r⟩
theorem RVs.two {S : Se} {H : Hp} {O : Addr → Prop} {xs : List V} {p q : PV} (r : RVs S H O xs [p, q]) : ∃ x y, xs = [x, y] ∧ RV S H O x p ∧ RV S H O y q := by
  cases r with | cons r t => obtain ⟨y, e, r2⟩ := t.one; subst e; exact ⟨_, _, rfl, r, r2⟩
end
/-! ### calls of what is built in -/
def CallOk (X : Cx) (F : Fm) (f : Value) (g : List PV → Option PV) : Prop := ∀ O : Addr → Prop, ∃ r : List V → Hp → VK → Prop, CallR X f r ∧
  ∀ H xs ps c Q, Pre H O → WVs F.S H O xs ps → g ps = some c → (∀ v H', (∀ z u, H z = some u → H' z = some u) → RV F.S H' O v c → Q v H') → r xs H Q
def mCall (g : List PV → Option PV) (ml : Mo (List PV)) : Mo PV := fun e => (ml e).bind fun l e1 => lift (g l) e1
theorem call_end {g : List PV → Option PV} {f : Value} (h : CallOk X F f g) : CallR X f fun xs H Q => ∃ (O : Addr → Prop) (ps : List PV) (c : PV), Pre H O ∧ WVs F.S H O xs ps ∧ g ps = some c ∧ ∀ v H', (∀ z u, H z = some u → H' z = some u) → RV F.S H' O v c → Q v H' := by
  intro pins s σ H xs us Q I r ⟨O, ps, c, p, ra, e, q⟩
  obtain ⟨r1, hr, k⟩ := h O
  exact hr pins s σ H xs us Q I r (k H xs ps c Q p ra e q)
theorem call_go {g : List PV → Option PV} {ml : Mo (List PV)} {σ : L2.St} {H : Hp} {Q : VK} (h : rd F ow (mCall g ml) σ H Q) :
    rdA F ow ml σ H fun xs H1 => ∃ (O : Addr → Prop) (ps : List PV) (c : PV), Pre H1 O ∧ WVs F.S H1 O xs ps ∧ g ps = some c ∧ ∀ v H', (∀ z u, H1 z = some u → H' z = some u) → RV F.S H' O v c → Q v H' := by
  obtain ⟨e, R, p⟩ := h
  refine ⟨e, R, (Post.unbind p).mono fun l e1 H1 k1 R1 p1 xs rs => ?_⟩
  obtain ⟨c, hc, q⟩ := p1.of_lift R1
  exact ⟨Gd F.G ow σ, l, c, R1.tracked, rs.wv, hc, fun v H' k rv => q H' k v rv⟩
theorem pm_callB {x : Str} {p pos : Pos} {a : Expr} {es : List Expr} {ml : Mo (List PV)} {id : String} {g : List PV → Option PV} (hc : CallOk X F (.builtin id) g) (hg : Gl X x) (hm : X.mg x = none) (hv : bootBuiltins x = some (.builtin id)) (ha : PA X (a :: es) (rdA F ow ml))
    (hn : x ≠ "__name__" := by decide) (hdb : (x == ("__debug__" : Str)) = false := by decide) (hs : starEach (a :: es) X.env = (false, eval a X.env) :: starEach es X.env := by rfl)
    (hs2 : ((backTo pos (starEach es X.env)).any fun x => x.1) = false := by rfl) : PE X (.Call (.Name x p) (a :: es) [] pos) (rd F ow (mCall g ml)) :=
  (pe_callB (call_end hc) hg hm hv ha hn hdb hs hs2).imp fun σ H Q h => call_go h
theorem pm_callTy {x : Str} {p pos : Pos} {a : Expr} {es : List Expr} {ml : Mo (List PV)} {T : String} {g : List PV → Option PV} (hc : CallOk X F (.type T) g) (hg : Gl X x) (hm : X.mg x = none) (hv : bootBuiltins x = some (.type T)) (ha : PA X (a :: es) (rdA F ow ml))
    (hn : x ≠ "__name__" := by decide) (hdb : (x == ("__debug__" : Str)) = false := by decide) (hs : starEach (a :: es) X.env = (false, eval a X.env) :: starEach es X.env := by rfl)
    (hs2 : ((backTo pos (starEach es X.env)).any fun x => x.1) = false := by rfl) : PE X (.Call (.Name x p) (a :: es) [] pos) (rd F ow (mCall g ml)) :=
  (pe_callTy (call_end hc) hg hm hv ha hn hdb hs hs2).imp fun σ H Q h => call_go h

def gLen : List PV → Option PV
  | [.tup l] => some (.int l.length)
  | [.lst l] => some (.int l.length)
  | [.fz l] => some (.int l.length)
  | _ => none
theorem co_len (hS : F.S = ⟨X.K, X.mg, F.S.T⟩ := by rfl) : CallOk X F (.builtin "len") gLen := by
  intro O
  refine ⟨_, call_len_seq, fun H xs ps c Q hp r e q => ?_⟩
  have hK : F.S.K = X.K := by rw [hS]
  unfold gLen at e
  split at e
  · cases e
    obtain ⟨x, rfl, rx⟩ := r.one
    obtain ⟨a, vs, rfl, h1, t1⟩ := rx.isT
    rw [hK] at h1
    exact ⟨a, vs, rfl, .inr h1, q _ H (fun _ _ z => z) (by rw [t1.length]; exact .int _)⟩
  · cases e
    obtain ⟨x, rfl, rx⟩ := r.one
    obtain ⟨a, vs, rfl, h1, t1⟩ := rx.isL
    exact ⟨a, vs, rfl, .inl (.inl (.inl h1)), q _ H (fun _ _ z => z) (by rw [t1.length]; exact .int _)⟩
  · cases e
    obtain ⟨x, rfl, rx⟩ := r.one
    obtain ⟨a, vs, rfl, h1, t1⟩ := rx.isF
    rw [hK] at h1
    exact ⟨a, vs, rfl, .inl h1, q _ H (fun _ _ z => z) (by rw [t1.length]; exact .int _)⟩
  · cases e
def gAbs : List PV → Option PV
  | [.int i] => some (.int (if i < 0 then -i else i))
  | _ => none
theorem co_abs : CallOk X F (.builtin "abs") gAbs := by
  intro O
  refine ⟨_, call_abs, fun H xs ps c Q hp r e q => ?_⟩
  unfold gAbs at e
  split at e
  · cases e
    obtain ⟨x, rfl, rx⟩ := r.one
    cases rx.rv
    exact ⟨_, rfl, q _ H (fun _ _ z => z) (.int _)⟩
  · cases e
def gInt : List PV → Option PV
  | [.int i] => some (.int i)
  | [.bl b] => some (.int (if b = true then 1 else 0))
  | _ => none
theorem co_int : CallOk X F (.type "int") gInt := by
  intro O
  refine ⟨_, call_int1, fun H xs ps c Q hp r e q => ?_⟩
  unfold gInt at e
  split at e
  · cases e
    obtain ⟨x, rfl, rx⟩ := r.one
    cases rx.rv
    exact .inl ⟨_, rfl, q _ H (fun _ _ z => z) (.int _)⟩
  · cases e
    obtain ⟨x, rfl, rx⟩ := r.one
    cases rx.rv
    exact .inr ⟨_, rfl, q _ H (fun _ _ z => z) (.int _)⟩
  · cases e
/-- the ints of a list -/
def toIs : List PV → Option (List Int)
  | [] => some []
  | .int i :: l => (toIs l).map fun r => i :: r
  | _ :: _ => none
theorem toIs_some : ∀ {l : List PV} {ns : List Int}, toIs l = some ns → l = ns.map PV.int
  | [], _, h => by cases h; rfl
  | p :: l, ns, h => by
    cases p with
    | int i =>
      simp only [toIs] at h
      cases q : toIs l with
      | none => rw [q] at h; cases h
      | some r => rw [q] at h; cases h; rw [toIs_some q]; rfl
    | _ => simp [toIs] at h
theorem toIs_map : ∀ ns : List Int, toIs (ns.map PV.int) = some ns
  | [] => rfl
  | n :: ns => by simp only [List.map_cons, toIs, toIs_map ns]; rfl
def toBs : List PV → Option (List Bool)
  | [] => some []
  | .bl i :: l => (toBs l).map fun r => i :: r
  | _ :: _ => none
theorem toBs_some : ∀ {l : List PV} {ns : List Bool}, toBs l = some ns → l = ns.map PV.bl
  | [], _, h => by cases h; rfl
  | p :: l, ns, h => by
    cases p with
    | bl i =>
      simp only [toBs] at h
      cases q : toBs l with
      | none => rw [q] at h; cases h
      | some r => rw [q] at h; cases h; rw [toBs_some q]; rfl
    | _ => simp [toBs] at h
theorem toBs_map : ∀ ns : List Bool, toBs (ns.map PV.bl) = some ns
  | [] => rfl
  | n :: ns => by simp only [List.map_cons, toBs, toBs_map ns]; rfl
def maxI : Int → List Int → Int
  | m, [] => m
  | m, i :: l => maxI (if m < i then i else m) l
def minI : Int → List Int → Int
  | m, [] => m
  | m, i :: l => minI (if i < m then i else m) l
theorem maxI_spec : ∀ (l : List Int) (m : Int), (maxI m l = m ∨ maxI m l ∈ l) ∧ m ≤ maxI m l ∧ ∀ y ∈ l, y ≤ maxI m l
  | [], m => ⟨.inl rfl, Int.le_refl _, fun _ h => by cases h⟩
  | i :: l, m => by
    obtain ⟨h1, h2, h3⟩ := maxI_spec l (if m < i then i else m)
    have h4 : m ≤ (if m < i then i else m) ∧ i ≤ (if m < i then i else m) := by split <;> omega
    simp only [maxI]
    refine ⟨?_, Int.le_trans h4.1 h2, fun y hy => ?_⟩
    · rcases h1 with h1 | h1
      · rw [h1]
        split
        · exact .inr List.mem_cons_self
        · exact .inl rfl
      · exact .inr (List.mem_cons_of_mem _ h1)
    · rcases List.mem_cons.mp hy with rfl | hy
      · exact Int.le_trans h4.2 h2
      · exact h3 y hy
theorem minI_spec : ∀ (l : List Int) (m : Int), (minI m l = m ∨ minI m l ∈ l) ∧ minI m l ≤ m ∧ ∀ y ∈ l, minI m l ≤ y
  | [], m => ⟨.inl rfl, Int.le_refl _, fun _ h => by cases h⟩
  | i :: l, m => by
    obtain ⟨h1, h2, h3⟩ := minI_spec l (if i < m then i else m)
    have h4 : (if i < m then i else m) ≤ m ∧ (if i < m then i else m) ≤ i := by split <;> omega
    simp only [minI]
    refine ⟨?_, Int.le_trans h2 h4.1, fun y hy => ?_⟩
    · rcases h1 with h1 | h1
      · rw [h1]
        split
        · exact .inr List.mem_cons_self
        · exact .inl rfl
      · exact .inr (List.mem_cons_of_mem _ h1)
    · rcases List.mem_cons.mp hy with rfl | hy
      · exact Int.le_trans h2 h4.2
      · exact h3 y hy
def gMax : List PV → Option PV
  | [.int i, .int j] => some (.int (if j > i then j else i))
  | [.lst l] => match toIs l with
    | some (n :: ns) => some (.int (maxI n ns))
    | _ => none
  | _ => none
def gMin : List PV → Option PV
  | [.int i, .int j] => some (.int (if j < i then j else i))
  | [.lst l] => match toIs l with
    | some (n :: ns) => some (.int (minI n ns))
    | _ => none
  | _ => none
theorem CallR.or {f : Value} {r r' : List V → Hp → VK → Prop} (h : CallR X f r) (h' : CallR X f r') : CallR X f fun xs H Q => r xs H Q ∨ r' xs H Q := by
  intro pins s σ H xs us Q I rv q
  rcases q with q | q
  · exact h pins s σ H xs us Q I rv q
  · exact h' pins s σ H xs us Q I rv q
theorem co_max (hc : X.calm = true := by rfl) : CallOk X F (.builtin "max") gMax := by
  intro O
  refine ⟨_, CallR.or (call_max2 hc) (cr_max hc), fun H xs ps c Q hp r e q => ?_⟩
  unfold gMax at e
  split at e
  · cases e
    obtain ⟨x, y, rfl, rx, ry⟩ := r.two
    cases rx.rv
    cases ry.rv
    exact .inl ⟨_, _, rfl, q _ H (fun _ _ z => z) (.int _)⟩
  · rename_i l
    split at e
    · rename_i n ns h
      cases e
      obtain ⟨x, rfl, rx⟩ := r.one
      obtain ⟨a, vs, rfl, h1, t1⟩ := rx.isL
      rw [toIs_some h] at t1
      rw [t1.ints] at h1
      refine .inr ⟨a, n :: ns, rfl, .inl (.inl h1), by simp, fun m hm hle => ?_⟩
      obtain ⟨h2, h3, h4⟩ := maxI_spec ns n
      have e1 : m = maxI n ns := by
        have a1 := hle (maxI n ns) (by rcases h2 with h2 | h2; · rw [h2]; exact List.mem_cons_self
                                       · exact List.mem_cons_of_mem _ h2)
        have a2 : m ≤ maxI n ns := by
          rcases List.mem_cons.mp hm with rfl | hm
          · exact h3
          · exact h4 m hm
        omega
      rw [e1]
      exact q _ H (fun _ _ z => z) (.int _)
    · cases e
  · cases e
theorem co_min (hc : X.calm = true := by rfl) : CallOk X F (.builtin "min") gMin := by
  intro O
  refine ⟨_, CallR.or (call_min2 hc) (cr_min hc), fun H xs ps c Q hp r e q => ?_⟩
  unfold gMin at e
  split at e
  · cases e
    obtain ⟨x, y, rfl, rx, ry⟩ := r.two
    cases rx.rv
    cases ry.rv
    exact .inl ⟨_, _, rfl, q _ H (fun _ _ z => z) (.int _)⟩
  · rename_i l
    split at e
    · rename_i n ns h
      cases e
      obtain ⟨x, rfl, rx⟩ := r.one
      obtain ⟨a, vs, rfl, h1, t1⟩ := rx.isL
      rw [toIs_some h] at t1
      rw [t1.ints] at h1
      refine .inr ⟨a, n :: ns, rfl, .inl (.inl h1), by simp, fun m hm hle => ?_⟩
      obtain ⟨h2, h3, h4⟩ := minI_spec ns n
      have e1 : m = minI n ns := by
        have a1 := hle (minI n ns) (by rcases h2 with h2 | h2; · rw [h2]; exact List.mem_cons_self
                                       · exact List.mem_cons_of_mem _ h2)
        have a2 : minI n ns ≤ m := by
          rcases List.mem_cons.mp hm with rfl | hm
          · exact h3
          · exact h4 m hm
        omega
      rw [e1]
      exact q _ H (fun _ _ z => z) (.int _)
    · cases e
  · cases e
def gSum : List PV → Option PV
  | [.lst l] => (toIs l).map fun ns => .int ns.sum
  | _ => none
theorem co_sum (hc : X.calm = true := by rfl) : CallOk X F (.builtin "sum") gSum := by
  intro O
  refine ⟨_, cr_sum hc, fun H xs ps c Q hp r e q => ?_⟩
  unfold gSum at e
  split at e
  · rename_i l
    cases h : toIs l with
    | none => rw [h] at e; cases e
    | some ns =>
      rw [h] at e
      cases e
      obtain ⟨x, rfl, rx⟩ := r.one
      obtain ⟨a, vs, rfl, h1, t1⟩ := rx.isL
      rw [toIs_some h] at t1
      rw [t1.ints] at h1
      exact ⟨a, ns, rfl, .inl (.inl h1), q _ H (fun _ _ z => z) (.int _)⟩
  · cases e
def gAll : List PV → Option PV
  | [.lst l] => (toBs l).map fun ns => .bl (ns.all id)
  | _ => none
def gAny : List PV → Option PV
  | [.lst l] => (toBs l).map fun ns => .bl (ns.any id)
  | _ => none
theorem co_all (hc : X.calm = true := by rfl) : CallOk X F (.builtin "all") gAll := by
  intro O
  refine ⟨_, cr_all hc, fun H xs ps c Q hp r e q => ?_⟩
  unfold gAll at e
  split at e
  · rename_i l
    cases h : toBs l with
    | none => rw [h] at e; cases e
    | some ns =>
      rw [h] at e
      cases e
      obtain ⟨x, rfl, rx⟩ := r.one
      obtain ⟨a, vs, rfl, h1, t1⟩ := rx.isL
      rw [toBs_some h] at t1
      rw [t1.bls] at h1
      exact ⟨a, ns, rfl, .inl (.inl h1), q _ H (fun _ _ z => z) (.bl _)⟩
  · cases e
theorem co_any (hc : X.calm = true := by rfl) : CallOk X F (.builtin "any") gAny := by
  intro O
  refine ⟨_, cr_any hc, fun H xs ps c Q hp r e q => ?_⟩
  unfold gAny at e
  split at e
  · rename_i l
    cases h : toBs l with
    | none => rw [h] at e; cases e
    | some ns =>
      rw [h] at e
      cases e
      obtain ⟨x, rfl, rx⟩ := r.one
      obtain ⟨a, vs, rfl, h1, t1⟩ := rx.isL
      rw [toBs_some h] at t1
      rw [t1.bls] at h1
      exact ⟨a, ns, rfl, .inl (.inl h1), q _ H (fun _ _ z => z) (.bl _)⟩
  · cases e
def gTuple : List PV → Option PV
  | [.lst l] => some (.tup l)
  | [.fz l] => some (.tup l)
  | [.tup l] => some (.tup l)
  | _ => none
theorem co_tuple (hS : F.S = ⟨X.K, X.mg, F.S.T⟩ := by rfl) : CallOk X F (.type "tuple") gTuple := by
  intro O
  refine ⟨_, call_tuple_of, fun H xs ps c Q hp r e q => ?_⟩
  have hK : F.S.K = X.K := by rw [hS]
  unfold gTuple at e
  split at e
  · cases e
    obtain ⟨x, rfl, rx⟩ := r.one
    obtain ⟨a, vs, rfl, h1, t1⟩ := rx.isL
    exact ⟨a, vs, rfl, .inl ⟨.inl (.inl h1), fun p hn => q _ _ (upd_keep hn) (t1.newT hn hp)⟩⟩
  · cases e
    obtain ⟨x, rfl, rx⟩ := r.one
    obtain ⟨a, vs, rfl, h1, t1⟩ := rx.isF
    rw [hK] at h1
    exact ⟨a, vs, rfl, .inl ⟨h1, fun p hn => q _ _ (upd_keep hn) (t1.newT hn hp)⟩⟩
  · cases e
    obtain ⟨x, rfl, rx⟩ := r.one
    have rx' := rx.rv
    obtain ⟨a, vs, rfl, h1, t1⟩ := rx.isT
    rw [hK] at h1
    exact ⟨a, vs, rfl, .inr ⟨h1, q _ H (fun _ _ z => z) rx'⟩⟩
  · cases e
def gList : List PV → Option PV
  | [.lst l] => some (.lst l)
  | [.fz l] => some (.lst l)
  | [.tup l] => some (.lst l)
  | _ => none
theorem co_list (hS : F.S = ⟨X.K, X.mg, F.S.T⟩ := by rfl) : CallOk X F (.type "list") gList := by
  intro O
  refine ⟨_, call_list_of, fun H xs ps c Q hp r e q => ?_⟩
  have hK : F.S.K = X.K := by rw [hS]
  unfold gList at e
  split at e
  · cases e
    obtain ⟨x, rfl, rx⟩ := r.one
    obtain ⟨a, vs, rfl, h1, t1⟩ := rx.isL
    exact ⟨a, vs, rfl, .inl (.inl (.inl h1)), fun p hn => q _ _ (upd_keep hn) (t1.newL hn hp)⟩
  · cases e
    obtain ⟨x, rfl, rx⟩ := r.one
    obtain ⟨a, vs, rfl, h1, t1⟩ := rx.isF
    rw [hK] at h1
    exact ⟨a, vs, rfl, .inl h1, fun p hn => q _ _ (upd_keep hn) (t1.newL hn hp)⟩
  · cases e
    obtain ⟨x, rfl, rx⟩ := r.one
    obtain ⟨a, vs, rfl, h1, t1⟩ := rx.isT
    rw [hK] at h1
    exact ⟨a, vs, rfl, .inr h1, fun p hn => q _ _ (upd_keep hn) (t1.newL hn hp)⟩
  · cases e
/-- isinstance -/
def tyN : PV → Option String
  | .non => some "NoneType"
  | .bl _ => some "bool"
  | .int _ => some "int"
  | .str _ => some "str"
  | .tup _ => some "tuple"
  | .lst _ => some "list"
  | .fz _ => some "list"
  | .dK _ => some "dict"
  | _ => none
def gIsi : List PV → Option PV
  | [p, .ty n] => (tyN p).bind fun t => (kitB t n).map .bl
  | _ => none
theorem RV.tyX {S : Se} {H : Hp} {O : Addr → Prop} {v : V} {p : PV} {t : String} (r : RV S H O v p) (h : tyN p = some t) : TyX S.K H v (.type t) := by
  cases r with
  | non => cases h; exact .base .non
  | bl b => cases h; exact .base (.bl b)
  | int i => cases h; exact .base (.int i)
  | str x => cases h; exact .base (.str x)
  | tup n r t => cases h; rcases r with r | ⟨o, r⟩
                 · exact .base (.tup r)
                 · exact .fTuple r
  | tupK r t =>
    cases h
    rcases r (fun _ => none) with (r | ⟨o, r⟩) | ⟨o, its, n, h1, h2, _⟩
    · cases r
    · cases r
    · exact .kTuple h1 h2
  | lst n r t => cases h; exact .base (.lst r)
  | fz n r t => cases h; exact .base (.frz r)
  | fzK r t =>
    cases h
    rcases r (fun _ => none) with (r | ⟨o, r⟩) | ⟨o, its, n, h1, h2, _⟩
    · cases r
    · cases r
    · exact .kList h1 h2
  | dK n r t => cases h; exact .base (.dK r)
  | _ => cases h
theorem WV.tyX {S : Se} {H : Hp} {O : Addr → Prop} {v : V} {p : PV} {t : String} (r : WV S H O v p) (h : tyN p = some t) : TyX S.K H v (.type t) := by
  rcases r with r | r
  · exact r.tyX h
  · cases p with
    | lst l => obtain ⟨a, vs, rfl, h1, _⟩ := r; cases h; exact .base (.lst h1)
    | dK l => obtain ⟨a, vs, rfl, h1, _⟩ := r; cases h; exact .base (.dK h1)
    | _ => exact r.elim
theorem co_isi (hS : F.S = ⟨X.K, X.mg, F.S.T⟩ := by rfl) : CallOk X F (.builtin "isinstance") gIsi := by
  intro O
  refine ⟨_, call_isi, fun H xs ps c Q hp r e q => ?_⟩
  have hK : F.S.K = X.K := by rw [hS]
  unfold gIsi at e
  split at e
  · rename_i p n
    cases h : tyN p with
    | none => rw [h] at e; cases e
    | some t =>
      rw [h] at e
      simp only [Option.bind] at e
      cases h2 : kitB t n with
      | none => rw [h2] at e; cases e
      | some b =>
        rw [h2] at e
        cases e
        obtain ⟨x, y, rfl, rx, ry⟩ := r.two
        cases ry.rv
        exact ⟨x, _, _, _, b, rfl, .ty n, hK ▸ WV.tyX rx h, kit_ty h2, q _ H (fun _ _ z => z) (.bl _)⟩
  · cases e
end
end M

namespace M
open PySem PySem.Spec PyProof.Rows L2

/-! ### arguments of own defs: a value, or a name whose cell the callee changes -/
inductive Ar where
  | v (p : PV) | o (i : Nat)
inductive ArAt (ow : List Nat) (S : Se) (H : Hp) (O : Addr → Prop) (σ : L2.St) : List V → List Ar → Prop
  | nil : ArAt ow S H O σ [] []
  | v {x : V} {p : PV} {xs : List V} {l : List Ar} : RV S H O x p → ArAt ow S H O σ xs l → ArAt ow S H O σ (x :: xs) (.v p :: l)
  | o {x : V} {i : Nat} {xs : List V} {l : List Ar} : i ∈ ow → σ[i]? = some (some x) → ArAt ow S H O σ xs l → ArAt ow S H O σ (x :: xs) (.o i :: l)
theorem ArAt.mono {ow : List Nat} {S : Se} {H H' : Hp} {O O' : Addr → Prop} {σ : L2.St} (k : Keep O H H') (q : Less H O O') : ∀ {xs : List V} {l : List Ar}, ArAt ow S H O σ xs l → ArAt ow S H' O' σ xs l
  | _, _, .nil => .nil
  | _, _, .v r t => .v (r.mono k q) (ArAt.mono k q t)
  | _, _, .o i e t => .o i e (ArAt.mono k q t)
theorem ArAt.length {ow : List Nat} {S : Se} {H : Hp} {O : Addr → Prop} {σ : L2.St} : ∀ {xs : List V} {l : List Ar}, ArAt ow S H O σ xs l → xs.length = l.length
  | _, _, .nil => rfl
  | _, _, .v _ t => congrArg Nat.succ (ArAt.length t)
  | _, _, .o _ _ t => congrArg Nat.succ (ArAt.length t)
theorem ArAt.getV {ow : List Nat} {S : Se} {H : Hp} {O : Addr → Prop} {σ : L2.St} : ∀ {xs : List V} {l : List Ar} {k : Nat} {p : PV}, ArAt ow S H O σ xs l → l[k]? = some (.v p) → ∃ x, xs[k]? = some x ∧ RV S H O x p
  | _, _, _, _, .nil, e => by simp at e
  | _, _, 0, _, .v r t, e => by simp at e; subst e; exact ⟨_, rfl, r⟩
  | _, _, 0, _, .o _ _ t, e => by simp at e
  | _, _, k + 1, p, .v _ t, e => by
    obtain ⟨x, h1, h2⟩ := ArAt.getV (k := k) (p := p) t (by simpa using e)
    exact ⟨x, by simpa using h1, h2⟩
  | _, _, k + 1, p, .o _ _ t, e => by
    obtain ⟨x, h1, h2⟩ := ArAt.getV (k := k) (p := p) t (by simpa using e)
    exact ⟨x, by simpa using h1, h2⟩
theorem ArAt.getO {ow : List Nat} {S : Se} {H : Hp} {O : Addr → Prop} {σ : L2.St} : ∀ {xs : List V} {l : List Ar} {k i : Nat}, ArAt ow S H O σ xs l → l[k]? = some (Ar.o i) → ∃ x, xs[k]? = some x ∧ σ[i]? = some (some x) ∧ i ∈ ow
  | _, _, _, _, .nil, e => by simp at e
  | _, _, 0, _, .v r t, e => by simp at e
  | _, _, 0, _, .o j q t, e => by simp at e; subst e; exact ⟨_, rfl, q, j⟩
  | _, _, k + 1, i, .v _ t, e => by
    obtain ⟨x, h1, h2⟩ := ArAt.getO (k := k) (i := i) t (by simpa using e)
    exact ⟨x, by simpa using h1, h2⟩
  | _, _, k + 1, i, .o _ _ t, e => by
    obtain ⟨x, h1, h2⟩ := ArAt.getO (k := k) (i := i) t (by simpa using e)
    exact ⟨x, by simpa using h1, h2⟩
def rdR (F : Fm) (ow : List Nat) (m : Mo (List Ar)) : TA := fun σ H Q => ∃ e, ER F.S F.G ow σ H e ∧ Post F ow σ H (m e) fun l _ H' => ∀ vs, ArAt ow F.S H' (Gd F.G ow σ) σ vs l → Q vs H'
section
variable {X : Cx} {F : Fm} {ow : List Nat}
def mrNil : Mo (List Ar) := fun e => .ok [] e
def mrV (m : Mo PV) (ml : Mo (List Ar)) : Mo (List Ar) := fun e => (m e).bind fun p e1 => (ml e1).bind fun l e2 => .ok (.v p :: l) e2
def mrO (i : Nat) (ml : Mo (List Ar)) : Mo (List Ar) := fun e => match e[i]? with
  | some (some _) => (ml e).bind fun l e2 => .ok (.o i :: l) e2
  | _ => .bad
theorem pmr_nil : PA X [] (rdR F ow mrNil) := pa_nil.imp fun σ H Q ⟨e, R, p⟩ => p H Keep.refl R [] .nil
theorem pmr_v {a : Expr} {es : List Expr} {m : Mo PV} {ml : Mo (List Ar)} (ha : PE X a (rd F ow m)) (hr : PA X es (rdR F ow ml)) (hs : starEach (a :: es) X.env = (false, eval a X.env) :: starEach es X.env := by rfl) : PA X (a :: es) (rdR F ow (mrV m ml)) :=
  (pa_cons ha hr hs).imp fun σ H Q ⟨e, R, p⟩ =>
    ⟨e, R, (Post.unbind p).mono fun a e1 H1 k1 R1 p1 x rx => ⟨e1, R1, (Post.unbind p1).mono fun l e2 H2 k2 R2 p2 xs rs => p2 H2 Keep.refl R2 _ (.v (rx.mono k2.gd Less.refl) rs)⟩⟩
theorem pmr_o (i : Nat) {x : Str} {p : Pos} {es : List Expr} {ml : Mo (List Ar)} (hr : PA X es (rdR F ow ml)) (hi : i ∈ ow := by decide) (hN : X.N[i]? = some x := by rfl) (hv : Vis X.env.scope x := by first | exact .inl rfl | exact .inr (.inl rfl) | exact .inr (.inr rfl))
    (hd : (x == ("__debug__" : Str)) = false := by decide) (hcd : (x == ("__classdict__" : Str)) = false := by decide) (hs : starEach (Expr.Name x p :: es) X.env = (false, eval (Expr.Name x p) X.env) :: starEach es X.env := by rfl) : PA X (.Name x p :: es) (rdR F ow (mrO i ml)) :=
  (pa_cons (pe_var hN hv hd hcd) hr hs).imp fun σ H Q ⟨e, R, p⟩ => by
    unfold mrO at p
    split at p
    · rename_i q h
      obtain ⟨v, h1, h2⟩ := R.own i q h hi
      exact ⟨v, h1, e, R, (Post.unbind p).mono fun l e2 H2 k2 R2 p2 xs rs => p2 H2 Keep.refl R2 _ (.o hi h1 rs)⟩
    · exact p.elim
/-- the told arguments, as they stand -/
def argsOf (e : En) : List Ar → Option (List PV)
  | [] => some []
  | .v p :: l => (argsOf e l).map fun r => p :: r
  | .o i :: l => match e[i]? with
    | some (some p) => (argsOf e l).map fun r => p :: r
    | _ => none
theorem argsOf_get {e : En} : ∀ {l : List Ar} {ps : List PV} {k : Nat} {p : PV}, argsOf e l = some ps → ps[k]? = some p → l[k]? = some (.v p) ∨ ∃ i, l[k]? = some (Ar.o i) ∧ e[i]? = some (some p)
  | [], ps, k, p, h, q => by cases h; simp at q
  | .v p0 :: l, ps, k, p, h, q => by
    simp only [argsOf] at h
    cases h1 : argsOf e l with
    | none => rw [h1] at h; cases h
    | some r =>
      rw [h1] at h
      cases h
      cases k with
      | zero => simp at q; subst q; exact .inl rfl
      | succ k => simpa using argsOf_get (k := k) h1 (by simpa using q)
  | .o i :: l, ps, k, p, h, q => by
    simp only [argsOf] at h
    split at h
    · rename_i p0 he
      cases h1 : argsOf e l with
      | none => rw [h1] at h; cases h
      | some r =>
        rw [h1] at h
        cases h
        cases k with
        | zero => simp at q; subst q; exact .inr ⟨i, rfl, he⟩
        | succ k => simpa using argsOf_get (k := k) h1 (by simpa using q)
    · cases h
theorem argsOf_length {e : En} : ∀ {l : List Ar} {ps : List PV}, argsOf e l = some ps → ps.length = l.length
  | [], ps, h => by cases h; rfl
  | .v p0 :: l, ps, h => by
    simp only [argsOf] at h
    cases h1 : argsOf e l with
    | none => rw [h1] at h; cases h
    | some r => rw [h1] at h; cases h; simp [argsOf_length h1]
  | .o i :: l, ps, h => by
    simp only [argsOf] at h
    split at h
    · cases h1 : argsOf e l with
      | none => rw [h1] at h; cases h
      | some r => rw [h1] at h; cases h; simp [argsOf_length h1]
    · cases h
/-- which arguments are changed -/
def isO (l : List Ar) (k : Nat) : Bool := match l[k]? with
  | some (.o _) => true
  | _ => false
/-- what the callee has changed is put back: f its names at the end -/
def putO (f : En) : Nat → List Ar → En → Option En
  | _, [], e => some e
  | k, .v _ :: l, e => putO f (k + 1) l e
  | k, .o i :: l, e => match f[k]? with
    | some (some p) => putO f (k + 1) l (e.set i (some p))
    | _ => none
def slots (l : List Ar) : List Nat := l.filterMap fun a => match a with
  | .o i => some i
  | _ => none

/-- what a def promises: n arguments, those at io can change; mf its mirror -/
def spM (S : Se) (n : Nat) (io : List Nat) (mf : List PV → Out PV) : Sp := fun vs H Q E => ∃ (O : Addr → Prop) (ps : List PV), vs.length = n ∧ ps.length = n ∧ Pre H O ∧ (∀ p ∈ S.T, LamX.TabS H p.1 p.2) ∧
  (∀ k p, ps[k]? = some p → k ∉ io → ∃ v, vs[k]? = some v ∧ RV S H O v p) ∧
  (∀ k p, ps[k]? = some p → k ∈ io → ∃ a, vs[k]? = some (.ref a) ∧ O a ∧ At S H O (.ref a) p) ∧
  (∀ k k' a, k ∈ io → k' ∈ io → vs[k]? = some (.ref a) → vs[k']? = some (.ref a) → k = k') ∧
  match mf ps with
  | .ok p f => ∀ v H', Keep (fun a => ∃ k, k ∈ io ∧ vs[k]? = some (.ref a)) H H' → LamX.Tabs S.T H' → RV S H' O v p → (∀ k p', k ∈ io → f[k]? = some (some p') → ∃ w, vs[k]? = some w ∧ At S H' O w p') → Q v H'
  | .exc x f => ∀ cls d H', Keep (fun a => ∃ k, k ∈ io ∧ vs[k]? = some (.ref a)) H H' → LamX.Tabs S.T H' → ExAt S H' O cls d x → (∀ k p', k ∈ io → f[k]? = some (some p') → ∃ w, vs[k]? = some w ∧ At S H' O w p') → E cls d H'
  | .bad => False
/-- a call's mirror -/
def mDef (n : Nat) (io : List Nat) (mf : List PV → Out PV) (ml : Mo (List Ar)) : Mo PV := fun e => (ml e).bind fun l e1 =>
  if l.length = n ∧ (∀ k, k < n → (k ∈ io ↔ isO l k = true)) ∧ (slots l).Nodup then
    match argsOf e1 l with
    | none => .bad
    | some ps => match mf ps with
      | .ok p f => match putO f 0 l e1 with
        | some e2 => .ok p e2
        | none => .bad
      | .exc x f => match putO f 0 l e1 with
        | some e2 => .exc x e2
        | none => .bad
      | .bad => .bad
  else .bad
theorem isO_some {l : List Ar} {k : Nat} (h : isO l k = true) : ∃ i, l[k]? = some (Ar.o i) := by
  unfold isO at h
  split at h
  · rename_i i q; exact ⟨i, q⟩
  · cases h
theorem slots_inj : ∀ {l : List Ar} {k k' i : Nat}, (slots l).Nodup → l[k]? = some (Ar.o i) → l[k']? = some (Ar.o i) → k = k'
  | [], k, k', i, _, h, _ => by simp at h
  | .v p :: l, k, k', i, hn, h, h' => by
    have hn' : (slots l).Nodup := hn
    cases k with
    | zero => simp at h
    | succ k => cases k' with
      | zero => simp at h'
      | succ k' => exact congrArg Nat.succ (slots_inj (l := l) (k := k) (k' := k') (i := i) hn' (by simpa using h) (by simpa using h'))
  | .o j :: l, k, k', i, hn, h, h' => by
    have hn' : (j :: slots l).Nodup := hn
    rw [List.nodup_cons] at hn'
    have mem : ∀ {m : Nat}, l[m]? = some (Ar.o j) → j ∈ slots l := fun {m} q => List.mem_filterMap.mpr ⟨_, List.mem_of_getElem? q, rfl⟩
    cases k with
    | zero =>
      simp at h; subst h
      cases k' with
      | zero => rfl
      | succ k' => exact absurd (mem (by simpa using h')) hn'.1
    | succ k => cases k' with
      | zero => simp at h'; subst h'; exact absurd (mem (by simpa using h)) hn'.1
      | succ k' => exact congrArg Nat.succ (slots_inj (l := l) (k := k) (k' := k') (i := i) hn'.2 (by simpa using h) (by simpa using h'))
theorem putO_get : ∀ {l : List Ar} {f e e2 : En} {k : Nat}, putO f k l e = some e2 → ∀ i : Nat, (∀ j : Nat, l[j]? ≠ some (Ar.o i)) → e2[i]? = e[i]?
  | [], f, e, e2, k, h, i, _ => by cases h; rfl
  | .v p :: l, f, e, e2, k, h, i, hi => putO_get (l := l) h i fun j q => hi (j + 1) (by simpa using q)
  | .o n :: l, f, e, e2, k, h, i, hi => by
    simp only [putO] at h
    split at h
    · rw [putO_get (l := l) h i fun j q => hi (j + 1) (by simpa using q)]
      have : n ≠ i := fun z => hi 0 (by simp [z])
      rw [List.getElem?_set_ne this]
    · cases h
theorem putO_len : ∀ {l : List Ar} {f e e2 : En} {k : Nat}, putO f k l e = some e2 → e2.length = e.length
  | [], f, e, e2, k, h => by cases h; rfl
  | .v p :: l, f, e, e2, k, h => putO_len (l := l) h
  | .o n :: l, f, e, e2, k, h => by
    simp only [putO] at h
    split at h
    · rw [putO_len (l := l) h, List.length_set]
    · cases h
theorem putO_at : ∀ {l : List Ar} {f e e2 : En} {k : Nat}, putO f k l e = some e2 → (slots l).Nodup → ∀ i j : Nat, l[j]? = some (Ar.o i) → i < e.length → ∃ p, f[k + j]? = some (some p) ∧ e2[i]? = some (some p)
  | [], f, e, e2, k, h, _, i, j, hj, _ => by simp at hj
  | .v p :: l, f, e, e2, k, h, hn, i, j, hj, hl => by
    cases j with
    | zero => simp at hj
    | succ j =>
      obtain ⟨p, h1, h2⟩ := putO_at (l := l) h hn i j (by simpa using hj) hl
      exact ⟨p, by rw [← h1]; congr 1; omega, h2⟩
  | .o n :: l, f, e, e2, k, h, hn, i, j, hj, hl => by
    have hn' : (n :: slots l).Nodup := hn
    rw [List.nodup_cons] at hn'
    simp only [putO] at h
    split at h
    · rename_i p hp
      cases j with
      | zero =>
        simp at hj
        subst hj
        refine ⟨p, by simpa using hp, ?_⟩
        rw [putO_get h n fun j q => hn'.1 (List.mem_filterMap.mpr ⟨_, List.mem_of_getElem? q, rfl⟩)]
        rw [List.getElem?_set_self hl]
      | succ j =>
        obtain ⟨p, h1, h2⟩ := putO_at (l := l) h hn'.2 i j (by simpa using hj) (by rw [List.length_set]; exact hl)
        exact ⟨p, by rw [← h1]; congr 1; omega, h2⟩
    · cases h
/-- behind a call the frame's names stand as the mirror says -/
theorem ER.called {S : Se} {G : Addr → Prop} {σ : L2.St} {H H' : Hp} {e e2 f : En} {l : List Ar} {vs : List V} (R : ER S G ow σ H e) (A : ArAt ow S H (Gd G ow σ) σ vs l) (hw : ∀ k i : Nat, l[k]? = some (Ar.o i) → ∃ p, e[i]? = some (some p)) (hn : (slots l).Nodup)
    (hp : putO f 0 l e = some e2)
    (keep : Keep (fun a => ∃ k, isO l k = true ∧ vs[k]? = some (.ref a)) H H')
    (htb : ∀ p ∈ S.T, LamX.TabS H' p.1 p.2) (back : ∀ k p', isO l k = true → f[k]? = some (some p') → ∃ w, vs[k]? = some w ∧ At S H' (Gd G ow σ) w p') : Keep (Own ow σ) H H' ∧ ER S G ow σ H' e2 := by
  have ks : Keep (Own ow σ) H H' := ⟨fun a o e1 n nt => keep.kp a o e1 (fun ⟨k, hk, z⟩ => by
    obtain ⟨i, hi⟩ := isO_some hk
    obtain ⟨x, h1, h2, h3⟩ := A.getO hi
    rw [z] at h1; cases h1
    exact n ⟨i, h3, h2⟩) nt⟩
  refine ⟨ks, ⟨fun i p h1 h2 => ?_, fun i p h1 h2 => ?_, fun i hi q => ?_, R.sep, R.ng, fun a g => ?_, htb, ?_⟩⟩
  · have : e2[i]? = e[i]? := putO_get hp i fun j q => h2 (let ⟨_, _, _, z⟩ := A.getO q; z)
    rw [this] at h1
    obtain ⟨v, h3, h4⟩ := R.val i p h1 h2
    exact ⟨v, h3, h4.mono ks.gd Less.refl⟩
  · by_cases q : ∃ j : Nat, l[j]? = some (Ar.o i)
    · obtain ⟨j, hj⟩ := q
      obtain ⟨p0, he⟩ := hw j i hj
      obtain ⟨p', h3, h4⟩ := putO_at hp hn i j hj (List.getElem?_eq_some_iff.mp he).1
      rw [h1] at h4; cases h4
      rw [Nat.zero_add] at h3
      obtain ⟨w, h5, h6⟩ := back j p (by unfold isO; rw [hj]) h3
      obtain ⟨x, h7, h8, _⟩ := A.getO hj
      rw [h5] at h7; cases h7
      exact ⟨w, h8, h6⟩
    · have : e2[i]? = e[i]? := putO_get hp i fun j z => q ⟨j, z⟩
      rw [this] at h1
      obtain ⟨v, h3, h4⟩ := R.own i p h1 h2
      refine ⟨v, h3, h4.mono ks.gd Less.refl fun a z => ?_⟩
      obtain ⟨b, e3, e4⟩ := h4.ref
      subst z; cases e3
      obtain ⟨o, h5, nt⟩ := e4
      rw [h5]
      refine keep.kp a o h5 (fun ⟨k, hk, z⟩ => ?_) nt
      obtain ⟨i', hi'⟩ := isO_some hk
      obtain ⟨x, h7, h8, h9⟩ := A.getO hi'
      rw [z] at h7; cases h7
      exact q ⟨k, R.sep i' i a h9 h2 h8 h3 ▸ hi'⟩
  · refine R.off i hi fun p z => ?_
    by_cases q' : ∃ j : Nat, l[j]? = some (Ar.o i)
    · obtain ⟨j, hj⟩ := q'
      obtain ⟨p', h3, h4⟩ := putO_at hp hn i j hj (List.getElem?_eq_some_iff.mp z).1
      exact q p' h4
    · have : e2[i]? = e[i]? := putO_get hp i fun j z => q' ⟨j, z⟩
      exact q p (this.trans z)
  · obtain ⟨o, h5, nt⟩ := R.gt a g
    refine ⟨o, keep.kp a o h5 (fun ⟨k, hk, z⟩ => ?_) nt, nt⟩
    obtain ⟨i', hi'⟩ := isO_some hk
    obtain ⟨x, h7, h8, h9⟩ := A.getO hi'
    rw [z] at h7; cases h7
    exact R.ng i' a h9 h8 g
  · rw [putO_len hp]; exact R.len
end
end M

namespace M
open PySem PySem.Spec PyProof.Rows L2

/-! ### calls of own defs -/
structure Dn (P : Program) (w : World) (K : PySem.W.Frag) (mg : Str → Option Value) (T : List (Addr × Str)) (base : Heap) (CX : CXT) (x : Str) (k n : Nat) (io : List Nat) (mf : List PV → Out PV) : Prop where
  ex : ∃ f fd ps, FnOk P w K mg base CX k f fd ps (spM ⟨K, mg, T⟩ n io mf) ∧ mg x = some (.ref f) ∧ PySem.W.keepIn K (.ref f) = true ∧ Binds K fd ps []
section
variable {X : Cx} {F : Fm} {ow : List Nat}
theorem argsOf_o {e : En} : ∀ {l : List Ar} {ps : List PV} {k i : Nat}, argsOf e l = some ps → l[k]? = some (Ar.o i) → ∃ p, e[i]? = some (some p) ∧ ps[k]? = some p
  | [], ps, k, i, h, q => by simp at q
  | .v p0 :: l, ps, k, i, h, q => by
    simp only [argsOf] at h
    cases h1 : argsOf e l with
    | none => rw [h1] at h; cases h
    | some r =>
      rw [h1] at h
      cases h
      cases k with
      | zero => simp at q
      | succ k => simpa using argsOf_o (k := k) h1 (by simpa using q)
  | .o j :: l, ps, k, i, h, q => by
    simp only [argsOf] at h
    split at h
    · rename_i p0 he
      cases h1 : argsOf e l with
      | none => rw [h1] at h; cases h
      | some r =>
        rw [h1] at h
        cases h
        cases k with
        | zero => simp at q; subst q; exact ⟨p0, he, rfl⟩
        | succ k => simpa using argsOf_o (k := k) h1 (by simpa using q)
    · cases h
theorem isO_of {l : List Ar} {k i : Nat} (h : l[k]? = some (Ar.o i)) : isO l k = true := by unfold isO; rw [h]
/-- the callee's promise, from the mirror of the call -/
theorem def_go {n : Nat} {io : List Nat} {mf : List PV → Out PV} {ml : Mo (List Ar)} {E : XK} (hW : ∀ cls d σ H, F.W cls d σ H → E cls d H) {σ : L2.St} {H : Hp} {Q : VK} (h : rd F ow (mDef n io mf ml) σ H Q) :
    tCall (spM F.S n io mf) [] E (rdR F ow ml) σ H Q := by
  obtain ⟨e, R, p⟩ := h
  refine ⟨e, R, (Post.unbind p).mono fun l e1 H1 k1 R1 p1 vs A => ?_⟩
  show spM F.S n io mf (vs ++ []) H1 Q E
  rw [List.append_nil]
  split at p1
  · rename_i hc
    obtain ⟨hl, hio, hn⟩ := hc
    cases ha : argsOf e1 l with
    | none => simp only [ha] at p1; exact p1.elim
    | some ps =>
      simp only [ha] at p1
      have hw : ∀ k i : Nat, l[k]? = some (Ar.o i) → ∃ p, e1[i]? = some (some p) := fun k i hi => let ⟨p, h1, _⟩ := argsOf_o ha hi; ⟨p, h1⟩
      have hv : vs.length = n := by rw [A.length, hl]
      have lt : ∀ {k : Nat} {p : PV}, ps[k]? = some p → k < n := fun {k p} q => by
        have := (List.getElem?_eq_some_iff.mp q).1
        rw [argsOf_length ha, hl] at this
        exact this
      have vlt : ∀ {k : Nat} {a : Addr}, vs[k]? = some (.ref a) → k < n := fun {k a} q => by
        have := (List.getElem?_eq_some_iff.mp q).1
        rw [hv] at this
        exact this
      have nof : ∀ {k : Nat}, isO l k = true → k < n := fun {k} q => by
        obtain ⟨i, hi⟩ := isO_some q
        have := (List.getElem?_eq_some_iff.mp hi).1
        omega
      refine ⟨Gd F.G ow σ, ps, hv, by rw [argsOf_length ha, hl], R1.tracked, R1.tb, fun k p q nk => ?_, fun k p q ik => ?_, fun k k' a ik ik' q q' => ?_, ?_⟩
      · rcases argsOf_get ha q with z | ⟨i, z, _⟩
        · exact A.getV z
        · exact absurd ((hio k (lt q)).mpr (isO_of z)) nk
      · rcases argsOf_get ha q with z | ⟨i, z, he⟩
        · have := (hio k (lt q)).mp ik
          obtain ⟨i, hi⟩ := isO_some this
          rw [z] at hi; cases hi
        · obtain ⟨x, h1, h2, h3⟩ := A.getO z
          obtain ⟨v, h4, h5⟩ := R1.own i p he h3
          rw [h2] at h4; cases h4
          obtain ⟨a, h6, h7⟩ := h5.ref
          subst h6
          exact ⟨a, h1, .inr ⟨i, h3, h2⟩, h5⟩
      · obtain ⟨i, hi⟩ := isO_some ((hio k (vlt q)).mp ik)
        obtain ⟨i', hi'⟩ := isO_some ((hio k' (vlt q')).mp ik')
        obtain ⟨x, h1, h2, h3⟩ := A.getO hi
        obtain ⟨x', h1', h2', h3'⟩ := A.getO hi'
        rw [q] at h1; cases h1
        rw [q'] at h1'; cases h1'
        have := R1.sep i i' a h3 h3' h2 h2'
        subst this
        exact slots_inj hn hi hi'
      · have keepO : ∀ {H' : Hp}, Keep (fun a => ∃ k, k ∈ io ∧ vs[k]? = some (.ref a)) H1 H' → Keep (fun a => ∃ k, isO l k = true ∧ vs[k]? = some (.ref a)) H1 H' := fun {H'} kp => ⟨fun a o e1 z nt => kp.kp a o e1 (fun ⟨k, ik, q⟩ => z ⟨k, (hio k (vlt q)).mp ik, q⟩) nt⟩
        cases hm : mf ps with
        | bad => simp only [hm] at p1; exact p1.elim
        | ok p f =>
          simp only [hm] at p1 ⊢
          cases hp : putO f 0 l e1 with
          | none => simp only [hp] at p1; exact p1.elim
          | some e2 =>
            simp only [hp] at p1
            intro v H' kp tbs rv bk
            obtain ⟨ks, R2⟩ := R1.called A hw hn hp (keepO kp) tbs fun k p' ik q => bk k p' ((hio k (nof ik)).mpr ik) q
            exact p1 H' ks R2 v rv
        | exc x f =>
          simp only [hm] at p1 ⊢
          cases hp : putO f 0 l e1 with
          | none => simp only [hp] at p1; exact p1.elim
          | some e2 =>
            simp only [hp] at p1
            intro cls d H' kp tbs rv bk
            obtain ⟨ks, R2⟩ := R1.called A hw hn hp (keepO kp) tbs fun k p' ik q => bk k p' ((hio k (nof ik)).mpr ik) q
            exact hW _ _ _ _ (p1 H' cls d ks R2 rv)
  · exact p1.elim
theorem pm_def {CX : CXT} {x : Str} {k n : Nat} {io : List Nat} {mf : List PV → Out PV} {ml : Mo (List Ar)} {E : XK} {p pos : Pos} {a : Expr} {es : List Expr} (D : Dn X.prog X.w X.K X.mg F.S.T X.base CX x k n io mf) (hr : Room k X.A) (hg : Gl X x) (hx : Passes CX X E) (hW : ∀ cls d σ H, F.W cls d σ H → E cls d H)
    (ha : PA X (a :: es) (rdR F ow ml)) (hS : F.S = ⟨X.K, X.mg, F.S.T⟩ := by rfl) (hd : (x == ("__debug__" : Str)) = false := by decide) (hs : starEach (a :: es) X.env = (false, eval a X.env) :: starEach es X.env := by rfl)
    (hs2 : ((backTo pos (starEach es X.env)).any fun x => x.1) = false := by rfl) : PE X (.Call (.Name x p) (a :: es) [] pos) (rd F ow (mDef n io mf ml)) := by
  obtain ⟨f, fd, ps, G, hm, hk, hb⟩ := D.ex
  exact (pe_call G hr hg hm hk hb .nil hx ha hd hs hs2).imp fun σ H Q h => by
    have z := def_go hW h
    rw [hS] at z
    exact z
end

/-! ### statements -/
theorem At.rv {S : Se} {H : Hp} {O O' : Addr → Prop} {v : V} {p : PV} (h : At S H O v p) (q : Less H O O') (no : ∀ a, v = .ref a → ¬ O' a) : RV S H O' v p := by
  cases p with
  | lst l => obtain ⟨a, vs, rfl, e1, t⟩ := h; exact .lst (no a rfl) e1 (t.mono Keep.refl q)
  | dK l => obtain ⟨a, vs, rfl, e1, t⟩ := h; exact .dK (no a rfl) e1 (t.mono Keep.refl q)
  | _ => exact h.elim
inductive SOut where
  | nxt (e : En) | ret (p : PV) (e : En) | brk (e : En) | cnt (e : En) | exc (x : Ex) (e : En) | bad
abbrev Ms := En → SOut
structure KeepS (ow : List Nat) (σ : L2.St) (H : Hp) (ow' : List Nat) (σ' : L2.St) (H' : Hp) : Prop where
  kp : ∀ a o, H a = some o → ¬ Own ow σ a → NT o → H' a = some o ∧ ¬ Own ow' σ' a
def Stay (io : List Nat) (σ σ' : L2.St) : Prop := ∀ k, k ∈ io → σ'[k]? = σ[k]?
def IoAt (F : Fm) (σ : L2.St) (H : Hp) (e : En) : Prop := ∀ k p, k ∈ F.io → e[k]? = some (some p) → ∃ v, σ[k]? = some (some v) ∧ At F.S H (Gd F.G F.io σ) v p
def PostS (F : Fm) (ow ow' ob : List Nat) (σ : L2.St) (H : Hp) (D : Ends) (o : SOut) : Prop := match o with
  | .nxt e => ∀ σ' H', KeepS ow σ H ow' σ' H' → Stay F.io σ σ' → ER F.S F.G ow' σ' H' e → D.nx σ' H'
  | .brk e => ∀ σ' H', KeepS ow σ H ob σ' H' → Stay F.io σ σ' → ER F.S F.G ob σ' H' e → D.bk σ' H'
  | .cnt e => ∀ σ' H', KeepS ow σ H ob σ' H' → Stay F.io σ σ' → ER F.S F.G ob σ' H' e → D.ct σ' H'
  | .ret p e => ∀ v H', Keep (Own ow σ) H H' → LamX.Tabs F.S.T H' → IoAt F σ H' e → RV F.S H' (Gd F.G F.io σ) v p → D.rt v H'
  | .exc x e => ∀ σ' oz H' cls d, KeepS ow σ H oz σ' H' → Stay F.io σ σ' → ER F.S F.G oz σ' H' e → ExAt F.S H' (Gd F.G oz σ') cls d x → F.W cls d σ' H'
  | .bad => False
def rdS (F : Fm) (ow ow' ob : List Nat) (m : Ms) : TS := fun D σ H => ∃ e, ER F.S F.G ow σ H e ∧ PostS F ow ow' ob σ H D (m e)
section
variable {X : Cx} {F : Fm} {ow ow' ow1 ow2 ob : List Nat} {σ σ1 σ2 : L2.St} {H H1 H2 : Hp}
theorem KeepS.refl : KeepS ow σ H ow σ H := ⟨fun a o e n _ => ⟨e, n⟩⟩
theorem KeepS.trans (a : KeepS ow σ H ow1 σ1 H1) (b : KeepS ow1 σ1 H1 ow2 σ2 H2) : KeepS ow σ H ow2 σ2 H2 := ⟨fun z o e n t => let ⟨e1, n1⟩ := a.kp z o e n t; b.kp z o e1 n1 t⟩
theorem KeepS.of (k : Keep (Own ow σ) H H1) : KeepS ow σ H ow σ H1 := ⟨fun a o e n t => ⟨k.kp a o e n t, n⟩⟩
theorem KeepS.less (a : KeepS ow σ H ow1 σ1 H1) (h : ∀ i ∈ ow2, i ∈ ow1) : KeepS ow σ H ow2 σ1 H1 := ⟨fun z o e n t => let ⟨e1, n1⟩ := a.kp z o e n t; ⟨e1, fun q => n1 (q.less h)⟩⟩
theorem KeepS.keep (a : KeepS ow σ H ow1 σ1 H1) : Keep (Own ow σ) H H1 := ⟨fun z o e n t => (a.kp z o e n t).1⟩
theorem Stay.refl {io : List Nat} : Stay io σ σ := fun _ _ => rfl
theorem Stay.trans {io : List Nat} (a : Stay io σ σ1) (b : Stay io σ1 σ2) : Stay io σ σ2 := fun k h => (b k h).trans (a k h)
theorem Stay.own {io : List Nat} (a : Stay io σ σ1) {z : Addr} (h : Own io σ z) : Own io σ1 z := let ⟨i, hi, e⟩ := h; ⟨i, hi, (a i hi).trans e⟩
theorem Stay.own' {io : List Nat} (a : Stay io σ σ1) {z : Addr} (h : Own io σ1 z) : Own io σ z := let ⟨i, hi, e⟩ := h; ⟨i, hi, (a i hi).symm.trans e⟩
theorem Stay.gd {io : List Nat} {G : Addr → Prop} (a : Stay io σ σ1) : Gd G io σ = Gd G io σ1 := funext fun z => propext ⟨Or.imp id a.own, Or.imp id a.own'⟩
theorem PostS.from {D : Ends} {o : SOut} (p : PostS F ow ow' ob σ H D o) (k : KeepS ow σ H ow1 σ1 H1) (st : Stay F.io σ σ1) : PostS F ow1 ow' ob σ1 H1 D o := by
  cases o with
  | nxt e => exact fun σ2 H2 k2 s2 R => p σ2 H2 (k.trans k2) (st.trans s2) R
  | brk e => exact fun σ2 H2 k2 s2 R => p σ2 H2 (k.trans k2) (st.trans s2) R
  | cnt e => exact fun σ2 H2 k2 s2 R => p σ2 H2 (k.trans k2) (st.trans s2) R
  | exc x e => exact fun σ2 oz H2 c d k2 s2 R => p σ2 oz H2 c d (k.trans k2) (st.trans s2) R
  | bad => exact p
  | ret q e =>
    intro v H' k2 tbs io rv
    refine p v H' ⟨fun a o e n t => let ⟨e1, n1⟩ := k.kp a o e n t; k2.kp a o e1 n1 t⟩ tbs (fun j p hj he => ?_) ?_
    · obtain ⟨v, h1, h2⟩ := io j p hj he
      exact ⟨v, (st j hj).symm.trans h1, by rw [st.gd]; exact h2⟩
    · rw [st.gd]; exact rv
/-- from the expression's end to the statement's -/
theorem Post.stmt {α : Type} {D : Ends} {o : Out α} {f : α → En → SOut} (p : PostS F ow ow' ob σ H D (match o with | .ok a e => f a e | .exc x e => .exc x e | .bad => .bad)) :
    Post F ow σ H o fun a e H1 => PostS F ow ow' ob σ H1 D (f a e) := by
  cases o with
  | ok a e => exact fun H1 k R => PostS.from p (KeepS.of k) Stay.refl
  | exc x e => exact fun H1 c d k R x1 => p σ ow H1 c d (KeepS.of k) Stay.refl R x1
  | bad => exact p
def SOut.of {α : Type} (o : Out α) (f : α → En → SOut) : SOut := match o with
  | .ok a e => f a e
  | .exc x e => .exc x e
  | .bad => .bad
def mSeq (a b : Ms) : Ms := fun e => match a e with
  | .nxt e1 => b e1
  | o => o
def mNext : Ms := fun e => .nxt e
theorem pms_nil (h : ∀ i ∈ ow', i ∈ ow := by decide) : PSs X [] (rdS F ow ow' ob mNext) := pss_nil.imp fun D σ H ⟨e, R, p⟩ => p σ H (KeepS.refl.less h) Stay.refl (R.less h)
theorem pms_cons {st : Stmt} {rest : List Stmt} {a b : Ms} (h1 : PS X st (rdS F ow ow1 ob a)) (h2 : PSs X rest (rdS F ow2 ow' ob b)) (h : ∀ i ∈ ow2, i ∈ ow1 := by decide) : PSs X (st :: rest) (rdS F ow ow' ob (mSeq a b)) :=
  (pss_cons h1 h2).imp fun D σ H ⟨e, R, p⟩ => by
    refine ⟨e, R, ?_⟩
    unfold mSeq at p
    cases q : a e with
    | nxt e1 =>
      rw [q] at p
      exact fun σ1 H1 k st R1 => ⟨e1, R1.less h, PostS.from p (k.less h) st⟩
    | ret v e1 => rw [q] at p; exact p
    | brk e1 => rw [q] at p; exact p
    | cnt e1 => rw [q] at p; exact p
    | exc x e1 => rw [q] at p; exact p
    | bad => rw [q] at p; exact p
theorem pms_one {st : Stmt} {a : Ms} (h1 : PS X st (rdS F ow ow1 ob a)) (h : ∀ i ∈ ow', i ∈ ow1 := by decide) : PSs X [st] (rdS F ow ow' ob a) :=
  (pss_one h1).imp fun D σ H ⟨e, R, p⟩ => by
    refine ⟨e, R, ?_⟩
    cases q : a e with
    | nxt e1 => rw [q] at p; exact fun σ1 H1 k st R1 => p σ1 H1 (k.less h) st (R1.less h)
    | ret v e1 => rw [q] at p; exact p
    | brk e1 => rw [q] at p; exact p
    | cnt e1 => rw [q] at p; exact p
    | exc x e1 => rw [q] at p; exact p
    | bad => rw [q] at p; exact p
/-- fewer names are ahead: those that are let go -/
theorem pms_less {sts : List Stmt} {a : Ms} (h1 : PSs X sts (rdS F ow1 ow' ob a)) (h : ∀ i ∈ ow1, i ∈ ow := by decide) : PSs X sts (rdS F ow ow' ob a) :=
  h1.imp fun D σ H ⟨e, R, p⟩ => ⟨e, R.less h, PostS.from p (KeepS.refl.less h) Stay.refl⟩
theorem pmt_pass {pos : Pos} : PS X (.Pass pos) (rdS F ow ow ob mNext) := ps_pass.imp fun D σ H ⟨e, R, p⟩ => p σ H KeepS.refl Stay.refl R
def mBrk : Ms := fun e => .brk e
def mCnt : Ms := fun e => .cnt e
theorem pmt_brk {pos : Pos} (h : ∀ i ∈ ob, i ∈ ow := by decide) : PS X (.Break pos) (rdS F ow ow' ob mBrk) := ps_break.imp fun D σ H ⟨e, R, p⟩ => p σ H (KeepS.refl.less h) Stay.refl (R.less h)
theorem pmt_cnt {pos : Pos} (h : ∀ i ∈ ob, i ∈ ow := by decide) : PS X (.Continue pos) (rdS F ow ow' ob mCnt) := ps_continue.imp fun D σ H ⟨e, R, p⟩ => p σ H (KeepS.refl.less h) Stay.refl (R.less h)
/-- a statement that is never reached -/
def mBad : Ms := fun _ => .bad
theorem pmt_never {st : Stmt} : PS X st (rdS F ow ow' ob mBad) := ps_never.imp fun D σ H ⟨e, R, p⟩ => p
def mExpr (m : Mo PV) : Ms := fun e => SOut.of (m e) fun _ e1 => .nxt e1
theorem pmt_expr {a : Expr} {m : Mo PV} {pos : Pos} (ha : PE X a (rd F ow m)) (hs : swapsWith a none pos.line X.env = pure false := by rfl) : PS X (.Expr a pos) (rdS F ow ow ob (mExpr m)) :=
  (ps_expr ha hs).imp fun D σ H ⟨e, R, p⟩ => ⟨e, R, (Post.stmt p).mono fun a e1 H1 k1 R1 p1 v rv => p1 σ H1 KeepS.refl Stay.refl R1⟩
theorem ER.ioAt (R : ER F.S F.G ow σ H e) (h : ∀ i ∈ F.io, i ∈ ow) : IoAt F σ H e := fun k p hk he => by
  obtain ⟨v, h1, h2⟩ := R.own k p he (h k hk)
  exact ⟨v, h1, h2.mono Keep.refl (fun a _ z => z.less h) fun _ _ => rfl⟩
def mRet (m : Mo PV) : Ms := fun e => SOut.of (m e) fun p e1 => .ret p e1
theorem pmt_ret {a : Expr} {m : Mo PV} {pos : Pos} (ha : PE X a (rd F ow m)) (h : ∀ i ∈ F.io, i ∈ ow := by first | decide | exact of_decide_eq_true rfl) : PS X (.Return (some a) pos) (rdS F ow ow' ob (mRet m)) :=
  (ps_ret ha).imp fun D σ H ⟨e, R, p⟩ => ⟨e, R, (Post.stmt p).mono fun a e1 H1 k1 R1 p1 v rv => p1 v H1 Keep.refl R1.tb (R1.ioAt h) (rv.mono Keep.refl fun a _ z => z.less h)⟩
def mRetN : Ms := fun e => .ret .non e
theorem pmt_retN {pos : Pos} (h : ∀ i ∈ F.io, i ∈ ow := by first | decide | exact of_decide_eq_true rfl) : PS X (.Return none pos) (rdS F ow ow' ob mRetN) :=
  ps_retN.imp fun D σ H ⟨e, R, p⟩ => p .non H Keep.refl R.tb (R.ioAt h) .non
/-- a name of a cell of the frame's own is handed back -/
def mRetO (i : Nat) : Ms := fun e => match e[i]? with
  | some (some p) => .ret p e
  | _ => .bad
theorem pmt_retO (i : Nat) {x : Str} {p pos : Pos} (hi : i ∈ ow := by decide) (h : ∀ j ∈ F.io, j ∈ ow := by first | decide | exact of_decide_eq_true rfl) (hn : i ∉ F.io := by first | decide | exact of_decide_eq_true rfl) (hN : X.N[i]? = some x := by rfl) (hv : Vis X.env.scope x := by first | exact .inl rfl | exact .inr (.inl rfl) | exact .inr (.inr rfl))
    (hd : (x == ("__debug__" : Str)) = false := by decide) (hcd : (x == ("__classdict__" : Str)) = false := by decide) : PS X (.Return (some (.Name x p)) pos) (rdS F ow ow' ob (mRetO i)) :=
  (ps_ret (pe_var hN hv hd hcd)).imp fun D σ H ⟨e, R, p⟩ => by
    unfold mRetO at p
    split at p
    · rename_i q he
      obtain ⟨v, h1, h2⟩ := R.own i q he hi
      refine ⟨v, h1, p v H Keep.refl R.tb (R.ioAt h) ?_⟩
      have no : ∀ a, v = .ref a → ¬ Gd F.G F.io σ a := fun a z g => by
        subst z
        rcases g with g | ⟨j, hj, e1⟩
        · exact R.ng i a hi h1 g
        · exact hn (R.sep i j a hi (h j hj) h1 e1 ▸ hj)
      exact h2.rv (fun a _ z => z.less h) no
    · exact p.elim
end
end M

namespace M
open PySem PySem.Spec PyProof.Rows L2

section
variable {X : Cx} {F : Fm} {ow ow' ow1 ow2 ob : List Nat} {σ σ1 σ2 : L2.St} {H H1 H2 : Hp}
/-! ### a name is stored -/
theorem own_set {i : Nat} {v : Option V} (hi : i ∉ ow) : Own ow (σ.set i v) = Own ow σ := by
  funext a
  apply propext
  constructor
  · rintro ⟨j, hj, e⟩
    have : i ≠ j := fun z => hi (z ▸ hj)
    rw [List.getElem?_set_ne this] at e
    exact ⟨j, hj, e⟩
  · rintro ⟨j, hj, e⟩
    have : i ≠ j := fun z => hi (z ▸ hj)
    exact ⟨j, hj, by rw [List.getElem?_set_ne this]; exact e⟩
theorem ER.set {S : Se} {G : Addr → Prop} {e : En} (R : ER S G ow σ H e) {i : Nat} {v : V} {p : PV} (hi : i ∉ ow) (rv : RV S H (Gd G ow σ) v p) : ER S G ow (σ.set i (some v)) H (e.set i (some p)) := by
  have og := own_set (σ := σ) (v := some v) hi
  have gg : Gd G ow (σ.set i (some v)) = Gd G ow σ := by unfold Gd; rw [og]
  have ne : ∀ j, j ∈ ow → i ≠ j := fun j hj z => hi (z ▸ hj)
  refine ⟨fun j q h1 h2 => ?_, fun j q h1 h2 => ?_, fun j hj h1 a => ?_, fun j k a hj hk h1 h2 => ?_, fun j a hj h1 => ?_, R.gt, R.tb, by rw [List.length_set, List.length_set]; exact R.len⟩
  · rw [gg]
    by_cases z : i = j
    · subst z
      have hl : i < e.length := by
        have := (List.getElem?_eq_some_iff.mp h1).1
        rw [List.length_set] at this
        exact this
      rw [List.getElem?_set_self hl] at h1
      cases h1
      exact ⟨v, List.getElem?_set_self (by rw [← R.len]; exact hl), rv⟩
    · rw [List.getElem?_set_ne z] at h1
      obtain ⟨w, h3, h4⟩ := R.val j q h1 h2
      exact ⟨w, by rw [List.getElem?_set_ne z]; exact h3, h4⟩
  · rw [gg]
    rw [List.getElem?_set_ne (ne j h2)] at h1
    obtain ⟨w, h3, h4⟩ := R.own j q h1 h2
    exact ⟨w, by rw [List.getElem?_set_ne (ne j h2)]; exact h3, h4⟩
  · rw [List.getElem?_set_ne (ne j hj)]
    exact R.off j hj (fun p z => h1 p (by rw [List.getElem?_set_ne (ne j hj)]; exact z)) a
  · rw [List.getElem?_set_ne (ne j hj)] at h1
    rw [List.getElem?_set_ne (ne k hk)] at h2
    exact R.sep j k a hj hk h1 h2
  · rw [List.getElem?_set_ne (ne j hj)] at h1
    exact R.ng j a hj h1
theorem KeepS.set {i : Nat} {v : Option V} (hi : i ∉ ow) : KeepS ow σ H ow (σ.set i v) H := ⟨fun a o e n _ => ⟨e, by rw [own_set hi]; exact n⟩⟩
theorem Stay.set {io : List Nat} {i : Nat} {v : Option V} (hi : i ∉ io) : Stay io σ (σ.set i v) := fun k hk => by
  have : i ≠ k := fun z => hi (z ▸ hk)
  rw [List.getElem?_set_ne this]
def mSet (i : Nat) (m : Mo PV) : Ms := fun e => SOut.of (m e) fun p e1 => .nxt (e1.set i (some p))
theorem pmt_set (i : Nat) {x : Str} {a : Expr} {m : Mo PV} {pos pos' : Pos} (hN : X.N.Nodup) (ha : PE X a (rd F ow m)) (hi : i ∉ ow := by decide) (hio : i ∉ F.io := by first | decide | exact of_decide_eq_true rfl) (hx : X.N[i]? = some x := by rfl) (hl : L2.Loc X.env.scope x := by first | exact .inl rfl | exact .inr rfl)
    (hs : swapsWith a (some (.Name x pos')) pos.line X.env = pure false := by rfl) (hf : X.fn x = true ∨ X.env.scope.names.lookup x = some .local := by first | exact .inl rfl | exact .inr rfl) : PS X (.Assign [.Name x pos'] a pos) (rdS F ow ow ob (mSet i m)) :=
  (ps_set hN hx hl ha hs hf).imp fun D σ H ⟨e, R, p⟩ => ⟨e, R, (Post.stmt p).mono fun a e1 H1 k1 R1 p1 v rv => p1 _ H1 (KeepS.set hi) (Stay.set hio) (R1.set hi rv)⟩
/-- x op= e, of ints -/
def mAug (g : PV → PV → Option PV) (i : Nat) (m : Mo PV) : Ms := fun e => match e[i]? with
  | some (some p) => SOut.of ((m e).bind fun q e1 => lift (g p q) e1) fun r e2 => .nxt (e2.set i (some r))
  | _ => .bad
def IpOk (X : Cx) (op : Operator) (g : PV → PV → Option PV) : Prop := ∃ ti : TIp, PIp X op ti ∧ ∀ S O H x y a b c Q, RV S H O x a → RV S H O y b → g a b = some c → (∀ v, RV S H O v c → Q v H) → ti x y H Q
theorem ip_addM : IpOk X .Add (pI fun i j => i + j) := ⟨_, ip_add, fun S O H x y a b c Q ra rb e q => by
  unfold pI pIV at e
  split at e
  · cases e; cases ra; cases rb; exact ⟨_, _, rfl, rfl, q _ (.int _)⟩
  · cases e⟩
theorem ip_subM : IpOk X .Sub (pI fun i j => i - j) := ⟨_, ip_sub, fun S O H x y a b c Q ra rb e q => by
  unfold pI pIV at e
  split at e
  · cases e; cases ra; cases rb; exact ⟨_, _, rfl, rfl, q _ (.int _)⟩
  · cases e⟩
theorem pmt_aug (i : Nat) {x : Str} {a : Expr} {op : Operator} {g : PV → PV → Option PV} {m : Mo PV} {pos pos' : Pos} (hN : X.N.Nodup) (ho : IpOk X op g) (ha : PE X a (rd F ow m)) (hi : i ∉ ow := by decide) (hio : i ∉ F.io := by first | decide | exact of_decide_eq_true rfl) (hx : X.N[i]? = some x := by rfl) (hl : L2.Loc X.env.scope x := by first | exact .inl rfl | exact .inr rfl)
    (hf : X.fn x = true ∨ X.env.scope.names.lookup x = some .local := by first | exact .inl rfl | exact .inr rfl) : PS X (.AugAssign (.Name x pos') op a pos) (rdS F ow ow ob (mAug g i m)) := by
  obtain ⟨ti, h1, h2⟩ := ho
  exact (ps_aug hN hx hl ha h1 hf).imp fun D σ H ⟨e, R, p⟩ => by
    unfold mAug at p
    split at p
    · rename_i q he
      obtain ⟨v, h3, h4⟩ := R.val i q he hi
      refine ⟨v, h3, e, R, (Post.unbind (Post.stmt p)).mono fun b e1 H1 k1 R1 p1 y ry => ?_⟩
      obtain ⟨c, hc, q⟩ := p1.of_lift R1
      exact h2 _ _ H1 _ _ _ _ _ _ (h4.mono k1.gd Less.refl) ry hc fun w rw' => q H1 (fun _ _ z => z) _ H1 (KeepS.set hi) (Stay.set hio) (R1.set hi rw')
    · exact p.elim
/-! ### if -/
def mIfS (t : Mo Bool) (a b : Ms) : Ms := fun e => SOut.of (t e) fun k e1 => if k = true then a e1 else b e1
theorem pmt_if {c : Expr} {p q : List Stmt} {t : Mo Bool} {a b : Ms} {pos : Pos} (hc : PT X c (rdT F ow t)) (ha : PSs X p (rdS F ow ow' ob a)) (hb : PSs X q (rdS F ow ow' ob b)) : PS X (.If c p q pos) (rdS F ow ow' ob (mIfS t a b)) :=
  (ps_if hc ha hb).imp fun D σ H ⟨e, R, p⟩ => ⟨e, R, (Post.stmt p).mono fun k e1 H1 k1 R1 p1 => by
    cases k with
    | true => exact ⟨e1, R1, p1⟩
    | false => exact ⟨e1, R1, p1⟩⟩
/-! ### several names at once -/
/-- the names' stores, from the left -/
def setAll : List Nat → List PV → En → Option En
  | [], [], e => some e
  | i :: is, p :: ps, e => setAll is ps (e.set i (some p))
  | _, _, _ => none
def gNms : List Nat → TGs
  | [] => gNil
  | i :: is => gCons (gName i) (gNms is)
theorem setAll_go {S : Se} {G : Addr → Prop} {io : List Nat} : ∀ {is : List Nat} {ps : List PV} {vs : List V} {e e' : En} {σ : L2.St}, setAll is ps e = some e' → (∀ i ∈ is, i ∉ ow) → (∀ i ∈ is, i ∉ io) → RVs S H (Gd G ow σ) vs ps → ER S G ow σ H e →
    ∀ Q : L2.St → Hp → Prop, (∀ σ', KeepS ow σ H ow σ' H → Stay io σ σ' → ER S G ow σ' H e' → Q σ' H) → gNms is vs σ H Q
  | [], [], vs, e, e', σ, h, _, _, r, R, Q, q => by
    cases h
    cases r
    exact ⟨rfl, q σ KeepS.refl Stay.refl R⟩
  | i :: is, p :: ps, vs, e, e', σ, h, h1, h2, r, R, Q, q => by
    cases r with
    | cons r t =>
      rename_i v vs
      refine ⟨v, vs, rfl, ?_⟩
      have ni := h1 i List.mem_cons_self
      have og : Gd G ow (σ.set i (some v)) = Gd G ow σ := by unfold Gd; rw [own_set ni]
      refine setAll_go (is := is) (io := io) h (fun j hj => h1 j (List.mem_cons_of_mem _ hj)) (fun j hj => h2 j (List.mem_cons_of_mem _ hj)) (by rw [og]; exact t) (R.set ni r) Q fun σ' k s R' => ?_
      exact q σ' ((KeepS.set ni).trans k) ((Stay.set (h2 i List.mem_cons_self)).trans s) R'
  | [], _ :: _, _, _, _, _, h, _, _, _, _, _, _ => by cases h
  | _ :: _, [], _, _, _, _, h, _, _, _, _, _, _ => by cases h
def mUnp (is : List Nat) (m : Mo PV) : Ms := fun e => SOut.of (m e) fun p e1 => match p with
  | .tup l => match setAll is l e1 with
    | some e2 => .nxt e2
    | none => .bad
  | _ => .bad
theorem setAll_len : ∀ {is : List Nat} {ps : List PV} {e e' : En}, setAll is ps e = some e' → ps.length = is.length
  | [], [], e, e', h => rfl
  | i :: is, p :: ps, e, e', h => congrArg Nat.succ (setAll_len (is := is) (ps := ps) h)
  | [], _ :: _, _, _, h => by cases h
  | _ :: _, [], _, _, h => by cases h
/-- a, b, .. = a tuple -/
theorem pmt_unp (is : List Nat) {es : List Expr} {a : Expr} {m : Mo PV} {k : Nat} {pos pos' : Pos} (ha : PE X a (rd F ow m)) (hg : PGs X es (gNms is)) (hi : ∀ i ∈ is, i ∉ ow := by decide) (hio : ∀ i ∈ is, i ∉ F.io := by first | decide | exact of_decide_eq_true rfl) (hS : F.S = ⟨X.K, X.mg, F.S.T⟩ := by rfl) (hc : X.calm = true := by rfl)
    (hn : (assignEach es X.env).length = is.length := by rfl) (hst : (assignEach es X.env).findIdx? (·.1) = none := by rfl)
    (hs : swapsWithSole [.Tuple es k pos'] a pos.line X.env = pure false := by rfl) (hw : swappedStores [.Tuple es k pos'] a X.env = pure none := by rfl)
    (h1 : (assignEach [.Tuple es k pos'] X.env).map (·.2) = [assign (.Tuple es k pos') X.env] := by rfl) : PS X (.Assign [.Tuple es k pos'] a pos) (rdS F ow ow ob (mUnp is m)) :=
  (ps_asg ha (pg_tup (n := is.length) hc hg hn hst) hs hw h1).imp fun D σ H ⟨e, R, p⟩ => ⟨e, R, (Post.stmt p).mono fun a e1 H1 k1 R1 p1 v rv => by
    have hK : F.S.K = X.K := by rw [hS]
    cases a with
    | tup l =>
      simp only [] at p1
      cases q : setAll is l e1 with
      | none => simp only [q] at p1; exact p1.elim
      | some e2 =>
        simp only [q] at p1
        obtain ⟨a, vs, rfl, h3, t⟩ := rv.isT
        exact ⟨a, vs, rfl, hK ▸ h3, by rw [t.length, setAll_len q], setAll_go q hi hio t R1 _ fun σ' k s R' => p1 σ' H1 k s R'⟩
    | _ => exact p1.elim⟩

/-! ### lists of one's own -/
def Fm.ext (F : Fm) (a : Addr) : Fm := { F with G := fun z => F.G z ∨ z = a }
/-- an expression that makes a list of its own: no one else has it -/
def rdF (F : Fm) (ow : List Nat) (m : Mo PV) : TE := fun σ H Q => ∃ e, ER F.S F.G ow σ H e ∧ match m e with
  | .ok p e1 => ∀ a H', ¬ Hd H a → Keep (Own ow σ) H H' → ER F.S (F.ext a).G ow σ H' e1 → At F.S H' (Gd (F.ext a).G ow σ) (.ref a) p → Q (.ref a) H'
  | .exc x e1 => ∀ H' cls d, Keep (Own ow σ) H H' → ER F.S F.G ow σ H' e1 → ExAt F.S H' (Gd F.G ow σ) cls d x → F.W cls d σ H'
  | .bad => False
theorem fresh_of {S : Se} {G : Addr → Prop} {e e1 : En} (R : ER S G ow σ H e) (k : Keep (Own ow σ) H H1) (R1 : ER S G ow σ H1 e1) {p : Addr} (hn : ¬ Hd H1 p) : ¬ Hd H p := fun ⟨o, q, nt⟩ => by
  by_cases z : Own ow σ p
  · exact hn (R1.ownT z)
  · exact hn ⟨o, k.kp p o q z nt, nt⟩
theorem no_hd {p : Addr} (hn : H p = none) : ¬ Hd H p := fun h => h.ne hn
theorem ER.ext {S : Se} {G : Addr → Prop} {e : En} (R : ER S G ow σ H e) {p : Addr} {o : HO} (hn : H p = none) (nt : NT o := by exact fun _ z => by cases z) : ER S (fun z => G z ∨ z = p) ow σ (upd H p o) e := by
  have q : Less H (Gd G ow σ) (Gd (fun z => G z ∨ z = p) ow σ) := fun a h z => by
    rcases z with (z | z) | z
    · exact .inl z
    · subst z; exact absurd hn h.ne
    · exact .inr z
  refine ⟨fun i p1 h1 h2 => ?_, fun i p1 h1 h2 => ?_, R.off, R.sep, fun i a hi h z => ?_, fun a g => ?_, fun p hp => (R.tb p hp).ext fun z u e => (by rw [upd_ne (ne_of_none e hn)]; exact e), R.len⟩
  · obtain ⟨v, h3, h4⟩ := R.val i p1 h1 h2
    exact ⟨v, h3, h4.mono (Keep.upd hn) q⟩
  · obtain ⟨v, h3, h4⟩ := R.own i p1 h1 h2
    refine ⟨v, h3, h4.mono (Keep.upd hn) q fun a z => ?_⟩
    subst z
    obtain ⟨b, e3, e4⟩ := h4.ref
    cases e3
    rw [upd_ne fun z => e4.ne (by rw [z]; exact hn)]
  · rcases z with z | z
    · exact R.ng i a hi h z
    · subst z; exact (R.ownT ⟨i, hi, h⟩).ne hn
  · rcases g with g | g
    · obtain ⟨u, q1, q2⟩ := R.gt a g
      exact ⟨u, by rw [upd_ne (ne_of_none q1 hn)]; exact q1, q2⟩
    · subst g; exact ⟨_, upd_same, nt⟩
theorem RVs.ext {S : Se} {G : Addr → Prop} {e : En} (R : ER S G ow σ H e) {vs : List V} {l : List PV} {p : Addr} {o : HO} (r : RVs S H (Gd G ow σ) vs l) (hn : H p = none) : RVs S (upd H p o) (Gd (fun z => G z ∨ z = p) ow σ) vs l :=
  r.mono (Keep.upd hn) fun a h z => by
    rcases z with (z | z) | z
    · exact .inl z
    · subst z; exact absurd hn h.ne
    · exact .inr z
/-- what a rule over pure lists asks: a new list of these at any free place -/
theorem rdF_of {m : Mo PV} {σ : L2.St} {H : Hp} {Q : VK} {α : Type} {o : Out α} {g : α → Option (List PV)} {R : α → Hp → Prop} (hm : ∀ e, ER F.S F.G ow σ H e → True) : True := trivial
theorem pmf_lst {es : List Expr} {ml : Mo (List PV)} {pos : Pos} (h : PA X es (rdA F ow ml)) : PE X (.List es pos) (rdF F ow (mLst ml)) :=
  (pe_lst h).imp fun σ H Q ⟨e, R, p⟩ => by
    refine ⟨e, R, ?_⟩
    unfold mLst at p
    cases q : ml e with
    | bad => simp only [q, Out.bind] at p
    | exc x e1 => simp only [q, Out.bind] at p; exact p
    | ok l e1 =>
      simp only [q, Out.bind] at p
      intro H1 k1 R1 vs rs
      by_cases hl : l.length ≤ 1000
      · rw [if_pos hl] at p
        refine ⟨by rw [rs.length]; exact Nat.le_trans hl line1000, fun a hn => p a _ (fresh_of R k1 R1 (no_hd hn)) (k1.trans (Keep.upd hn)) (R1.ext hn) ⟨a, vs, rfl, upd_same, rs.ext R1 hn⟩⟩
      · rw [if_neg hl] at p; exact p.elim
/-- one operand's or call's result is a new list -/
def BinF (X : Cx) (F : Fm) (f : Value → Value → Sem Value) (g : PV → PV → Option PV) : Prop := ∀ O : Addr → Prop, ∃ r : R2, OpR X f r ∧
  ∀ H x y a b c Q, Pre H O → RV F.S H O x a → RV F.S H O y b → g a b = some c → (∀ p vs l, H p = none → c = .lst l → RVs F.S H O vs l → Q (.ref p) (upd H p (.lst vs))) → r x y H Q
theorem binF_catL : BinF X F (binaryOp .Add) pCatL := by
  intro O
  refine ⟨_, op_cat, fun H x y a b c Q hp ra rb e q => ?_⟩
  unfold pCatL at e
  split at e
  · rename_i a b
    split at e
    · rename_i hc
      cases e
      obtain ⟨p1, vs, rfl, h1, t1⟩ := ra.isL
      obtain ⟨p2, ws, rfl, h2, t2⟩ := rb.isL
      exact ⟨_, _, _, _, rfl, rfl, h1, h2, by rw [t1.length, t2.length]; exact hc, fun p hn => q _ _ _ hn rfl (t1.append t2)⟩
    · cases e
  · cases e
theorem binF_repL : BinF X F (binaryOp .Mult) pRepL := by
  intro O
  refine ⟨_, op_rep, fun H x y a b c Q hp ra rb e q => ?_⟩
  unfold pRepL at e
  split at e
  · rename_i a k
    split at e
    · rename_i hc
      cases e
      obtain ⟨p1, vs, rfl, h1, t1⟩ := ra.isL
      cases rb
      exact ⟨_, _, _, rfl, rfl, h1, hc.1, hc.2.1, by rw [t1.length]; exact hc.2.2, fun p hn => q _ _ _ hn rfl (t1.rep _)⟩
    · cases e
  · cases e
theorem pmf_bin {a b : Expr} {op : Operator} {g : PV → PV → Option PV} {ma mb : Mo PV} {pos : Pos} (h : BinF X F (binaryOp op) g) (ha : PE X a (rd F ow ma)) (hb : PE X b (rd F ow mb)) : PE X (.BinOp a op b pos) (rdF F ow (mBin g ma mb)) := by
  have he : OpR X (binaryOp op) fun x y H Q => ∃ (O : Addr → Prop) (a b c : PV), Pre H O ∧ RV F.S H O x a ∧ RV F.S H O y b ∧ g a b = some c ∧ ∀ p vs l, H p = none → c = .lst l → RVs F.S H O vs l → Q (.ref p) (upd H p (.lst vs)) := by
    intro pins s σ H x y v u Q I rx ry ⟨O, a, b, c, p, ra, rb, e, q⟩
    obtain ⟨r, hr, k⟩ := h O
    exact hr pins s σ H x y v u Q I rx ry (k H x y a b c Q p ra rb e q)
  refine (pe_op he ha hb).imp fun σ H Q ⟨e, R, p⟩ => ⟨e, R, ?_⟩
  unfold mBin at p
  cases q : ma e with
  | bad => simp only [q, Out.bind] at p
  | exc x e1 => simp only [q, Out.bind] at p; exact p
  | ok a e1 =>
    simp only [q, Out.bind] at p
    intro H1 k1 R1 x rx
    refine ⟨e1, R1, ?_⟩
    cases q2 : mb e1 with
    | bad => simp only [q2] at p
    | exc x e2 => simp only [q2] at p; exact fun H' cls d k2 => p H' cls d (k1.trans k2)
    | ok b e2 =>
      simp only [q2] at p
      intro H2 k2 R2 y ry
      cases hc : g a b with
      | none => simp only [hc, lift] at p
      | some c =>
        simp only [hc, lift] at p
        refine ⟨Gd F.G ow σ, a, b, c, R2.tracked, rx.mono k2.gd Less.refl, ry, hc, fun z vs l hn e3 rs => ?_⟩
        subst e3
        exact p z _ (fresh_of R (k1.trans k2) R2 (no_hd hn)) ((k1.trans k2).trans (Keep.upd hn)) (R2.ext hn) ⟨z, vs, rfl, upd_same, rs.ext R2 hn⟩
def CallF (X : Cx) (F : Fm) (f : Value) (g : List PV → Option PV) : Prop := ∀ O : Addr → Prop, ∃ r : List V → Hp → VK → Prop, CallR X f r ∧
  ∀ H xs ps c Q, Pre H O → RVs F.S H O xs ps → g ps = some c → (∀ p vs l, H p = none → c = .lst l → RVs F.S H O vs l → Q (.ref p) (upd H p (.lst vs))) → r xs H Q
theorem cf_list (hS : F.S = ⟨X.K, X.mg, F.S.T⟩ := by rfl) : CallF X F (.type "list") gList := by
  intro O
  refine ⟨_, call_list_of, fun H xs ps c Q hp r e q => ?_⟩
  have hK : F.S.K = X.K := by rw [hS]
  unfold gList at e
  split at e
  · cases e
    obtain ⟨x, rfl, rx⟩ := r.one
    obtain ⟨a, vs, rfl, h1, t1⟩ := rx.isL
    exact ⟨a, vs, rfl, .inl (.inl (.inl h1)), fun p hn => q _ _ _ hn rfl t1⟩
  · cases e
    obtain ⟨x, rfl, rx⟩ := r.one
    obtain ⟨a, vs, rfl, h1, t1⟩ := rx.isF
    rw [hK] at h1
    exact ⟨a, vs, rfl, .inl h1, fun p hn => q _ _ _ hn rfl t1⟩
  · cases e
    obtain ⟨x, rfl, rx⟩ := r.one
    obtain ⟨a, vs, rfl, h1, t1⟩ := rx.isT
    rw [hK] at h1
    exact ⟨a, vs, rfl, .inr h1, fun p hn => q _ _ _ hn rfl t1⟩
  · cases e
theorem pmf_callTy {x : Str} {p pos : Pos} {a : Expr} {es : List Expr} {ml : Mo (List PV)} {T : String} {g : List PV → Option PV} (hc : CallF X F (.type T) g) (hg : Gl X x) (hm : X.mg x = none) (hv : bootBuiltins x = some (.type T)) (ha : PA X (a :: es) (rdA F ow ml))
    (hn : x ≠ "__name__" := by decide) (hdb : (x == ("__debug__" : Str)) = false := by decide) (hs : starEach (a :: es) X.env = (false, eval a X.env) :: starEach es X.env := by rfl)
    (hs2 : ((backTo pos (starEach es X.env)).any fun x => x.1) = false := by rfl) : PE X (.Call (.Name x p) (a :: es) [] pos) (rdF F ow (mCall g ml)) := by
  have he : CallR X (.type T) fun xs H Q => ∃ (O : Addr → Prop) (ps : List PV) (c : PV), Pre H O ∧ RVs F.S H O xs ps ∧ g ps = some c ∧ ∀ p vs l, H p = none → c = .lst l → RVs F.S H O vs l → Q (.ref p) (upd H p (.lst vs)) := by
    intro pins s σ H xs us Q I r ⟨O, ps, c, p, ra, e, q⟩
    obtain ⟨r1, hr, k⟩ := hc O
    exact hr pins s σ H xs us Q I r (k H xs ps c Q p ra e q)
  refine (pe_callTy he hg hm hv ha hn hdb hs hs2).imp fun σ H Q ⟨e, R, p⟩ => ⟨e, R, ?_⟩
  unfold mCall at p
  cases q : ml e with
  | bad => simp only [q, Out.bind] at p
  | exc x e1 => simp only [q, Out.bind] at p; exact p
  | ok l e1 =>
    simp only [q, Out.bind] at p
    intro H1 k1 R1 xs rs
    cases hc : g l with
    | none => simp only [hc, lift] at p
    | some c =>
      simp only [hc, lift] at p
      refine ⟨Gd F.G ow σ, l, c, R1.tracked, rs, hc, fun z vs l hn e3 rs => ?_⟩
      subst e3
      exact p z _ (fresh_of R k1 R1 (no_hd hn)) (k1.trans (Keep.upd hn)) (R1.ext hn) ⟨z, vs, rfl, upd_same, rs.ext R1 hn⟩
/-- a name is given a list of its own -/
theorem ER.setO {S : Se} {G : Addr → Prop} {e : En} {i : Nat} {a : Addr} {p : PV} (R : ER S (fun z => G z ∨ z = a) ow σ H e) (h0 : ∀ z, G z → z ≠ a) (ra : At S H (Gd (fun z => G z ∨ z = a) ow σ) (.ref a) p) (h1 : ∀ j ∈ ow', j = i ∨ j ∈ ow) (h2 : ∀ j ∈ ow, j ∈ ow') (h3 : i ∈ ow') (hl : i < σ.length) :
    ER S G ow' (σ.set i (some (.ref a))) H (e.set i (some p)) := by
  have sub : ∀ z, Gd G ow' (σ.set i (some (.ref a))) z → Gd (fun z => G z ∨ z = a) ow σ z := fun z g => by
    rcases g with g | ⟨j, hj, e1⟩
    · exact .inl (.inl g)
    · by_cases q : i = j
      · subst q
        rw [List.getElem?_set_self hl] at e1
        cases e1
        exact .inl (.inr rfl)
      · rw [List.getElem?_set_ne q] at e1
        rcases h1 j hj with z | z
        · exact absurd z.symm q
        · exact .inr ⟨j, z, e1⟩
  have less : Less H (Gd (fun z => G z ∨ z = a) ow σ) (Gd G ow' (σ.set i (some (.ref a)))) := fun z _ g => sub z g
  have hle : i < e.length := by rw [R.len]; exact hl
  refine ⟨fun j q g1 g2 => ?_, fun j q g1 g2 => ?_, fun j hj g1 b => ?_, fun j k b hj hk g1 g2 => ?_, fun j b hj g1 => ?_, fun z g => R.gt z (.inl g), R.tb, by rw [List.length_set, List.length_set]; exact R.len⟩
  · have nj : i ≠ j := fun z => g2 (z ▸ h3)
    rw [List.getElem?_set_ne nj] at g1
    obtain ⟨v, g3, g4⟩ := R.val j q g1 fun z => g2 (h2 j z)
    exact ⟨v, by rw [List.getElem?_set_ne nj]; exact g3, g4.mono Keep.refl less⟩
  · by_cases nj : i = j
    · subst nj
      rw [List.getElem?_set_self hle] at g1
      cases g1
      exact ⟨.ref a, List.getElem?_set_self hl, ra.mono Keep.refl less fun _ _ => rfl⟩
    · rw [List.getElem?_set_ne nj] at g1
      obtain ⟨v, g3, g4⟩ := R.own j q g1 ((h1 j g2).elim (fun z => absurd z.symm nj) id)
      exact ⟨v, by rw [List.getElem?_set_ne nj]; exact g3, g4.mono Keep.refl less fun _ _ => rfl⟩
  · by_cases nj : i = j
    · subst nj
      exact absurd (List.getElem?_set_self hle) (g1 p)
    · rw [List.getElem?_set_ne nj]
      exact R.off j ((h1 j hj).elim (fun z => absurd z.symm nj) id) (fun q z => g1 q (by rw [List.getElem?_set_ne nj]; exact z)) b
  · have key : ∀ {j k : Nat}, i = j → k ∈ ow' → ¬ i = k → (σ.set i (some (V.ref a)))[j]? = some (some (.ref b)) → (σ.set i (some (V.ref a)))[k]? = some (some (.ref b)) → False := fun {j k} e1 hk nk g1 g2 => by
      subst e1
      rw [List.getElem?_set_self hl] at g1
      cases g1
      rw [List.getElem?_set_ne nk] at g2
      exact R.ng k a ((h1 k hk).elim (fun z => absurd z.symm nk) id) g2 (.inr rfl)
    by_cases nj : i = j
    · by_cases nk : i = k
      · exact nj.symm.trans nk
      · exact (key nj hk nk g1 g2).elim
    · by_cases nk : i = k
      · exact (key nk hj nj g2 g1).elim
      · rw [List.getElem?_set_ne nj] at g1
        rw [List.getElem?_set_ne nk] at g2
        exact R.sep j k b ((h1 j hj).elim (fun z => absurd z.symm nj) id) ((h1 k hk).elim (fun z => absurd z.symm nk) id) g1 g2
  · intro g
    by_cases nj : i = j
    · subst nj
      rw [List.getElem?_set_self hl] at g1
      cases g1
      exact h0 _ g rfl
    · rw [List.getElem?_set_ne nj] at g1
      exact R.ng j b ((h1 j hj).elim (fun z => absurd z.symm nj) id) g1 (.inl g)
theorem KeepS.setO {i : Nat} {a : Addr} (k : Keep (Own ow σ) H H1) (hn : ¬ Hd H a) (h1 : ∀ j ∈ ow', j = i ∨ j ∈ ow) (hl : i < σ.length) : KeepS ow σ H ow' (σ.set i (some (.ref a))) H1 := ⟨fun z o e n nt => by
  refine ⟨k.kp z o e n nt, fun ⟨j, hj, e1⟩ => ?_⟩
  by_cases q : i = j
  · subst q
    rw [List.getElem?_set_self hl] at e1
    cases e1
    exact hn ⟨o, e, nt⟩
  · rw [List.getElem?_set_ne q] at e1
    exact n ⟨j, (h1 j hj).elim (fun z => absurd z.symm q) id, e1⟩⟩
/-- x = a new list, whose cell is x's own from here on -/
def mSetO (i : Nat) (m : Mo PV) : Ms := fun e => SOut.of (m e) fun p e1 => if i < e1.length then .nxt (e1.set i (some p)) else .bad
theorem pmt_setO (i : Nat) {x : Str} {a : Expr} {m : Mo PV} {pos pos' : Pos} (hN : X.N.Nodup) (ha : PE X a (rdF F ow m)) (h1 : ∀ j ∈ ow', j = i ∨ j ∈ ow := by decide) (h2 : ∀ j ∈ ow, j ∈ ow' := by decide) (h3 : i ∈ ow' := by decide) (hio : i ∉ F.io := by first | decide | exact of_decide_eq_true rfl) (hx : X.N[i]? = some x := by rfl) (hl : L2.Loc X.env.scope x := by first | exact .inl rfl | exact .inr rfl)
    (hs : swapsWith a (some (.Name x pos')) pos.line X.env = pure false := by rfl) (hf : X.fn x = true ∨ X.env.scope.names.lookup x = some .local := by first | exact .inl rfl | exact .inr rfl) : PS X (.Assign [.Name x pos'] a pos) (rdS F ow ow' ob (mSetO i m)) :=
  (ps_set hN hx hl ha hs hf).imp fun D σ H ⟨e, R, p⟩ => by
    refine ⟨e, R, ?_⟩
    unfold mSetO at p
    cases q : m e with
    | bad => simp only [q, SOut.of] at p; exact p.elim
    | exc x e1 => simp only [q, SOut.of] at p; exact fun H1 c d k R1 x1 => p σ ow H1 c d (KeepS.of k) Stay.refl R1 x1
    | ok pv e1 =>
      simp only [q, SOut.of] at p
      intro a H1 hn k R1 ra
      split at p
      · rename_i hle
        have hl : i < σ.length := by rw [← R1.len]; exact hle
        have h0 : ∀ z, F.G z → z ≠ a := fun z g e1 => by subst e1; exact hn (R.gt z g)
        exact p _ H1 (KeepS.setO k hn h1 hl) (Stay.set hio) (R1.setO h0 ra h1 h2 h3 hl)
      · exact p.elim

/-! ### several values at once, some of them lists of one's own -/
inductive GV (S : Se) (H : Hp) (O : Addr → Prop) : List Bool → List V → List PV → List Addr → Prop
  | nil : GV S H O [] [] [] []
  | v {v : V} {p : PV} {fl : List Bool} {vs : List V} {l : List PV} {as : List Addr} : RV S H O v p → GV S H O fl vs l as → GV S H O (false :: fl) (v :: vs) (p :: l) as
  | o {a : Addr} {p : PV} {fl : List Bool} {vs : List V} {l : List PV} {as : List Addr} : At S H O (.ref a) p → GV S H O fl vs l as → GV S H O (true :: fl) (.ref a :: vs) (p :: l) (a :: as)
def Fm.exts (F : Fm) (as : List Addr) : Fm := { F with G := fun z => F.G z ∨ z ∈ as }
def rdG (F : Fm) (ow : List Nat) (fl : List Bool) (m : Mo (List PV)) : TA := fun σ H Q => ∃ e, ER F.S F.G ow σ H e ∧ match m e with
  | .ok l e1 => ∀ vs as H', Keep (Own ow σ) H H' → (∀ a ∈ as, ¬ Hd H a) → as.Nodup → ER F.S (F.exts as).G ow σ H' e1 → GV F.S H' (Gd (F.exts as).G ow σ) fl vs l as → Q vs H'
  | .exc x e1 => ∀ H' cls d, Keep (Own ow σ) H H' → ER F.S F.G ow σ H' e1 → ExAt F.S H' (Gd F.G ow σ) cls d x → F.W cls d σ H'
  | .bad => False
theorem exts_nil : (F.exts []).G = F.G := funext fun z => propext ⟨fun h => h.elim id fun q => (by cases q), .inl⟩
theorem pmg_nil : PA X [] (rdG F ow [] mNil) := pa_nil.imp fun σ H Q ⟨e, R, p⟩ => p [] [] H Keep.refl (fun a h => by cases h) List.nodup_nil (by rw [exts_nil]; exact R) .nil
theorem GV.mono {S : Se} {O O' : Addr → Prop} (k : Keep O H H1) (q : Less H O O') (s : ∀ a, H a ≠ none → O a → H1 a = H a ∨ True) : ∀ {fl : List Bool} {vs : List V} {l : List PV} {as : List Addr}, (∀ a ∈ as, H1 a = H a) → GV S H O fl vs l as → GV S H1 O' fl vs l as
  | _, _, _, _, _, .nil => .nil
  | _, _, _, _, h, .v r t => .v (r.mono k q) (GV.mono k q s h t)
  | _, _, _, _, h, .o r t => .o (r.mono k q fun a z => by cases z; exact h _ List.mem_cons_self) (GV.mono k q s (fun a ha => h a (List.mem_cons_of_mem _ ha)) t)
theorem pmg_v {a : Expr} {es : List Expr} {m : Mo PV} {ml : Mo (List PV)} {fl : List Bool} (ha : PE X a (rd F ow m)) (hr : PA X es (rdG F ow fl ml)) (hs : starEach (a :: es) X.env = (false, eval a X.env) :: starEach es X.env := by rfl) : PA X (a :: es) (rdG F ow (false :: fl) (mCons m ml)) :=
  (pa_cons ha hr hs).imp fun σ H Q ⟨e, R, p⟩ => by
    refine ⟨e, R, ?_⟩
    unfold mCons at p
    cases q : m e with
    | bad => simp only [q, Out.bind] at p
    | exc x e1 => simp only [q, Out.bind] at p; exact p
    | ok pv e1 =>
      simp only [q, Out.bind] at p
      intro H1 k1 R1 v rv
      refine ⟨e1, R1, ?_⟩
      cases q2 : ml e1 with
      | bad => simp only [q2] at p
      | exc x e2 => simp only [q2] at p; exact fun H' cls d k2 => p H' cls d (k1.trans k2)
      | ok l e2 =>
        simp only [q2] at p
        intro vs as H2 k2 fr nd R2 gv
        have less : Less H1 (Gd F.G ow σ) (Gd (F.exts as).G ow σ) := fun z h g => by
          rcases g with (g | g) | g
          · exact .inl g
          · exact absurd h (fr z g)
          · exact .inr g
        exact p (v :: vs) as H2 (k1.trans k2) (fun z hz => fresh_of R k1 R1 (fr z hz)) nd R2 (.v (rv.mono k2.gd less) gv)
theorem pmg_o {a : Expr} {es : List Expr} {m : Mo PV} {ml : Mo (List PV)} {fl : List Bool} (ha : PE X a (rdF F ow m)) (hr : ∀ z, PA X es (rdG (F.ext z) ow fl ml)) (hs : starEach (a :: es) X.env = (false, eval a X.env) :: starEach es X.env := by rfl) : PA X (a :: es) (rdG F ow (true :: fl) (mCons m ml)) := by
  have hr' : PA X es fun σ H Q => ∃ z, rdG (F.ext z) ow fl ml σ H Q := ⟨fun pos pins s σ H Q I ⟨z, q⟩ => (hr z).run pos pins s σ H Q I q⟩
  exact (pa_cons ha hr' hs).imp fun σ H Q ⟨e, R, p⟩ => by
    refine ⟨e, R, ?_⟩
    unfold mCons at p
    cases q : m e with
    | bad => simp only [q, Out.bind] at p
    | exc x e1 => simp only [q, Out.bind] at p; exact p
    | ok pv e1 =>
      simp only [q, Out.bind] at p
      intro a H1 hn k1 R1 ra
      refine ⟨a, e1, R1, ?_⟩
      cases q2 : ml e1 with
      | bad => simp only [q2] at p
      | exc x e2 =>
        simp only [q2] at p
        intro H' cls d k2 R2 xa
        refine p H' cls d (k1.trans k2) ?_ ?_
        · have less : Less H' (Gd (F.ext a).G ow σ) (Gd F.G ow σ) := fun z _ g => g.imp .inl id
          exact ⟨fun i p h1 h2 => let ⟨v, h3, h4⟩ := R2.val i p h1 h2; ⟨v, h3, h4.mono Keep.refl less⟩, fun i p h1 h2 => let ⟨v, h3, h4⟩ := R2.own i p h1 h2; ⟨v, h3, h4.mono Keep.refl less fun _ _ => rfl⟩, R2.off, R2.sep, fun i b hi h g => R2.ng i b hi h (.inl g), fun z g => R2.gt z (.inl g), R2.tb, R2.len⟩
        · obtain ⟨h1, h2⟩ := xa
          refine ⟨h1, ?_⟩
          cases d with
          | none => exact h2
          | some d =>
            obtain ⟨h3, fs, h4, h5⟩ := h2
            exact ⟨fun g => h3 (g.imp .inl id), fs, h4, h5.mono Keep.refl fun z _ g => g.imp .inl id⟩
      | ok l e2 =>
        simp only [q2] at p
        intro vs as H2 k2 fr nd R2 gv
        obtain ⟨b, ea, hna⟩ := ra.ref
        cases ea
        have na : ¬ Own ow σ a := fun ⟨i, hi, z⟩ => R1.ng i a hi z (.inr rfl)
        have ha2 : H2 a = H1 a := by
          obtain ⟨o, z, nt⟩ := hna
          rw [z]; exact k2.kp a o z na nt
        have eG : ((F.ext a).exts as).G = (F.exts (a :: as)).G := funext fun z => propext ⟨fun h => by
          rcases h with (h | h) | h
          · exact .inl h
          · exact .inr (h ▸ List.mem_cons_self)
          · exact .inr (List.mem_cons_of_mem _ h), fun h => by
          rcases h with h | h
          · exact .inl (.inl h)
          · rcases List.mem_cons.mp h with h | h
            · exact .inl (.inr h)
            · exact .inr h⟩
        rw [eG] at R2 gv
        have less : Less H1 (Gd (F.ext a).G ow σ) (Gd (F.exts (a :: as)).G ow σ) := fun z h g => by
          rcases g with (g | g) | g
          · exact .inl (.inl g)
          · rcases List.mem_cons.mp g with g | g
            · exact .inl (.inr g)
            · exact absurd h (fr z g)
          · exact .inr g
        refine p (.ref a :: vs) (a :: as) H2 (k1.trans k2) (fun z hz => ?_) (List.nodup_cons.mpr ⟨fun z => absurd hna (fr a z), nd⟩) R2 (.o (ra.mono k2.gd less fun z e1 => by cases e1; exact ha2) gv)
        rcases List.mem_cons.mp hz with rfl | hz
        · exact hn
        · have := fr z hz
          intro ⟨o, q3, nt⟩
          by_cases oz : Own ow σ z
          · exact this (R1.ownT oz)
          · exact this ⟨o, k1.kp z o q3 oz nt, nt⟩
end
end M

namespace M
open PySem PySem.Spec PyProof.Rows L2

section
variable {X : Cx} {F : Fm} {ow ow' ow1 ow2 ob : List Nat} {σ σ1 σ2 : L2.St} {H H1 H2 : Hp}
/-! ### a cell of one's own, read -/
/-- a call of one argument, a name of such a cell -/
def mCallO (g : List PV → Option PV) (i : Nat) : Mo PV := fun e => match e[i]? with
  | some (some p) => lift (g [p]) e
  | _ => .bad
theorem ownO_go {g : List PV → Option PV} {i : Nat} (hi : i ∈ ow) {σ : L2.St} {H : Hp} {Q : VK} (h : rd F ow (mCallO g i) σ H Q) :
    tVar i σ H fun x H1 => ∃ (O : Addr → Prop) (ps : List PV) (c : PV), Pre H1 O ∧ WVs F.S H1 O [x] ps ∧ g ps = some c ∧ ∀ v H', (∀ z u, H1 z = some u → H' z = some u) → RV F.S H' O v c → Q v H' := by
  obtain ⟨e, R, p⟩ := h
  unfold mCallO at p
  split at p
  · rename_i q he
    obtain ⟨v, h1, h2⟩ := R.own i q he hi
    obtain ⟨c, hc, q⟩ := p.of_lift R
    exact ⟨v, h1, Gd F.G ow σ, _, c, R.tracked, .cons (.inr h2) .nil, hc, fun v H' k rv => q H' k v rv⟩
  · exact p.elim
theorem pm_callBO (i : Nat) {x y : Str} {p p' pos : Pos} {id : String} {g : List PV → Option PV} (hc : CallOk X F (.builtin id) g) (hg : Gl X x) (hm : X.mg x = none) (hv : bootBuiltins x = some (.builtin id)) (hi : i ∈ ow := by decide) (hN : X.N[i]? = some y := by rfl) (hv2 : Vis X.env.scope y := by first | exact .inl rfl | exact .inr (.inl rfl) | exact .inr (.inr rfl))
    (hd : (y == ("__debug__" : Str)) = false := by decide) (hcd : (y == ("__classdict__" : Str)) = false := by decide)
    (hn : x ≠ "__name__" := by decide) (hdb : (x == ("__debug__" : Str)) = false := by decide) (hs : starEach [Expr.Name y p'] X.env = (false, eval (Expr.Name y p') X.env) :: starEach [] X.env := by rfl)
    (hs2 : ((backTo pos (starEach [] X.env)).any fun x => x.1) = false := by rfl) : PE X (.Call (.Name x p) [.Name y p'] [] pos) (rd F ow (mCallO g i)) :=
  (pe_callB (call_end hc) hg hm hv (pa_cons (pe_var hN hv2 hd hcd) pa_nil hs) hn hdb hs hs2).imp fun σ H Q h => by
    obtain ⟨v, h1, h2⟩ := ownO_go hi h
    exact ⟨v, h1, h2⟩
theorem pm_callTyO (i : Nat) {x y : Str} {p p' pos : Pos} {T : String} {g : List PV → Option PV} (hc : CallOk X F (.type T) g) (hg : Gl X x) (hm : X.mg x = none) (hv : bootBuiltins x = some (.type T)) (hi : i ∈ ow := by decide) (hN : X.N[i]? = some y := by rfl) (hv2 : Vis X.env.scope y := by first | exact .inl rfl | exact .inr (.inl rfl) | exact .inr (.inr rfl))
    (hd : (y == ("__debug__" : Str)) = false := by decide) (hcd : (y == ("__classdict__" : Str)) = false := by decide)
    (hn : x ≠ "__name__" := by decide) (hdb : (x == ("__debug__" : Str)) = false := by decide) (hs : starEach [Expr.Name y p'] X.env = (false, eval (Expr.Name y p') X.env) :: starEach [] X.env := by rfl)
    (hs2 : ((backTo pos (starEach [] X.env)).any fun x => x.1) = false := by rfl) : PE X (.Call (.Name x p) [.Name y p'] [] pos) (rd F ow (mCallO g i)) :=
  (pe_callTy (call_end hc) hg hm hv (pa_cons (pe_var hN hv2 hd hcd) pa_nil hs) hn hdb hs hs2).imp fun σ H Q h => by
    obtain ⟨v, h1, h2⟩ := ownO_go hi h
    exact ⟨v, h1, h2⟩
/-- x[b] -/
def mIxO (i : Nat) (mb : Mo PV) : Mo PV := fun e => match e[i]? with
  | some (some _) => (mb e).bind fun b e1 => match e1[i]? with
    | some (some (.lst l)) => match b with
      | .int j => lift (atI l j) e1
      | _ => .bad
    | _ => .bad
  | _ => .bad
theorem pm_ixO (i : Nat) {x : Str} {b : Expr} {mb : Mo PV} {p pos : Pos} (hb : PE X b (rd F ow mb)) (hi : i ∈ ow := by decide) (hN : X.N[i]? = some x := by rfl) (hv : Vis X.env.scope x := by first | exact .inl rfl | exact .inr (.inl rfl) | exact .inr (.inr rfl))
    (hd : (x == ("__debug__" : Str)) = false := by decide) (hcd : (x == ("__classdict__" : Str)) = false := by decide) (hs : PlainIx b := by exact fun _ _ => rfl) : PE X (.Subscript (.Name x p) b pos) (rd F ow (mIxO i mb)) :=
  (pe_ix ix_seq (pe_var hN hv hd hcd) hb hs).imp fun σ H Q ⟨e, R, p⟩ => by
    unfold mIxO at p
    split at p
    · rename_i q he
      obtain ⟨v, h1, h2⟩ := R.own i q he hi
      refine ⟨v, h1, e, R, (Post.unbind p).mono fun b e1 H1 k1 R1 p1 y ry => ?_⟩
      split at p1
      · rename_i l he1
        split at p1
        · rename_i j
          obtain ⟨c, hc, q⟩ := p1.of_lift R1
          obtain ⟨v', h3, a, vs, h4, h5, h6⟩ := R1.own i _ he1 hi
          rw [h1] at h3; cases h3
          subst h4
          cases ry
          obtain ⟨w, h7, h8⟩ := h6.atI hc
          exact .inl ⟨a, vs, j, w, rfl, rfl, .inl (.inl h5), h7, q H1 (fun _ _ z => z) w h8⟩
        · exact p1.elim
      · exact p1.elim
    · exact p.elim
/-- the truth of such a list -/
def mTrO (i : Nat) : Mo Bool := fun e => match e[i]? with
  | some (some p) => lift (truth p) e
  | _ => .bad
theorem At.tru {S : Se} {O : Addr → Prop} {v : V} {p : PV} {k : Bool} (r : At S H O v p) (h : truth p = some k) : TruV S.K v H k := by
  cases p with
  | lst l => obtain ⟨a, vs, rfl, h1, t⟩ := r; cases h; exact .inl ⟨_, .inl (.inl h1), (emp_of t.length).symm⟩
  | dK l => obtain ⟨a, vs, rfl, h1, t⟩ := r; cases h; exact .inr (.inr ⟨_, h1, (emp_of t.length).symm⟩)
  | _ => exact r.elim
theorem pm_trO (i : Nat) {x : Str} {p : Pos} (hi : i ∈ ow := by decide) (hN : X.N[i]? = some x := by rfl) (hv : Vis X.env.scope x := by first | exact .inl rfl | exact .inr (.inl rfl) | exact .inr (.inr rfl))
    (hd : (x == ("__debug__" : Str)) = false := by decide) (hcd : (x == ("__classdict__" : Str)) = false := by decide) (he : ∀ whole, isTrue (.Name x p) X.env whole = (do let v ← whole; standAt (Expr.Name x p).pos; holding [v] (truthy v)) := by intro _; rfl) (hS : F.S = ⟨X.K, X.mg, F.S.T⟩ := by rfl) : PT X (.Name x p) (rdT F ow (mTrO i)) :=
  (pt_truth (pe_var hN hv hd hcd) he).imp fun σ H Q ⟨e, R, p⟩ => by
    have hK : F.S.K = X.K := by rw [hS]
    unfold mTrO at p
    split at p
    · rename_i q he
      obtain ⟨v, h1, h2⟩ := R.own i q he hi
      obtain ⟨c, hc, q⟩ := p.of_lift R
      exact ⟨v, h1, c, hK ▸ h2.tru hc, q H fun _ _ z => z⟩
    · exact p.elim

/-! ### .. written -/
theorem ER.upd {S : Se} {G : Addr → Prop} {e : En} (R : ER S G ow σ H e) {i : Nat} {a : Addr} {o u : HO} {p : PV} (hb : H a = some u) (hi : i ∈ ow) (hs : σ[i]? = some (some (.ref a))) (hl : i < e.length) (ra : At S (upd H a o) (Gd G ow σ) (.ref a) p) (nt : NT u := by exact fun _ z => by cases z) (ne : ∀ φ, u ≠ .ext φ := by exact fun _ z => by cases z) : Keep (Own ow σ) H (upd H a o) ∧ ER S G ow σ (upd H a o) (e.set i (some p)) := by
  have k : Keep (Own ow σ) H (L2.upd H a o) := Keep.own hb ⟨i, hi, hs⟩ nt ne
  refine ⟨k, ⟨fun j q g1 g2 => ?_, fun j q g1 g2 => ?_, fun j hj g1 b => ?_, R.sep, R.ng, fun z g => ?_, fun p hp => tab_own hb nt ne (R.tb p hp), by rw [List.length_set]; exact R.len⟩⟩
  · have nj : i ≠ j := fun z => g2 (z ▸ hi)
    rw [List.getElem?_set_ne nj] at g1
    obtain ⟨v, g3, g4⟩ := R.val j q g1 g2
    exact ⟨v, g3, g4.mono k.gd Less.refl⟩
  · by_cases nj : i = j
    · subst nj
      rw [List.getElem?_set_self hl] at g1
      cases g1
      exact ⟨_, hs, ra⟩
    · rw [List.getElem?_set_ne nj] at g1
      obtain ⟨v, g3, g4⟩ := R.own j q g1 g2
      refine ⟨v, g3, g4.mono k.gd Less.refl fun b z => ?_⟩
      subst z
      rw [upd_ne (show b ≠ a from fun z => nj (R.sep i j a hi g2 hs (z ▸ g3)))]
  · by_cases nj : i = j
    · subst nj
      exact absurd (List.getElem?_set_self hl) (g1 p)
    · exact R.off j hj (fun q z => g1 q (by rw [List.getElem?_set_ne nj]; exact z)) b
  · obtain ⟨w, q1, q2⟩ := R.gt z g
    exact ⟨w, by rw [upd_ne (show z ≠ a from fun q => R.ng i a hi hs (q ▸ g))]; exact q1, q2⟩
/-- x.append(e) -/
def mApp (i : Nat) (m : Mo PV) : Mo PV := fun e => match e[i]? with
  | some (some (.lst _)) => (m e).bind fun p e1 => match e1[i]? with
    | some (some (.lst l)) => if l.length < sizeLine then .ok .non (e1.set i (some (.lst (l ++ [p])))) else .bad
    | _ => .bad
  | _ => .bad
theorem pm_app (i : Nat) {x : Str} {a : Expr} {m : Mo PV} {p apos cpos : Pos} (ha : PE X a (rd F ow m)) (hi : i ∈ ow := by decide) (hN : X.N[i]? = some x := by rfl) (hv : Vis X.env.scope x := by first | exact .inl rfl | exact .inr (.inl rfl) | exact .inr (.inr rfl))
    (hd : (x == ("__debug__" : Str)) = false := by decide) (hcd : (x == ("__classdict__" : Str)) = false := by decide)
    (h1 : attributeBase (.Name x p) "append" X.env (eval (.Name x p) X.env) = eval (.Name x p) X.env := by rfl)
    (h2 : (((backTo cpos (starEach [a] X.env)).all fun x => !x.1) && (backToKw cpos (keywordEach [] X.env)).all (fun x => x.1.isSome) && decide ((([a] : List Expr).length + ([] : List Keyword).length + if ([] : List Keyword).isEmpty = true then 0 else 1) < 30)) = true := by rfl)
    (h3 : (apos.endLine == cpos.line) = true := by rfl) (h4 : starEach [a] X.env = (false, eval a X.env) :: starEach [] X.env := by rfl) (h5 : ((backTo cpos (starEach [] X.env)).any fun x => x.1) = false := by rfl) : PE X (.Call (.Attribute (.Name x p) "append" apos) [a] [] cpos) (rd F ow (mApp i m)) :=
  (pe_bm PySem.F.plainAttrs_list PySem.F.slot_list_append PySem.F.type_list_append mt_append (pe_var hN hv hd hcd) (pa_cons ha pa_nil h4) h1 h2 h3 h4 h5).imp fun σ H Q ⟨e, R, p⟩ => by
    unfold mApp at p
    split at p
    · rename_i l0 he
      obtain ⟨v, g1, b, ws, g2, g3, g4⟩ := R.own i _ he hi
      subst g2
      refine ⟨_, g1, .inl ⟨rfl, _, .inl (.inl g3)⟩, e, R, (Post.unbind p).mono fun q e1 H1 k1 R1 p1 y ry => ?_⟩
      split at p1
      · rename_i l he1
        obtain ⟨v', g5, a', vs, g6, g7, g8⟩ := R1.own i _ he1 hi
        rw [g1] at g5; cases g5
        cases g6
        split at p1
        · rename_i hl
          refine ⟨_, vs, y, rfl, rfl, g7, by rw [g8.length]; exact hl, ?_⟩
          have gu : H1 b ≠ none := by rw [g7]; simp
          have ob : Own ow σ b := ⟨i, hi, g1⟩
          have kk : Keep (Own ow σ) H1 (upd H1 b (.lst (vs ++ [y]))) := Keep.own g7 ob
          obtain ⟨k, R2⟩ := R1.upd g7 hi g1 (List.getElem?_eq_some_iff.mp he1).1 (o := .lst (vs ++ [y])) (p := .lst (l ++ [q])) ⟨b, vs ++ [y], rfl, upd_same, (g8.append (.cons ry .nil)).mono kk.gd Less.refl⟩
          exact p1 _ k R2 .non .non
        · exact p1.elim
      · exact p1.elim
    · exact p.elim
/-- x[j] = e -/
def mSetIx (i : Nat) (mj me : Mo PV) : Ms := fun e => SOut.of (me e) fun p e1 => match e1[i]? with
  | some (some (.lst _)) => SOut.of (mj e1) fun j e2 => match e2[i]? with
    | some (some (.lst l)) => match j with
      | .int j => match ixN l.length j with
        | some n => .nxt (e2.set i (some (.lst (l.set n p))))
        | none => .bad
      | _ => .bad
    | _ => .bad
  | _ => .bad
theorem pmt_setIx (i : Nat) {x : Str} {b a : Expr} {mj me : Mo PV} {p p2 pos : Pos} (ha : PE X a (rd F ow me)) (hb : PE X b (rd F ow mj)) (hi : i ∈ ow := by decide) (hN : X.N[i]? = some x := by rfl) (hv : Vis X.env.scope x := by first | exact .inl rfl | exact .inr (.inl rfl) | exact .inr (.inr rfl))
    (hd : (x == ("__debug__" : Str)) = false := by decide) (hcd : (x == ("__classdict__" : Str)) = false := by decide)
    (h1 : ∀ v, assign (.Subscript (.Name x p) b p2) X.env v = (do
      let ov ← holding [v] (eval (.Name x p) X.env)
      let iv ← holding [v, ov] (eval b X.env)
      standAt p2
      holding [v, ov, iv] (setItem ov iv v)
      release [v, ov, iv] []) := by intro _; rfl)
    (hs : swapsWithSole [.Subscript (.Name x p) b p2] a pos.line X.env = pure false := by rfl) (hw : swappedStores [.Subscript (.Name x p) b p2] a X.env = pure none := by rfl)
    (h2 : (assignEach [.Subscript (.Name x p) b p2] X.env).map (·.2) = [assign (.Subscript (.Name x p) b p2) X.env] := by rfl) : PS X (.Assign [.Subscript (.Name x p) b p2] a pos) (rdS F ow ow ob (mSetIx i mj me)) :=
  (ps_asg ha (pg_sub (pe_var hN hv hd hcd) hb set_list h1) hs hw h2).imp fun D σ H ⟨e, R, p⟩ => ⟨e, R, (Post.stmt p).mono fun q e1 H1 k1 R1 p1 y ry => by
    split at p1
    · rename_i l0 he
      obtain ⟨v, g1, b, ws, g2, g3, g4⟩ := R1.own i _ he hi
      subst g2
      refine ⟨_, g1, e1, R1, (Post.stmt p1).mono fun j e2 H2 k2 R2 p2 z rz => ?_⟩
      split at p2
      · rename_i l he1
        obtain ⟨v', g5, a', vs, g6, g7, g8⟩ := R2.own i _ he1 hi
        rw [g1] at g5; cases g5
        cases g6
        split at p2
        · rename_i j
          split at p2
          · rename_i n hn
            cases rz
            refine ⟨_, vs, j, n, rfl, rfl, g7, by rw [g8.length]; exact hn, ?_⟩
            have ob : Own ow σ b := ⟨i, hi, g1⟩
            have kk : Keep (Own ow σ) H2 (upd H2 b (.lst (vs.set n y))) := Keep.own g7 ob
            obtain ⟨k, R3⟩ := R2.upd g7 hi g1 (List.getElem?_eq_some_iff.mp he1).1 (o := .lst (vs.set n y)) (p := .lst (l.set n q)) ⟨b, vs.set n y, rfl, upd_same, (g8.set (ry.mono k2.gd Less.refl) n).mono kk.gd Less.refl⟩
            exact p2 σ _ (KeepS.of k) Stay.refl R3
          · exact p2.elim
        · exact p2.elim
      · exact p2.elim
    · exact p1.elim⟩
/-! ### several values at once -/
def parOw : List Bool → List Nat → List Nat → List Nat
  | false :: fl, _ :: is, ow => parOw fl is ow
  | true :: fl, i :: is, ow => parOw fl is (i :: ow)
  | _, _, ow => ow
def setAllV : List Nat → List V → L2.St → L2.St
  | i :: is, v :: vs, σ => setAllV is vs (σ.set i (some v))
  | _, _, σ => σ
theorem par_go {S : Se} {G : Addr → Prop} {io : List Nat} : ∀ {fl : List Bool} {is : List Nat} {vs : List V} {l : List PV} {as : List Addr} {ow : List Nat} {σ : L2.St} {e e' : En}, setAll is l e = some e' → (∀ i ∈ is, i ∉ io ∧ i < e.length) → is.Nodup → (∀ i ∈ is, i ∉ ow) →
    ER S (fun z => G z ∨ z ∈ as) ow σ H e → GV S H (Gd (fun z => G z ∨ z ∈ as) ow σ) fl vs l as → as.Nodup → (∀ a ∈ as, ¬ G a) →
    ER S G (parOw fl is ow) (setAllV is vs σ) H e' ∧ Stay io σ (setAllV is vs σ) ∧ ∀ z, Own (parOw fl is ow) (setAllV is vs σ) z → Own ow σ z ∨ z ∈ as
  | [], [], _, _, _, ow, σ, e, e', h, _, _, _, R, g, _, _ => by
    cases g
    cases h
    refine ⟨?_, Stay.refl, fun z q => .inl q⟩
    have : (fun z => G z ∨ z ∈ ([] : List Addr)) = G := funext fun z => propext ⟨fun h => h.elim id fun q => (by cases q), .inl⟩
    rw [this] at R
    exact R
  | false :: fl, i :: is, _, _, as, ow, σ, e, e', h, h1, hn, h2, R, g, na, ng => by
    cases g with
    | v r t =>
      rename_i v p vs l
      have ni := h2 i List.mem_cons_self
      rw [List.nodup_cons] at hn
      have og : Gd (fun z => G z ∨ z ∈ as) ow (σ.set i (some v)) = Gd (fun z => G z ∨ z ∈ as) ow σ := by unfold Gd; rw [own_set ni]
      obtain ⟨a1, a2, a3⟩ := par_go (fl := fl) (is := is) (io := io) (ow := ow) (σ := σ.set i (some v)) (e := e.set i (some p)) h (fun j hj => by rw [List.length_set]; exact h1 j (List.mem_cons_of_mem _ hj)) hn.2 (fun j hj => h2 j (List.mem_cons_of_mem _ hj)) (R.set ni r) (by rw [og]; exact t) na ng
      exact ⟨a1, (Stay.set (h1 i List.mem_cons_self).1).trans a2, fun z q => by have := a3 z q; rw [own_set ni] at this; exact this⟩
  | true :: fl, i :: is, _, _, _, ow, σ, e, e', h, h1, hn, h2, R, g, na, ng => by
    cases g with
    | o r t =>
      rename_i a p vs l as
      have ni := h2 i List.mem_cons_self
      rw [List.nodup_cons] at hn na
      have hl : i < σ.length := by rw [← R.len]; exact (h1 i List.mem_cons_self).2
      have eG : (fun z => G z ∨ z ∈ a :: as) = fun z => (fun z => G z ∨ z ∈ as) z ∨ z = a := funext fun z => propext ⟨fun h => by
        rcases h with h | h
        · exact .inl (.inl h)
        · rcases List.mem_cons.mp h with h | h
          · exact .inr h
          · exact .inl (.inr h), fun h => by
        rcases h with (h | h) | h
        · exact .inl h
        · exact .inr (List.mem_cons_of_mem _ h)
        · exact .inr (h ▸ List.mem_cons_self)⟩
      rw [eG] at R r t
      have R2 := R.setO (ow' := i :: ow) (i := i) (p := p) (fun z g q => by
        subst q
        rcases g with g | g
        · exact ng _ List.mem_cons_self g
        · exact na.1 g) r (fun j hj => (List.mem_cons.mp hj)) (fun j hj => List.mem_cons_of_mem _ hj) List.mem_cons_self hl
      have less : Less H (Gd (fun z => (fun z => G z ∨ z ∈ as) z ∨ z = a) ow σ) (Gd (fun z => G z ∨ z ∈ as) (i :: ow) (σ.set i (some (.ref a)))) := fun z _ g => by
        rcases g with g | ⟨j, hj, e1⟩
        · exact .inl (.inl g)
        · by_cases q : i = j
          · subst q
            rw [List.getElem?_set_self hl] at e1
            cases e1
            exact .inl (.inr rfl)
          · rw [List.getElem?_set_ne q] at e1
            rcases List.mem_cons.mp hj with z | z
            · exact absurd z.symm q
            · exact .inr ⟨j, z, e1⟩
      obtain ⟨a1, a2, a3⟩ := par_go (fl := fl) (is := is) (io := io) (ow := i :: ow) (σ := σ.set i (some (.ref a))) (e := e.set i (some p)) h (fun j hj => by rw [List.length_set]; exact h1 j (List.mem_cons_of_mem _ hj)) hn.2
        (fun j hj q => by
          rcases List.mem_cons.mp q with q | q
          · subst q; exact hn.1 hj
          · exact h2 j (List.mem_cons_of_mem _ hj) q) R2 (GV.mono Keep.refl less (fun _ _ _ => .inr trivial) (fun _ _ => rfl) t) na.2 fun b hb => ng b (List.mem_cons_of_mem _ hb)
      refine ⟨a1, (Stay.set (h1 i List.mem_cons_self).1).trans a2, fun z q => ?_⟩
      rcases a3 z q with ⟨j, hj, e1⟩ | q
      · by_cases q : i = j
        · subst q
          rw [List.getElem?_set_self hl] at e1
          cases e1
          exact .inr List.mem_cons_self
        · rw [List.getElem?_set_ne q] at e1
          rcases List.mem_cons.mp hj with z | z
          · exact absurd z.symm q
          · exact .inl ⟨j, z, e1⟩
      · exact .inr (List.mem_cons_of_mem _ q)
  | [], _ :: _, _, _, _, _, _, _, _, h, _, _, _, _, g, _, _ => by cases g; cases h
  | _ :: _, [], _, _, _, _, _, _, _, h, _, _, _, _, g, _, _ => by cases g <;> cases h
def mPar (is : List Nat) (ml : Mo (List PV)) : Ms := fun e => SOut.of (ml e) fun l e1 => if ∀ i ∈ is, i < e1.length then match setAll is l e1 with
  | some e2 => .nxt e2
  | none => .bad
  else .bad
theorem par_end {fl : List Bool} {is : List Nat} {ml : Mo (List PV)} {D : Ends} {σ : L2.St} {H : Hp} (h : rdS F ow (parOw fl is ow) ob (mPar is ml) D σ H) (hi : ∀ i ∈ is, i ∉ ow) (hio : ∀ i ∈ is, i ∉ F.io) (hn : is.Nodup) : rdG F ow fl ml σ H fun vs H1 => vs.length = is.length ∧ D.nx (setAllV is vs σ) H1 := by
  obtain ⟨e, R, p⟩ := h
  refine ⟨e, R, ?_⟩
  unfold mPar at p
  cases q : ml e with
  | bad => simp only [q, SOut.of] at p; exact p.elim
  | exc x e1 => simp only [q, SOut.of] at p; exact fun H1 c d k R1 x1 => p σ ow H1 c d (KeepS.of k) Stay.refl R1 x1
  | ok l e1 =>
    simp only [q, SOut.of] at p
    intro vs as H1 k1 fr nd R1 gv
    split at p
    · rename_i hl
      cases q2 : setAll is l e1 with
      | none => simp only [q2] at p; exact p.elim
      | some e2 =>
        simp only [q2] at p
        have gl : vs.length = l.length := by
          clear q q2 hl p R1 nd fr k1
          revert gv
          have : ∀ {fl : List Bool} {vs : List V} {l : List PV} {as : List Addr}, GV F.S H1 (Gd (F.exts as).G ow σ) fl vs l as → vs.length = l.length := fun {fl vs l as} g => by
            have gen : ∀ {O : Addr → Prop} {fl : List Bool} {vs : List V} {l : List PV} {as : List Addr}, GV F.S H1 O fl vs l as → vs.length = l.length := fun g => by
              induction g with
              | nil => rfl
              | v _ _ ih => exact congrArg Nat.succ ih
              | o _ _ ih => exact congrArg Nat.succ ih
            exact gen g
          exact this
        have nG : ∀ a ∈ as, ¬ F.G a := fun a ha g => fr a ha (R.gt a g)
        obtain ⟨a1, a2, a3⟩ := par_go (S := F.S) (G := F.G) (io := F.io) q2 (fun i h => ⟨hio i h, hl i h⟩) hn hi R1 gv nd nG
        refine ⟨by rw [gl, setAll_len q2], p _ H1 ⟨fun a o e n nt => ⟨k1.kp a o e n nt, fun z => ?_⟩⟩ a2 a1⟩
        rcases a3 a z with z | z
        · exact n z
        · exact fr a z ⟨o, e, nt⟩
    · exact p.elim
theorem rdG.mono {fl : List Bool} {ml : Mo (List PV)} {σ : L2.St} {H : Hp} {Q Q' : List V → Hp → Prop} (h : rdG F ow fl ml σ H Q) (q : ∀ vs H1, Q vs H1 → Q' vs H1) : rdG F ow fl ml σ H Q' := by
  obtain ⟨e, R, p⟩ := h
  refine ⟨e, R, ?_⟩
  cases z : ml e with
  | bad => rw [z] at p; exact p
  | exc x e1 => rw [z] at p; exact p
  | ok l e1 => rw [z] at p; exact fun vs as H' k1 fr nd R1 gv => q _ _ (p vs as H' k1 fr nd R1 gv)
theorem pmt_par2 (fl : List Bool) (i j : Nat) {x y : Str} {a b : Expr} {ml : Mo (List PV)} {px py pt pos : Pos} {kt k2 : Nat} {pt2 : Pos} (hN : X.N.Nodup) (ha : PA X [a, b] (rdG F ow fl ml)) (how : ow' = parOw fl [i, j] ow := by rfl) (hi : ∀ k ∈ [i, j], k ∉ ow := by decide) (hio : ∀ k ∈ [i, j], k ∉ F.io := by first | decide | exact of_decide_eq_true rfl) (hij : i ≠ j := by decide)
    (h1 : X.N[i]? = some x := by rfl) (h2 : X.N[j]? = some y := by rfl) (h3 : X.env.scope.names.lookup x = some .local := by rfl) (h4 : X.env.scope.names.lookup y = some .local := by rfl) (hc : X.calm = true := by rfl)
    (hw : swappedStores [.Tuple [.Name x px, .Name y py] kt pt] (.Tuple [a, b] k2 pt2) X.env = pure (some [x, y]) := by rfl)
    (hs : swapsWithSole [.Tuple [.Name x px, .Name y py] kt pt] (.Tuple [a, b] k2 pt2) pos.line X.env = pure false := by rfl) : PS X (.Assign [.Tuple [.Name x px, .Name y py] kt pt] (.Tuple [a, b] k2 pt2) pos) (rdS F ow ow' ob (mPar [i, j] ml)) := by
  subst how
  exact (ps_par hc hN h1 h2 hij h3 h4 ha hw hs).imp fun D σ H h => (par_end h hi hio (by simp [hij])).mono fun vs H1 ⟨h5, h6⟩ => by
    match vs, h5 with
    | [v, w], _ => exact ⟨v, w, rfl, h6⟩
theorem pmt_par3 (fl : List Bool) (i j k : Nat) {x y z : Str} {a b c : Expr} {ml : Mo (List PV)} {px py pz pt pos : Pos} {kt k2 : Nat} {pt2 : Pos} (hN : X.N.Nodup) (ha : PA X [a, b, c] (rdG F ow fl ml)) (how : ow' = parOw fl [i, j, k] ow := by rfl) (hi : ∀ m ∈ [i, j, k], m ∉ ow := by decide) (hio : ∀ m ∈ [i, j, k], m ∉ F.io := by first | decide | exact of_decide_eq_true rfl) (hij : i ≠ j := by decide) (hik : i ≠ k := by decide) (hjk : j ≠ k := by decide)
    (h1 : X.N[i]? = some x := by rfl) (h2 : X.N[j]? = some y := by rfl) (h3 : X.N[k]? = some z := by rfl) (h4 : X.env.scope.names.lookup x = some .local := by rfl) (h5 : X.env.scope.names.lookup y = some .local := by rfl) (h6 : X.env.scope.names.lookup z = some .local := by rfl) (hc : X.calm = true := by rfl)
    (hw : swappedStores [.Tuple [.Name x px, .Name y py, .Name z pz] kt pt] (.Tuple [a, b, c] k2 pt2) X.env = pure (some [x, y, z]) := by rfl)
    (hs : swapsWithSole [.Tuple [.Name x px, .Name y py, .Name z pz] kt pt] (.Tuple [a, b, c] k2 pt2) pos.line X.env = pure false := by rfl) : PS X (.Assign [.Tuple [.Name x px, .Name y py, .Name z pz] kt pt] (.Tuple [a, b, c] k2 pt2) pos) (rdS F ow ow' ob (mPar [i, j, k] ml)) := by
  subst how
  exact (ps_par3 hc hN h1 h2 h3 hij hik hjk h4 h5 h6 ha hw hs).imp fun D σ H h => (par_end h hi hio (by simp [hij, hik, hjk])).mono fun vs H1 ⟨g5, g6⟩ => by
    match vs, g5 with
    | [u, v, w], _ => exact ⟨u, v, w, rfl, g6⟩
end
end M

namespace M
open PySem PySem.Spec PyProof.Rows L2

/-! ### what is walked -/
def ItOk (S : Se) (J : It) (items : List PV) (H0 : Hp) (O0 : Addr → Prop) : Prop := ∃ T : Hp → (Addr → Prop) → Prop, T H0 O0 ∧ (∀ H H' O O', T H O → Keep O H H' → Less H O O' → T H' O') ∧
  ∀ (i : Nat) H O, Pre H O → T H O → (∀ p, items[i]? = some p → J.go i H ∧ ∀ x H', J.yld i H x H' → (∀ a o, H a = some o → H' a = some o) ∧ RV S H' O x p) ∧ (items.length ≤ i → J.stop i H)
section
variable {X : Cx} {F : Fm} {ow ow' ow1 ow2 ob : List Nat} {σ σ1 σ2 : L2.St} {H H1 H2 : Hp}
theorem it_tup {S : Se} {H : Hp} {O : Addr → Prop} {a : Addr} {l : List PV} (r : RV S H O (.ref a) (.tup l)) : ItOk S (Itt S.K a) l H O := by
  refine ⟨fun H O => RV S H O (.ref a) (.tup l), r, fun _ _ _ _ r k q => r.mono k q, fun i H O _ r => ⟨fun p hp => ?_, fun hl => ?_⟩⟩
  · obtain ⟨vs, h1, h2⟩ := r.sqT
    obtain ⟨v, h3, h4⟩ := h2.get hp
    refine ⟨⟨vs, v, h1, h3⟩, fun x H' ⟨e, y⟩ => ?_⟩
    subst e
    rw [y vs h1] at h3; cases h3
    exact ⟨fun _ _ z => z, h4⟩
  · obtain ⟨vs, h1, h2⟩ := r.sqT
    exact ⟨vs, h1, by rw [h2.length]; exact hl⟩
theorem it_lst {S : Se} {H : Hp} {O : Addr → Prop} {a : Addr} {l : List PV} (r : RV S H O (.ref a) (.lst l)) : ItOk S (Itl S.K a) l H O := by
  refine ⟨fun H O => RV S H O (.ref a) (.lst l), r, fun _ _ _ _ r k q => r.mono k q, fun i H O _ r => ⟨fun p hp => ?_, fun hl => ?_⟩⟩
  · obtain ⟨b, vs, e, h1, h2⟩ := r.isL
    cases e
    obtain ⟨v, h3, h4⟩ := h2.get hp
    refine ⟨⟨vs, v, .inl (.inl h1), h3⟩, fun x H' ⟨e, y⟩ => ?_⟩
    subst e
    rw [y vs (.inl (.inl h1))] at h3; cases h3
    exact ⟨fun _ _ z => z, h4⟩
  · obtain ⟨b, vs, e, h1, h2⟩ := r.isL
    cases e
    exact ⟨vs, .inl (.inl h1), by rw [h2.length]; exact hl⟩
theorem it_fz {S : Se} {H : Hp} {O : Addr → Prop} {a : Addr} {l : List PV} (r : RV S H O (.ref a) (.fz l)) : ItOk S (Itl S.K a) l H O := by
  refine ⟨fun H O => RV S H O (.ref a) (.fz l), r, fun _ _ _ _ r k q => r.mono k q, fun i H O _ r => ⟨fun p hp => ?_, fun hl => ?_⟩⟩
  · obtain ⟨b, vs, e, h1, h2⟩ := r.isF
    cases e
    obtain ⟨v, h3, h4⟩ := h2.get hp
    refine ⟨⟨vs, v, h1, h3⟩, fun x H' ⟨e, y⟩ => ?_⟩
    subst e
    rw [y vs h1] at h3; cases h3
    exact ⟨fun _ _ z => z, h4⟩
  · obtain ⟨b, vs, e, h1, h2⟩ := r.isF
    cases e
    exact ⟨vs, h1, by rw [h2.length]; exact hl⟩
def rangeP (lo : Int) (n : Nat) : List PV := (List.range n).map fun i : Nat => PV.int (lo + (i : Int))
theorem it_rng {S : Se} {H : Hp} {O : Addr → Prop} (lo : Int) (n : Nat) : ItOk S (Itr lo n) (rangeP lo n) H O := by
  refine ⟨fun _ _ => True, trivial, fun _ _ _ _ _ _ _ => trivial, fun i H O _ _ => ⟨fun p hp => ?_, fun hl => ?_⟩⟩
  · unfold rangeP at hp
    rw [List.getElem?_map] at hp
    cases q : (List.range n)[i]? with
    | none => rw [q] at hp; cases hp
    | some j =>
      rw [q] at hp
      cases hp
      obtain ⟨h1, h2⟩ := List.getElem?_eq_some_iff.mp q
      rw [List.length_range] at h1
      rw [List.getElem_range] at h2
      subst h2
      refine ⟨h1, fun x H' ⟨e, y⟩ => ?_⟩
      subst e y
      exact ⟨fun _ _ z => z, .int _⟩
  · show n ≤ i
    unfold rangeP at hl
    rw [List.length_map, List.length_range] at hl
    exact hl
def zipP : List PV → List PV → List PV
  | a :: l, b :: m => .tup [a, b] :: zipP l m
  | _, _ => []
theorem zipP_get : ∀ {l m : List PV} {i : Nat} {p : PV}, (zipP l m)[i]? = some p → ∃ a b, l[i]? = some a ∧ m[i]? = some b ∧ p = .tup [a, b]
  | [], m, i, p, h => by cases m <;> simp [zipP] at h
  | a :: l, [], i, p, h => by simp [zipP] at h
  | a :: l, b :: m, 0, p, h => by simp [zipP] at h; exact ⟨a, b, rfl, rfl, h.symm⟩
  | a :: l, b :: m, i + 1, p, h => by
    simp only [zipP, List.getElem?_cons_succ] at h
    obtain ⟨a', b', h1, h2, h3⟩ := zipP_get h
    exact ⟨a', b', by simpa using h1, by simpa using h2, h3⟩
theorem zipP_len : ∀ {l m : List PV} {i : Nat}, (zipP l m).length ≤ i → l.length ≤ i ∨ m.length ≤ i
  | [], m, i, h => .inl (Nat.zero_le _)
  | a :: l, [], i, h => .inr (Nat.zero_le _)
  | a :: l, b :: m, 0, h => by simp [zipP] at h
  | a :: l, b :: m, i + 1, h => by
    simp only [zipP, List.length_cons] at h
    rcases zipP_len (l := l) (m := m) (i := i) (by omega) with h | h
    · exact .inl (by simp; exact h)
    · exact .inr (by simp; exact h)
theorem it_zipL {S : Se} {H : Hp} {O : Addr → Prop} {a b : Addr} {l m : List PV} (r : RV S H O (.ref a) (.lst l)) (r' : RV S H O (.ref b) (.lst m)) : ItOk S (Itz S.K a b) (zipP l m) H O := by
  refine ⟨fun H O => RV S H O (.ref a) (.lst l) ∧ RV S H O (.ref b) (.lst m), ⟨r, r'⟩, fun _ _ _ _ r k q => ⟨r.1.mono k q, r.2.mono k q⟩, fun i H O pre r => ?_⟩
  obtain ⟨c, vs, e, h1, h2⟩ := r.1.isL
  cases e
  obtain ⟨d, ws, e, h3, h4⟩ := r.2.isL
  cases e
  refine ⟨fun p hp => ?_, fun hl => ?_⟩
  · obtain ⟨x, y, g1, g2, rfl⟩ := zipP_get hp
    obtain ⟨v, g3, g4⟩ := h2.get g1
    obtain ⟨w, g5, g6⟩ := h4.get g2
    refine ⟨⟨vs, ws, v, w, .inl (.inl h1), .inl (.inl h3), g3, g5⟩, fun z H' ⟨T, x', y', e1, e2, e3, e4, e5⟩ => ?_⟩
    subst e1 e3
    rw [e4 vs (.inl (.inl h1))] at g3; cases g3
    rw [e5 ws (.inl (.inl h3))] at g5; cases g5
    exact ⟨upd_keep e2, (RVs.cons g4 (.cons g6 .nil)).newT e2 pre⟩
  · refine ⟨vs, ws, .inl (.inl h1), .inl (.inl h3), ?_⟩
    rw [h2.length, h4.length]
    exact zipP_len hl
theorem it_zipT {S : Se} {H : Hp} {O : Addr → Prop} {a b : Addr} {l m : List PV} (r : RV S H O (.ref a) (.tup l)) (r' : RV S H O (.ref b) (.tup m)) : ItOk S (RZ.ItzT S.K a b) (zipP l m) H O := by
  refine ⟨fun H O => RV S H O (.ref a) (.tup l) ∧ RV S H O (.ref b) (.tup m), ⟨r, r'⟩, fun _ _ _ _ r k q => ⟨r.1.mono k q, r.2.mono k q⟩, fun i H O pre r => ?_⟩
  obtain ⟨vs, h1, h2⟩ := r.1.sqT
  obtain ⟨ws, h3, h4⟩ := r.2.sqT
  refine ⟨fun p hp => ?_, fun hl => ?_⟩
  · obtain ⟨x, y, g1, g2, rfl⟩ := zipP_get hp
    obtain ⟨v, g3, g4⟩ := h2.get g1
    obtain ⟨w, g5, g6⟩ := h4.get g2
    refine ⟨⟨vs, ws, v, w, h1, h3, g3, g5⟩, fun z H' ⟨T, x', y', e1, e2, e3, e4, e5⟩ => ?_⟩
    subst e1 e3
    rw [e4 vs h1] at g3; cases g3
    rw [e5 ws h3] at g5; cases g5
    exact ⟨upd_keep e2, (RVs.cons g4 (.cons g6 .nil)).newT e2 pre⟩
  · refine ⟨vs, ws, h1, h3, ?_⟩
    rw [h2.length, h4.length]
    exact zipP_len hl
/-- an iterable's reading: the items -/
def rdI (F : Fm) (ow : List Nat) (m : Mo (List PV)) : TI := fun σ H R => ∃ e, ER F.S F.G ow σ H e ∧ Post F ow σ H (m e) fun l _ H' => ∀ J, ItOk F.S J l H' (Gd F.G ow σ) → R J H'
theorem _root_.L2.PI.imp {tg e : Expr} {t t' : TI} (h : PI X tg e t) (i : ∀ σ H Q, t' σ H Q → t σ H Q) : PI X tg e t' := ⟨fun pins s σ H Q I q => h.run pins s σ H Q I (i σ H Q q)⟩
theorem pi_or {tg e : Expr} {t : TE} (h : PE X e t) : PI X tg e fun σ H R => t σ H fun x H1 => ∃ a, x = .ref a ∧ ((∃ xs, SqL X.K H1 a xs) ∧ R (Itl X.K a) H1 ∨ (∃ xs, SqT X.K H1 a xs) ∧ R (Itt X.K a) H1) := by
  refine ⟨fun pins s σ H R I q => ?_⟩
  refine thn (h.run pins s σ H _ I q) fun v s1 ⟨x, H1, I1, r1, q1⟩ => ?_
  obtain ⟨a, e, q1⟩ := q1
  subst e
  cases r1
  have own : ∀ c ∈ [s1.heap.objs.size], FpOk X pins H1 c := fun c hc => by
    rw [List.mem_singleton.mp hc]
    exact I1.fpOk (Nat.le_refl _) (HOk.fresh I1.hok (Nat.le_refl _))
  rcases q1 with ⟨⟨xs, hq⟩, q⟩ | ⟨⟨xs, hq⟩, q⟩
  · obtain ⟨ys, _, pl, _⟩ := I1.list hq
    exact wpAny_pyIter_list pl.isList
      ⟨_, [s1.heap.objs.size], _, _, H1, rfl, I1.kept fun _ _ z => Heap.get?_push_of_some _ z,
        turn_list a _, ⟨_, Heap.get?_push_size _ rfl, rfl, rfl⟩, own, q⟩
  · obtain ⟨ys, _, pt, _⟩ := I1.tuple hq
    exact wpAny_pyIter_tuple (items := ys.toArray) pt
      ⟨_, [s1.heap.objs.size], _, _, H1, rfl, I1.kept fun _ _ z => Heap.get?_push_of_some _ z,
        turn_tuple a _, ⟨_, Heap.get?_push_size _ rfl, rfl, rfl⟩, own, q⟩
def itemsOf : PV → Option (List PV)
  | .tup l => some l
  | .lst l => some l
  | .fz l => some l
  | _ => none
def mIt (m : Mo PV) : Mo (List PV) := fun e => (m e).bind fun p e1 => lift (itemsOf p) e1
theorem pmi_seq {tg a : Expr} {m : Mo PV} (ha : PE X a (rd F ow m)) (hS : F.S = ⟨X.K, X.mg, F.S.T⟩ := by rfl) : PI X tg a (rdI F ow (mIt m)) :=
  (pi_or ha).imp fun σ H Q ⟨e, R, p⟩ => by
    have hK : F.S.K = X.K := by rw [hS]
    refine ⟨e, R, (Post.unbind p).mono fun q e1 H1 k1 R1 p1 v rv => ?_⟩
    obtain ⟨c, hc, q⟩ := p1.of_lift R1
    unfold itemsOf at hc
    split at hc
    · cases hc
      obtain ⟨a, vs, rfl, h1, t⟩ := rv.isT
      exact ⟨a, rfl, .inr ⟨⟨vs, hK ▸ h1⟩, hK ▸ q H1 (fun _ _ z => z) _ (it_tup rv)⟩⟩
    · cases hc
      obtain ⟨a, vs, rfl, h1, t⟩ := rv.isL
      exact ⟨a, rfl, .inl ⟨⟨vs, .inl (.inl h1)⟩, hK ▸ q H1 (fun _ _ z => z) _ (it_lst rv)⟩⟩
    · cases hc
      obtain ⟨a, vs, rfl, h1, t⟩ := rv.isF
      exact ⟨a, rfl, .inl ⟨⟨vs, hK ▸ h1⟩, hK ▸ q H1 (fun _ _ z => z) _ (it_fz rv)⟩⟩
    · cases hc
def iRange1 : List PV → Option (List PV)
  | [.int j] => if -(2 ^ 62) ≤ j ∧ j < 2 ^ 62 then some (rangeP 0 j.toNat) else none
  | _ => none
def iRange2 : List PV → Option (List PV)
  | [.int i, .int j] => if -(2 ^ 62) ≤ i ∧ i < 2 ^ 62 ∧ -(2 ^ 62) ≤ j ∧ j < 2 ^ 62 then some (rangeP i (j - i).toNat) else none
  | _ => none
def mItA (g : List PV → Option (List PV)) (m : Mo (List PV)) : Mo (List PV) := fun e => (m e).bind fun l e1 => lift (g l) e1
theorem pmi_range1 {tg a : Expr} {ml : Mo (List PV)} {p pos : Pos} (hg : Gl X "range") (hm : X.mg "range" = none) (ha : PA X [a] (rdA F ow ml)) (hs : starEach [a] X.env = [(false, eval a X.env)] := by rfl) : PI X tg (.Call (.Name "range" p) [a] [] pos) (rdI F ow (mItA iRange1 ml)) :=
  (pi_range1 hg hm ha hs).imp fun σ H Q ⟨e, R, p⟩ => by
    refine ⟨e, R, (Post.unbind p).mono fun l e1 H1 k1 R1 p1 vs rs => ?_⟩
    obtain ⟨c, hc, q⟩ := p1.of_lift R1
    unfold iRange1 at hc
    split at hc
    · split at hc
      · rename_i h
        cases hc
        obtain ⟨x, rfl, rx⟩ := rs.one
        cases rx
        exact ⟨_, rfl, h.1, h.2, q H1 (fun _ _ z => z) _ (it_rng _ _)⟩
      · cases hc
    · cases hc
theorem pmi_range2 {tg a b : Expr} {ml : Mo (List PV)} {p pos : Pos} (hg : Gl X "range") (hm : X.mg "range" = none) (ha : PA X [a, b] (rdA F ow ml)) (hs : starEach [a, b] X.env = [(false, eval a X.env), (false, eval b X.env)] := by rfl) (hs2 : starEach [b] X.env = [(false, eval b X.env)] := by rfl) : PI X tg (.Call (.Name "range" p) [a, b] [] pos) (rdI F ow (mItA iRange2 ml)) :=
  (pi_range2 hg hm ha hs hs2).imp fun σ H Q ⟨e, R, p⟩ => by
    refine ⟨e, R, (Post.unbind p).mono fun l e1 H1 k1 R1 p1 vs rs => ?_⟩
    obtain ⟨c, hc, q⟩ := p1.of_lift R1
    unfold iRange2 at hc
    split at hc
    · split at hc
      · rename_i h
        cases hc
        obtain ⟨x, y, rfl, rx, ry⟩ := rs.two
        cases rx
        cases ry
        exact ⟨_, _, rfl, h, q H1 (fun _ _ z => z) _ (it_rng _ _)⟩
      · cases hc
    · cases hc
def iZipM : List PV → Option (List PV)
  | [.lst l, .lst m] => some (zipP l m)
  | [.tup l, .tup m] => some (zipP l m)
  | _ => none
theorem pmi_zip {a b : Expr} {ml : Mo (List PV)} {p pos tpos : Pos} {elts : List Expr} {kk : Nat} (hg : Gl X "zip") (hm : X.mg "zip" = none) (ha : PA X [a, b] (rdA F ow ml)) (hS : F.S = ⟨X.K, X.mg, F.S.T⟩ := by rfl)
    (hs : starEach [a, b] X.env = (false, eval a X.env) :: starEach [b] X.env := by rfl) (hpl : (backTo pos (starEach [b] X.env)).any (·.1) = false := by rfl) : PI X (.Tuple elts kk tpos) (.Call (.Name "zip" p) [a, b] [] pos) (rdI F ow (mItA iZipM ml)) :=
  (RZ.pi_zipA hg hm ha hs hpl).imp fun σ H Q ⟨e, R, p⟩ => by
    have hK : F.S.K = X.K := by rw [hS]
    refine ⟨e, R, (Post.unbind p).mono fun l e1 H1 k1 R1 p1 vs rs => ?_⟩
    obtain ⟨c, hc, q⟩ := p1.of_lift R1
    unfold iZipM at hc
    split at hc
    · cases hc
      obtain ⟨x, y, rfl, rx, ry⟩ := rs.two
      obtain ⟨a, vs, rfl, h1, t⟩ := rx.isL
      obtain ⟨b, ws, rfl, h2, u⟩ := ry.isL
      exact ⟨a, b, vs, ws, rfl, .inl ⟨.inl (.inl h1), .inl (.inl h2), hK ▸ q H1 (fun _ _ z => z) _ (it_zipL rx ry)⟩⟩
    · cases hc
      obtain ⟨x, y, rfl, rx, ry⟩ := rs.two
      obtain ⟨a, vs, rfl, h1, t⟩ := rx.isT
      obtain ⟨b, ws, rfl, h2, u⟩ := ry.isT
      exact ⟨a, b, vs, ws, rfl, .inr ⟨hK ▸ h1, hK ▸ h2, hK ▸ q H1 (fun _ _ z => z) _ (it_zipT rx ry)⟩⟩
    · cases hc

/-! ### what a loop's target takes -/
theorem wipe_get {σ : L2.St} {j : Nat} : ∀ {own : List Nat}, j ∈ own → j < σ.length → (L2.wipe σ own)[j]? = some none
  | [], h, _ => by cases h
  | v :: vs, h, hl => by
    unfold L2.wipe
    by_cases z : v = j
    · subst z
      rw [List.getElem?_set_self (by rw [wipe_length]; exact hl)]
    · rw [List.getElem?_set_ne z]
      exact wipe_get ((List.mem_cons.mp h).elim (fun q => absurd q.symm z) id) hl
theorem wipe_eq {σ σ' : L2.St} {own : List Nat} (hl : σ'.length = σ.length) (h : ∀ j, j ∉ own → σ'[j]? = σ[j]?) : L2.wipe σ' own = L2.wipe σ own := by
  apply List.ext_getElem?
  intro j
  by_cases z : j ∈ own
  · by_cases q : j < σ.length
    · rw [wipe_get z (by rw [hl]; exact q), wipe_get z q]
    · rw [List.getElem?_eq_none (by rw [wipe_length, hl]; omega), List.getElem?_eq_none (by rw [wipe_length]; omega)]
  · rw [wipe_out z, wipe_out z, h j z]
/-- the slots of is alone have changed -/
def Off (is : List Nat) (σ σ' : L2.St) : Prop := σ'.length = σ.length ∧ ∀ j, j ∉ is → σ'[j]? = σ[j]?
def TgOk (F : Fm) (ow is : List Nat) (g : TG) (f : PV → En → Option En) : Prop := ∀ {σ : L2.St} {H : Hp} {e e' : En} {v : V} {p : PV}, ER F.S F.G ow σ H e → RV F.S H (Gd F.G ow σ) v p → f p e = some e' →
  ∀ Q : L2.St → Hp → Prop, (∀ σ', KeepS ow σ H ow σ' H → Stay F.io σ σ' → Off is σ σ' → ER F.S F.G ow σ' H e' → Q σ' H) → g v σ H Q
def tN (i : Nat) : PV → En → Option En := fun p e => some (e.set i (some p))
def tT (is : List Nat) : PV → En → Option En := fun p e => match p with
  | .tup l => setAll is l e
  | _ => none
theorem tg_name (i : Nat) (hi : i ∉ ow := by decide) (hio : i ∉ F.io := by first | decide | exact of_decide_eq_true rfl) : TgOk F ow [i] (gName i) (tN i) := fun R rv h Q q => by
  cases h
  exact q _ (KeepS.set hi) (Stay.set hio) ⟨List.length_set, fun j hj => List.getElem?_set_ne fun z => hj (by simp [z])⟩ (R.set hi rv)
theorem setAll_goO {S : Se} {G : Addr → Prop} {io : List Nat} : ∀ {is : List Nat} {ps : List PV} {vs : List V} {e e' : En} {σ : L2.St}, setAll is ps e = some e' → (∀ i ∈ is, i ∉ ow) → (∀ i ∈ is, i ∉ io) → RVs S H (Gd G ow σ) vs ps → ER S G ow σ H e →
    ∀ Q : L2.St → Hp → Prop, (∀ σ', KeepS ow σ H ow σ' H → Stay io σ σ' → Off is σ σ' → ER S G ow σ' H e' → Q σ' H) → gNms is vs σ H Q
  | [], [], vs, e, e', σ, h, _, _, r, R, Q, q => by
    cases h
    cases r
    exact ⟨rfl, q σ KeepS.refl Stay.refl ⟨rfl, fun _ _ => rfl⟩ R⟩
  | i :: is, p :: ps, vs, e, e', σ, h, h1, h2, r, R, Q, q => by
    cases r with
    | cons r t =>
      rename_i v vs
      refine ⟨v, vs, rfl, ?_⟩
      have ni := h1 i List.mem_cons_self
      have og : Gd G ow (σ.set i (some v)) = Gd G ow σ := by unfold Gd; rw [own_set ni]
      refine setAll_goO (is := is) (io := io) h (fun j hj => h1 j (List.mem_cons_of_mem _ hj)) (fun j hj => h2 j (List.mem_cons_of_mem _ hj)) (by rw [og]; exact t) (R.set ni r) Q fun σ' k s o R' => ?_
      refine q σ' ((KeepS.set ni).trans k) ((Stay.set (h2 i List.mem_cons_self)).trans s) ⟨by rw [o.1, List.length_set], fun j hj => ?_⟩ R'
      rw [o.2 j fun z => hj (List.mem_cons_of_mem _ z)]
      exact List.getElem?_set_ne fun z => hj (by simp [z])
  | [], _ :: _, _, _, _, _, h, _, _, _, _, _, _ => by cases h
  | _ :: _, [], _, _, _, _, h, _, _, _, _, _, _ => by cases h
theorem tg_tup (is : List Nat) {K : PySem.W.Frag} (hi : ∀ i ∈ is, i ∉ ow := by decide) (hio : ∀ i ∈ is, i ∉ F.io := by first | decide | exact of_decide_eq_true rfl) (hK : F.S.K = K := by rfl) : TgOk F ow is (gTup K is.length (gNms is)) (tT is) := fun {σ H e e' v p} R rv h Q q => by
  cases p with
  | tup l =>
    obtain ⟨a, vs, rfl, h3, t⟩ := rv.isT
    have h' : setAll is l e = some e' := h
    exact ⟨a, vs, rfl, hK ▸ h3, by rw [t.length, setAll_len h'], setAll_goO h' hi hio t R _ q⟩
  | _ => cases h

/-! ### for -/
def loopM (f : PV → En → Option En) (b : Ms) : List PV → Ms
  | [], e => .nxt e
  | p :: l, e => match f p e with
    | none => .bad
    | some e1 => match b e1 with
      | .nxt e2 => loopM f b l e2
      | .cnt e2 => loopM f b l e2
      | .brk e2 => .nxt e2
      | .ret q e2 => .ret q e2
      | .exc x e2 => .exc x e2
      | .bad => .bad
def mFor (mi : Mo (List PV)) (f : PV → En → Option En) (b : Ms) : Ms := fun e => SOut.of (mi e) fun l e1 => loopM f b l e1
theorem less_of (k : KeepS ow σ H ow1 σ1 H1) {G : Addr → Prop} : Less H (Gd G ow σ) (Gd G ow1 σ1) := fun a h g => by
  rcases g with g | g
  · exact .inl g
  · by_cases z : Own ow σ a
    · exact .inr z
    · obtain ⟨o, q, nt⟩ := h
      exact absurd g (k.kp a o q z nt).2
theorem pmt_for {is : List Nat} {tg iter : Expr} {body : List Stmt} {g : TG} {f : PV → En → Option En} {mi : Mo (List PV)} {b : Ms} {pos : Pos} (hp : PassesOwn (model X.prog X.w) X.A X.env X.xe) (hi : PI X tg iter (rdI F ow mi)) (hg : PG X tg g) (ht : TgOk F ow is g f) (hb : PSs X body (rdS F ow ow ow b)) (hc : X.calm = true := by rfl)
    (hs : ∀ x, foldedSetIterable iter X.env x = pure x := by intro _; rfl) : PS X (.For tg iter body [] pos) (rdS F ow ow ob (mFor mi f b)) :=
  (ps_for hp hc hi hg hb hs).imp fun D σ0 H0 ⟨e, R, p⟩ => by
    refine ⟨e, R, (Post.stmt p).mono fun l e1 H1 k1 R1 p1 J ⟨T, T0, Ts, Tg⟩ => ?_⟩
    refine ⟨fun i m σ H => m = l.length - i ∧ i ≤ l.length ∧ T H (Gd F.G ow σ) ∧ ∃ e, ER F.S F.G ow σ H e ∧ PostS F ow ow ob σ H D (loopM f b (l.drop i) e), ⟨l.length, by simp, Nat.zero_le _, T0, e1, R1, by simpa using p1⟩, ?_⟩
    rintro i m σ H ⟨rfl, hl, t, e2, R2, p2⟩
    obtain ⟨hgo, hstop⟩ := Tg i H _ R2.tracked t
    by_cases hlt : i < l.length
    · have hd : l.drop i = l[i] :: l.drop (i + 1) := List.drop_eq_getElem_cons hlt
      rw [hd] at p2
      obtain ⟨go, yld⟩ := hgo l[i] (by simp [hlt])
      refine .inr ⟨go, fun σ' H' => T H' (Gd F.G ow σ') ∧ ∃ e, ER F.S F.G ow σ' H' e ∧ PostS F ow ow ob σ' H' D (loopM f b (l.drop (i + 1)) e), fun σ' H' ⟨t', e', R', p'⟩ => ⟨l.length - (i + 1), by omega, rfl, hlt, t', e', R', p'⟩, fun x H' y => ?_⟩
      obtain ⟨kk, rx⟩ := yld x H' y
      have R3 := R2.keep kk
      have t3 := Ts _ _ _ _ t (Keep.all kk) (Less.refl (O := Gd F.G ow σ))
      cases hf : f l[i] e2 with
      | none => simp only [loopM, hf] at p2; exact p2.elim
      | some e3 =>
        simp only [loopM, hf] at p2
        refine ht R3 rx hf _ fun σ' ks st _ R4 => ⟨e3, R4, ?_⟩
        have ks0 : KeepS ow σ H ow σ' H' := (KeepS.of (Keep.all kk)).trans ks
        have t4 := Ts _ _ _ _ t3 (Keep.gd (G := F.G) ks.keep) (less_of ks)
        have again : ∀ {e5 : En}, PostS F ow ow ob σ H D (loopM f b (l.drop (i + 1)) e5) → ∀ σ5 H5, KeepS ow σ' H' ow σ5 H5 → Stay F.io σ' σ5 → ER F.S F.G ow σ5 H5 e5 → T H5 (Gd F.G ow σ5) ∧ ∃ e, ER F.S F.G ow σ5 H5 e ∧ PostS F ow ow ob σ5 H5 D (loopM f b (l.drop (i + 1)) e) := fun {e5} p5 σ5 H5 k5 s5 R5 =>
          ⟨Ts _ _ _ _ t4 (Keep.gd (G := F.G) k5.keep) (less_of k5), e5, R5, PostS.from p5 (ks0.trans k5) (st.trans s5)⟩
        cases hbd : b e3 with
        | nxt e5 => simp only [hbd] at p2; exact fun σ5 H5 k5 s5 R5 => again p2 σ5 H5 k5 s5 R5
        | cnt e5 => simp only [hbd] at p2; exact fun σ5 H5 k5 s5 R5 => again p2 σ5 H5 k5 s5 R5
        | brk e5 => simp only [hbd] at p2; exact fun σ5 H5 k5 s5 R5 => p2 σ5 H5 (ks0.trans k5) (st.trans s5) R5
        | ret q e5 => simp only [hbd] at p2; exact (PostS.from (ow' := ow) (ob := ob) (o := .ret q e5) p2 ks0 st : PostS F ow ow ob σ' H' D (.ret q e5))
        | exc q e5 => simp only [hbd] at p2; exact (PostS.from (ow' := ow) (ob := ob) (o := .exc q e5) p2 ks0 st : PostS F ow ow ob σ' H' D (.exc q e5))
        | bad => simp only [hbd] at p2; exact p2.elim
    · have hd : l.drop i = [] := List.drop_eq_nil_of_le (by omega)
      rw [hd] at p2
      exact .inl ⟨hstop (by omega), p2 σ H KeepS.refl Stay.refl R2⟩
/-! ### while -/
def wloop (c : Mo Bool) (b : Ms) : Nat → Ms
  | 0, _ => .bad
  | n + 1, e => SOut.of (c e) fun k e1 => if k = true then match b e1 with
      | .nxt e2 => wloop c b n e2
      | .cnt e2 => wloop c b n e2
      | .brk e2 => .nxt e2
      | .ret q e2 => .ret q e2
      | .exc x e2 => .exc x e2
      | .bad => .bad
    else .nxt e1
theorem pmt_while (n : Nat) {c : Expr} {body : List Stmt} {t : Mo Bool} {b : Ms} {pos : Pos} (hp : PassesOwn (model X.prog X.w) X.A X.env X.xe) (hc : PT X c (rdT F ow t)) (hb : PSs X body (rdS F ow ow ow b)) : PS X (.While c body [] pos) (rdS F ow ow ob (wloop t b n)) :=
  (ps_while hp hc hb).imp fun D σ0 H0 ⟨e, R, p⟩ => by
    refine ⟨fun m σ H => ∃ e, ER F.S F.G ow σ H e ∧ PostS F ow ow ob σ H D (wloop t b m e), ⟨n, e, R, p⟩, ?_⟩
    rintro m σ H ⟨e1, R1, p1⟩
    cases m with
    | zero => exact p1.elim
    | succ m =>
      refine ⟨e1, R1, (Post.stmt p1).mono fun k e2 H2 k2 R2 p2 => ?_⟩
      cases k with
      | false => exact p2 σ H2 KeepS.refl Stay.refl R2
      | true =>
        simp only [if_true] at p2 ⊢
        refine ⟨fun σ' H' => ∃ e, ER F.S F.G ow σ' H' e ∧ PostS F ow ow ob σ' H' D (wloop t b m e), fun σ' H' z => ⟨m, Nat.lt_succ_self _, z⟩, e2, R2, ?_⟩
        cases hbd : b e2 with
        | nxt e5 => simp only [hbd] at p2; exact fun σ5 H5 k5 s5 R5 => ⟨e5, R5, PostS.from p2 k5 s5⟩
        | cnt e5 => simp only [hbd] at p2; exact fun σ5 H5 k5 s5 R5 => ⟨e5, R5, PostS.from p2 k5 s5⟩
        | brk e5 => simp only [hbd] at p2; exact p2
        | ret q e5 => simp only [hbd] at p2; exact p2
        | exc q e5 => simp only [hbd] at p2; exact p2
        | bad => simp only [hbd] at p2; exact p2.elim
end
end M

namespace M
open PySem PySem.Spec PyProof.Rows L2

def wipeE (e : En) : List Nat → En
  | [] => e
  | v :: vs => (wipeE e vs).set v none
def restE (own : List Nat) (e e3 : En) : En := match own with
  | [] => e3
  | v :: vs => (restE vs e e3).set v (e[v]?.getD none)
def lcLoop (own : List Nat) (f : PV → En → Option En) (mt : Mo Bool) (me : Mo PV) : List PV → List PV → En → Out PV
  | [], acc, e => .ok (.lst acc) e
  | p :: l, acc, e => match f p (wipeE e own) with
    | none => .bad
    | some e1 => match mt e1 with
      | .ok true e2 => match me e2 with
        | .ok q e3 => if acc.length < sizeLine then lcLoop own f mt me l (acc ++ [q]) (restE own e e3) else .bad
        | _ => .bad
      | .ok false e2 => lcLoop own f mt me l acc (restE own e e2)
      | _ => .bad
def mLc (own : List Nat) (f : PV → En → Option En) (mt : Mo Bool) (me : Mo PV) (mi : Mo (List PV)) : Mo PV := fun e => (mi e).bind fun l e1 => lcLoop own f mt me l [] e1
def Fm.cmp (F : Fm) (z : Addr) : Fm := ⟨F.S, fun y => F.G y ∨ y = z, F.io, fun _ _ _ _ => False⟩
def mYes : Mo Bool := fun e => .ok true e

section
variable {X : Cx} {F : Fm} {ow ow' ow1 ow2 ob : List Nat} {σ σ1 σ2 : L2.St} {H H1 H2 : Hp}
theorem pmts_nil : PTs X [] (rdT F ow mYes) := ⟨fun pins s σ H Q I ⟨e, R, p⟩ => pts_nil.run pins s σ H Q I (p H Keep.refl R)⟩
theorem pmts_one {c : Expr} {t : Mo Bool} (h : PT X c (rdT F ow t)) : PTs X [c] (rdT F ow t) := pts_one h
theorem ER.unset {S : Se} {G : Addr → Prop} {e : En} (R : ER S G ow σ H e) {i : Nat} (hi : i ∉ ow) : ER S G ow (σ.set i none) H (e.set i none) := by
  have og := own_set (σ := σ) (v := none) hi
  have gg : Gd G ow (σ.set i none) = Gd G ow σ := by unfold Gd; rw [og]
  have ne : ∀ j, j ∈ ow → i ≠ j := fun j hj z => hi (z ▸ hj)
  refine ⟨fun j q h1 h2 => ?_, fun j q h1 h2 => ?_, fun j hj h1 a => ?_, fun j k a hj hk h1 h2 => ?_, fun j a hj h1 => ?_, R.gt, R.tb, by rw [List.length_set, List.length_set]; exact R.len⟩
  · rw [gg]
    by_cases z : i = j
    · subst z
      have hl : i < e.length := by
        have := (List.getElem?_eq_some_iff.mp h1).1
        rw [List.length_set] at this
        exact this
      rw [List.getElem?_set_self hl] at h1
      cases h1
    · rw [List.getElem?_set_ne z] at h1
      obtain ⟨w, h3, h4⟩ := R.val j q h1 h2
      exact ⟨w, by rw [List.getElem?_set_ne z]; exact h3, h4⟩
  · rw [gg]
    rw [List.getElem?_set_ne (ne j h2)] at h1
    obtain ⟨w, h3, h4⟩ := R.own j q h1 h2
    exact ⟨w, by rw [List.getElem?_set_ne (ne j h2)]; exact h3, h4⟩
  · rw [List.getElem?_set_ne (ne j hj)]
    exact R.off j hj (fun p z => h1 p (by rw [List.getElem?_set_ne (ne j hj)]; exact z)) a
  · rw [List.getElem?_set_ne (ne j hj)] at h1
    rw [List.getElem?_set_ne (ne k hk)] at h2
    exact R.sep j k a hj hk h1 h2
  · rw [List.getElem?_set_ne (ne j hj)] at h1
    exact R.ng j a hj h1
theorem ER.wipe {S : Se} {G : Addr → Prop} {e : En} (R : ER S G ow σ H e) : ∀ {own : List Nat}, (∀ i ∈ own, i ∉ ow) → ER S G ow (L2.wipe σ own) H (wipeE e own)
  | [], _ => R
  | v :: vs, h => (ER.wipe R fun i hi => h i (List.mem_cons_of_mem _ hi)).unset (h v List.mem_cons_self)
theorem wipeE_len {e : En} : ∀ {own : List Nat}, (wipeE e own).length = e.length
  | [] => rfl
  | v :: vs => by unfold wipeE; rw [List.length_set, wipeE_len]
theorem restE_len {e e3 : En} : ∀ {own : List Nat}, (restE own e e3).length = e3.length
  | [] => rfl
  | v :: vs => by unfold restE; rw [List.length_set, restE_len]
theorem restE_out {e e3 : En} {j : Nat} : ∀ {own : List Nat}, j ∉ own → (restE own e e3)[j]? = e3[j]?
  | [], _ => rfl
  | v :: vs, h => by
    unfold restE
    rw [List.getElem?_set_ne (show v ≠ j from fun z => h (z ▸ List.mem_cons_self))]
    exact restE_out fun z => h (List.mem_cons_of_mem _ z)
theorem restE_in {e e3 : En} {j : Nat} (hl : j < e3.length) : ∀ {own : List Nat}, j ∈ own → (restE own e e3)[j]? = some (e[j]?.getD none)
  | [], h => by cases h
  | v :: vs, h => by
    unfold restE
    by_cases z : v = j
    · subst z
      rw [List.getElem?_set_self (by rw [restE_len]; exact hl)]
    · rw [List.getElem?_set_ne z]
      exact restE_in hl ((List.mem_cons.mp h).elim (fun q => absurd q.symm z) id)
theorem ER.rest {S : Se} {G : Addr → Prop} {e e3 : En} {own : List Nat} (R : ER S G ow σ H e) (R2 : ER S G ow σ2 H2 e3) (k : Keep (Own ow σ) H H2) (hw : L2.wipe σ2 own = L2.wipe σ own) (h : ∀ i ∈ own, i ∉ ow) : ER S G ow σ H2 (restE own e e3) := by
  have same : ∀ j, j ∉ own → σ2[j]? = σ[j]? := fun j hj => by rw [← wipe_out (σ := σ2) hj, hw, wipe_out hj]
  have notown : ∀ j, j ∈ ow → j ∉ own := fun j hj z => h j z hj
  have oe : Own ow σ2 = Own ow σ := funext fun a => propext ⟨fun ⟨i, hi, z⟩ => ⟨i, hi, by rw [← same i (notown i hi)]; exact z⟩, fun ⟨i, hi, z⟩ => ⟨i, hi, by rw [same i (notown i hi)]; exact z⟩⟩
  have ge : Gd G ow σ2 = Gd G ow σ := by unfold Gd; rw [oe]
  have hlen : σ2.length = σ.length := by
    have := congrArg List.length hw
    rw [wipe_length, wipe_length] at this
    exact this
  refine ⟨fun j q h1 h2 => ?_, fun j q h1 h2 => ?_, fun j hj h1 a => ?_, R.sep, R.ng, R2.gt, R2.tb, by rw [restE_len, R2.len, hlen]⟩
  · by_cases z : j ∈ own
    · have hl : j < e3.length := by
        have := (List.getElem?_eq_some_iff.mp h1).1
        rw [restE_len] at this
        exact this
      rw [restE_in hl z] at h1
      cases h5 : e[j]? with
      | none => rw [h5] at h1; cases h1
      | some x =>
        rw [h5] at h1
        have h1' : x = some q := by simpa using h1
        subst h1'
        obtain ⟨v, h3, h4⟩ := R.val j q h5 h2
        exact ⟨v, h3, h4.mono k.gd Less.refl⟩
    · rw [restE_out z] at h1
      obtain ⟨v, h3, h4⟩ := R2.val j q h1 h2
      exact ⟨v, by rw [← same j z]; exact h3, by rw [← ge]; exact h4⟩
  · have z := notown j h2
    rw [restE_out z] at h1
    obtain ⟨v, h3, h4⟩ := R2.own j q h1 h2
    exact ⟨v, by rw [← same j z]; exact h3, by rw [← ge]; exact h4⟩
  · have z := notown j hj
    rw [← same j z]
    exact R2.off j hj (fun p q => h1 p (by rw [restE_out z]; exact q)) a
theorem ER.unext {S : Se} {G : Addr → Prop} {e : En} {D : Addr} (R : ER S (fun y => G y ∨ y = D) ow σ H e) : ER S G ow σ H e := by
  have q : Less H (Gd (fun y => G y ∨ y = D) ow σ) (Gd G ow σ) := fun a _ z => z.imp .inl id
  exact ⟨fun i p h1 h2 => let ⟨v, h3, h4⟩ := R.val i p h1 h2; ⟨v, h3, h4.mono Keep.refl q⟩, fun i p h1 h2 => let ⟨v, h3, h4⟩ := R.own i p h1 h2; ⟨v, h3, h4.mono Keep.refl q fun _ _ => rfl⟩, R.off, R.sep, fun i a hi h g => R.ng i a hi h (.inl g), fun a g => R.gt a (.inl g), R.tb, R.len⟩

theorem lc_core {wi : TI} {g : TG} {tt : TT} {te : TE} {is own : List Nat} {f : PV → En → Option En} {mt : Mo Bool} {me : Mo PV} {l : List PV} {e1 : En} {J : It} {D : Addr} {Q : VK} {pf : PV} {ef : En}
    (hJ : ItOk F.S J l H1 (Gd F.G ow σ)) (hD : H1 D = none) (R1 : ER F.S F.G ow σ H1 e1)
    (hg : ∀ z, TgOk (F.cmp z) ow is g f) (htt : ∀ z σ H Q, rdT (F.cmp z) ow mt σ H Q → tt σ H Q) (hte : ∀ z σ H Q, rd (F.cmp z) ow me σ H Q → te σ H Q) (ho : ∀ i ∈ own, i ∉ ow) (his : ∀ i ∈ is, i ∈ own)
    (hok : lcLoop own f mt me l [] e1 = .ok pf ef)
    (hfin : ∀ H acc vs, pf = .lst acc → Keep (Own ow σ) H1 H → ER F.S (F.cmp D).G ow σ H ef → H D = some (.lst vs) → RVs F.S H (Gd (F.cmp D).G ow σ) vs acc → Q (.ref D) H) :
    ∃ W : Nat → Nat → Hp → Prop, (∃ m, W 0 m (upd H1 D (.lst []))) ∧ ∀ (i m : Nat) (H : Hp), W i m H →
      (J.stop i H ∧ Q (.ref D) H) ∨ (J.go i H ∧ ∃ Nx : Hp → Prop, (∀ H', Nx H' → ∃ m', m' < m ∧ W (i + 1) m' H') ∧ ∀ x H', J.yld i H x H' →
        g x (L2.wipe σ own) H' fun σ2 H2 => L2.wipe σ2 own = L2.wipe σ own ∧ tt σ2 H2 fun b H3 => if b = true then te σ2 H3 fun y H4 => ∃ acc, H4 D = some (.lst acc) ∧ acc.length < sizeLine ∧ Nx (upd H4 D (.lst (acc ++ [y]))) else Nx H3) := by
  obtain ⟨T, T0, Ts, Tg⟩ := hJ
  have nOwn : ¬ Own ow σ D := fun z => (R1.ownT z).ne hD
  have lessD : Less H1 (Gd F.G ow σ) (Gd (F.cmp D).G ow σ) := fun a h z => by
    rcases z with (z | z) | z
    · exact .inl z
    · subst z; exact absurd hD h.ne
    · exact .inr z
  refine ⟨fun i m H => m = l.length - i ∧ i ≤ l.length ∧ T H (Gd (F.cmp D).G ow σ) ∧ ∃ e acc vs, ER F.S (F.cmp D).G ow σ H e ∧ H D = some (.lst vs) ∧ RVs F.S H (Gd (F.cmp D).G ow σ) vs acc ∧ Keep (Own ow σ) H1 H ∧ lcLoop own f mt me (l.drop i) acc e = .ok pf ef,
    ⟨l.length, by simp, Nat.zero_le _, Ts _ _ _ _ T0 (Keep.upd hD) lessD, e1, [], [], R1.ext hD, upd_same, .nil, Keep.upd hD, by simpa using hok⟩, ?_⟩
  rintro i m H ⟨rfl, hl, t, e2, acc, vs, R2, hv, ra, k2, p2⟩
  obtain ⟨hgo2, hstop⟩ := Tg i H _ R2.tracked t
  by_cases hlt : i < l.length
  · have hd : l.drop i = l[i] :: l.drop (i + 1) := List.drop_eq_getElem_cons hlt
    rw [hd] at p2
    obtain ⟨go, yld⟩ := hgo2 l[i] (by simp [hlt])
    refine .inr ⟨go, fun H' => T H' (Gd (F.cmp D).G ow σ) ∧ ∃ e acc vs, ER F.S (F.cmp D).G ow σ H' e ∧ H' D = some (.lst vs) ∧ RVs F.S H' (Gd (F.cmp D).G ow σ) vs acc ∧ Keep (Own ow σ) H1 H' ∧ lcLoop own f mt me (l.drop (i + 1)) acc e = .ok pf ef,
      fun H' ⟨t', z⟩ => ⟨l.length - (i + 1), by omega, rfl, hlt, t', z⟩, fun x H' y => ?_⟩
    obtain ⟨kk, rx⟩ := yld x H' y
    have R3 := R2.keep kk
    have Rw := R3.wipe ho
    have sameW : ∀ j, j ∈ ow → (L2.wipe σ own)[j]? = σ[j]? := fun j hj => wipe_out fun z => ho j z hj
    have ow_w : Own ow (L2.wipe σ own) = Own ow σ := funext fun a => propext ⟨fun ⟨i, hi, z⟩ => ⟨i, hi, by rw [← sameW i hi]; exact z⟩, fun ⟨i, hi, z⟩ => ⟨i, hi, by rw [sameW i hi]; exact z⟩⟩
    have gd_w : Gd (F.cmp D).G ow (L2.wipe σ own) = Gd (F.cmp D).G ow σ := by unfold Gd; rw [ow_w]
    cases hf : f l[i] (wipeE e2 own) with
    | none => simp only [lcLoop, hf] at p2; cases p2
    | some e3 =>
      simp only [lcLoop, hf] at p2
      refine hg D Rw (by rw [gd_w]; exact rx) hf _ fun σ' ks st off R4 => ?_
      have hw : L2.wipe σ' own = L2.wipe σ own := by
        have h1 : L2.wipe σ' own = L2.wipe (L2.wipe σ own) own := wipe_eq off.1 fun j hj => off.2 j fun z => hj (his j z)
        rw [h1]
        exact wipe_eq (wipe_length _ _) fun j hj => wipe_out hj
      have same : ∀ j, j ∉ own → σ'[j]? = σ[j]? := fun j hj => by rw [← wipe_out (σ := σ') hj, hw, wipe_out hj]
      have notown : ∀ j, j ∈ ow → j ∉ own := fun j hj z => ho j z hj
      have oe : Own ow σ' = Own ow σ := funext fun a => propext ⟨fun ⟨i, hi, z⟩ => ⟨i, hi, by rw [← same i (notown i hi)]; exact z⟩, fun ⟨i, hi, z⟩ => ⟨i, hi, by rw [same i (notown i hi)]; exact z⟩⟩
      have ge : Gd (F.cmp D).G ow σ' = Gd (F.cmp D).G ow σ := by unfold Gd; rw [oe]
      refine ⟨hw, htt D _ _ _ ⟨e3, R4, ?_⟩⟩
      have vk : ∀ {H5 : Hp}, Keep (Own ow σ) H' H5 → H5 D = some (.lst vs) := fun {H5} k => k.kp D _ (kk D _ hv) nOwn nt_lst
      have rak : ∀ {H5 : Hp}, Keep (Own ow σ) H' H5 → RVs F.S H5 (Gd (F.cmp D).G ow σ) vs acc := fun {H5} k => (ra.mono (Keep.all kk) Less.refl).mono k.gd Less.refl
      have tk : ∀ {H5 : Hp}, Keep (Own ow σ) H' H5 → T H5 (Gd (F.cmp D).G ow σ) := fun {H5} k => Ts _ _ _ _ (Ts _ _ _ _ t (Keep.all kk) Less.refl) k.gd Less.refl
      have k2k : ∀ {H5 : Hp}, Keep (Own ow σ) H' H5 → Keep (Own ow σ) H1 H5 := fun {H5} k => (k2.trans (Keep.all kk)).trans k
      cases hmt : mt e3 with
      | bad => simp only [hmt] at p2; cases p2
      | exc x e4 => simp only [hmt] at p2; cases p2
      | ok b e4 =>
        intro H3 k3 R5
        rw [oe] at k3
        cases b with
        | false =>
          simp only [hmt] at p2
          rw [if_neg (by decide)]
          exact ⟨tk k3, _, acc, vs, ER.rest R3 R5 k3 hw ho, vk k3, rak k3, k2k k3, p2⟩
        | true =>
          simp only [hmt] at p2
          rw [if_pos rfl]
          refine hte D _ _ _ ⟨e4, R5, ?_⟩
          cases hme : me e4 with
          | bad => simp only [hme] at p2; cases p2
          | exc x e5 => simp only [hme] at p2; cases p2
          | ok q e5 =>
            simp only [hme] at p2
            intro H4 k4 R6 y ry
            rw [oe] at k4
            rw [ge] at ry
            split at p2
            · rename_i hsz
              have k34 := k3.trans k4
              refine ⟨vs, vk k34, by rw [(rak k34).length]; exact hsz, ?_⟩
              have kD : Keep (Gd (F.cmp D).G ow σ) H4 (upd H4 D (.lst (vs ++ [y]))) := Keep.own (vk k34) (.inl (.inr rfl))
              have kU : Keep (Own ow σ) H1 (upd H4 D (.lst (vs ++ [y]))) := ⟨fun z u e n nt => by
                have hz : z ≠ D := fun q => by subst q; rw [e] at hD; cases hD
                rw [upd_ne hz]; exact (k2k k34).kp z u e n nt⟩
              have R7 := ER.rest R3 R6 k34 hw ho
              refine ⟨Ts _ _ _ _ (tk k34) kD Less.refl, _, acc ++ [q], vs ++ [y], ?_, upd_same, ((rak k34).append (.cons ry .nil)).mono kD Less.refl, kU, p2⟩
              refine ⟨fun j p h1 h2 => ?_, fun j p h1 h2 => ?_, R7.off, R7.sep, R7.ng, fun a g => ?_, fun p hp => tab_own (vk k34) nt_lst (fun _ z => by cases z) (R7.tb p hp), R7.len⟩
              · obtain ⟨v, h3, h4⟩ := R7.val j p h1 h2
                exact ⟨v, h3, h4.mono kD Less.refl⟩
              · obtain ⟨v, h3, h4⟩ := R7.own j p h1 h2
                refine ⟨v, h3, h4.mono kD Less.refl fun a z => ?_⟩
                subst z
                exact upd_ne fun q => nOwn (q ▸ ⟨j, h2, h3⟩)
              · by_cases z : a = D
                · subst z; exact ⟨_, upd_same, nt_lst⟩
                · obtain ⟨w, q1, q2⟩ := R7.gt a g
                  exact ⟨w, by rw [upd_ne z]; exact q1, q2⟩
            · cases p2
  · have hd : l.drop i = [] := List.drop_eq_nil_of_le (by omega)
    rw [hd] at p2
    simp only [lcLoop] at p2
    cases p2
    exact .inl ⟨hstop (by omega), hfin H acc vs rfl k2 R2 hv ra⟩
theorem lcLoop_noexc {own : List Nat} {f : PV → En → Option En} {mt : Mo Bool} {me : Mo PV} : ∀ {l acc : List PV} {e e' : En} {x : Ex}, lcLoop own f mt me l acc e ≠ .exc x e'
  | [], acc, e, e', x => by simp [lcLoop]
  | p :: l, acc, e, e', x => by
    unfold lcLoop
    split
    · simp
    · split
      · split
        · split
          · exact lcLoop_noexc
          · simp
        · simp
      · exact lcLoop_noexc
      · simp
theorem lc_go {wi : TI} {g : TG} {tt : TT} {te : TE} {is own : List Nat} {f : PV → En → Option En} {mt : Mo Bool} {me : Mo PV} {mi : Mo (List PV)} {σ : L2.St} {H : Hp} {Q : VK}
    (hg : ∀ z, TgOk (F.cmp z) ow is g f) (htt : ∀ z σ H Q, rdT (F.cmp z) ow mt σ H Q → tt σ H Q) (hte : ∀ z σ H Q, rd (F.cmp z) ow me σ H Q → te σ H Q) (ho : ∀ i ∈ own, i ∉ ow) (his : ∀ i ∈ is, i ∈ own)
    (h : rd F ow (mLc own f mt me mi) σ H Q) : tLc (rdI F ow mi) g tt te own σ H Q := by
  obtain ⟨e, R, p⟩ := h
  refine ⟨e, R, (Post.unbind p).mono fun l e1 H1 k1 R1 p1 J hJ D hD => ?_⟩
  cases hok : lcLoop own f mt me l [] e1 with
  | bad => rw [hok] at p1; exact p1.elim
  | exc x e2 => exact absurd hok lcLoop_noexc
  | ok pf ef =>
    rw [hok] at p1
    refine lc_core (wi := wi) (e1 := e1) (is := is) (f := f) hJ hD R1 hg htt hte ho his hok fun H2 acc vs e3 k2 R2 hv ra => ?_
    subst e3
    have nG : ¬ Gd F.G ow σ D := fun z => (R1.tracked D z).ne hD
    exact p1 H2 k2 R2.unext _ (.lst nG hv (ra.mono Keep.refl fun a _ z => z.imp .inl id))
theorem lcF_go {wi : TI} {g : TG} {tt : TT} {te : TE} {is own : List Nat} {f : PV → En → Option En} {mt : Mo Bool} {me : Mo PV} {mi : Mo (List PV)} {σ : L2.St} {H : Hp} {Q : VK}
    (hg : ∀ z, TgOk (F.cmp z) ow is g f) (htt : ∀ z σ H Q, rdT (F.cmp z) ow mt σ H Q → tt σ H Q) (hte : ∀ z σ H Q, rd (F.cmp z) ow me σ H Q → te σ H Q) (ho : ∀ i ∈ own, i ∉ ow) (his : ∀ i ∈ is, i ∈ own)
    (h : rdF F ow (mLc own f mt me mi) σ H Q) : tLc (rdI F ow mi) g tt te own σ H Q := by
  obtain ⟨e, R, p⟩ := h
  refine ⟨e, R, ?_⟩
  unfold mLc at p
  cases q : mi e with
  | bad => simp only [q, Out.bind] at p
  | exc x e1 => simp only [q, Out.bind] at p; exact p
  | ok l e1 =>
    simp only [q, Out.bind] at p
    intro H1 k1 R1 J hJ D hD
    cases hok : lcLoop own f mt me l [] e1 with
    | bad => rw [hok] at p; exact p.elim
    | exc x e2 => exact absurd hok lcLoop_noexc
    | ok pf ef =>
      rw [hok] at p
      refine lc_core (wi := wi) (e1 := e1) (is := is) (f := f) hJ hD R1 hg htt hte ho his hok fun H2 acc vs e3 k2 R2 hv ra => ?_
      subst e3
      exact p D H2 (fresh_of R k1 R1 (no_hd hD)) (k1.trans k2) R2 ⟨D, vs, rfl, hv, ra⟩
/-- the block's expressions, whatever stands guarded -/
theorem pe_all {e : Expr} {m : Mo PV} (h : ∀ z, PE X e (rd (F.cmp z) ow m)) : PE X e fun σ H Q => ∃ z, rd (F.cmp z) ow m σ H Q := ⟨fun pins s σ H Q I ⟨z, q⟩ => (h z).run pins s σ H Q I q⟩
theorem pts_all {es : List Expr} {m : Mo Bool} (h : ∀ z, PTs X es (rdT (F.cmp z) ow m)) : PTs X es fun σ H Q => ∃ z, rdT (F.cmp z) ow m σ H Q := ⟨fun pins s σ H Q I ⟨z, q⟩ => (h z).run pins s σ H Q I q⟩
theorem pm_lc {elt tg iter : Expr} {ifs : List Expr} {scope : Scope} {own : List (Str × Nat)} {pos : Pos} {g : TG} {is : List Nat} {f : PV → En → Option En} {mt : Mo Bool} {me : Mo PV} {mi : Mo (List PV)}
    (hN : X.N.Nodup) (hi : PI X tg iter (rdI F ow mi)) (hb : BlkOk X.N X.env.scope scope own) (hpg : ∀ (s : Shared) (H : Hp) (C : Addr) (cl : List (Str × Addr)) (fp : List Addr), PG (X.blk s H scope (compEnvC scope cl C X.env) fp) tg g)
    (hpt : ∀ (s : Shared) (H : Hp) (C : Addr) (cl : List (Str × Addr)) (fp : List Addr) z, PTs (X.blk s H scope (compEnvC scope cl C X.env) fp) ifs (rdT (F.cmp z) ow mt))
    (hpe : ∀ (s : Shared) (H : Hp) (C : Addr) (cl : List (Str × Addr)) (fp : List Addr) z, PE (X.blk s H scope (compEnvC scope cl C X.env) fp) elt (rd (F.cmp z) ow me))
    (hg : ∀ z, TgOk (F.cmp z) ow is g f) (ho : ∀ i ∈ own.map (·.2), i ∉ ow := by decide) (his : ∀ i ∈ is, i ∈ own.map (·.2) := by decide) (hc : X.calm = true := by rfl) (hs : ∀ x, foldedSetIterable iter X.env x = pure x := by intro _; rfl) :
    PE X (.ListComp elt [{ target := tg, iter := iter, ifs := ifs, is_async := 0 }] scope pos) (rd F ow (mLc (own.map (·.2)) f mt me mi)) :=
  (pe_lc hc hN hi hb hpg (fun s H C cl fp => pts_all (hpt s H C cl fp)) (fun s H C cl fp => pe_all (hpe s H C cl fp)) hs).imp fun σ H Q h => lc_go (wi := rdI F ow mi) hg (fun z _ _ _ q => ⟨z, q⟩) (fun z _ _ _ q => ⟨z, q⟩) ho his h
theorem pmf_lc {elt tg iter : Expr} {ifs : List Expr} {scope : Scope} {own : List (Str × Nat)} {pos : Pos} {g : TG} {is : List Nat} {f : PV → En → Option En} {mt : Mo Bool} {me : Mo PV} {mi : Mo (List PV)}
    (hN : X.N.Nodup) (hi : PI X tg iter (rdI F ow mi)) (hb : BlkOk X.N X.env.scope scope own) (hpg : ∀ (s : Shared) (H : Hp) (C : Addr) (cl : List (Str × Addr)) (fp : List Addr), PG (X.blk s H scope (compEnvC scope cl C X.env) fp) tg g)
    (hpt : ∀ (s : Shared) (H : Hp) (C : Addr) (cl : List (Str × Addr)) (fp : List Addr) z, PTs (X.blk s H scope (compEnvC scope cl C X.env) fp) ifs (rdT (F.cmp z) ow mt))
    (hpe : ∀ (s : Shared) (H : Hp) (C : Addr) (cl : List (Str × Addr)) (fp : List Addr) z, PE (X.blk s H scope (compEnvC scope cl C X.env) fp) elt (rd (F.cmp z) ow me))
    (hg : ∀ z, TgOk (F.cmp z) ow is g f) (ho : ∀ i ∈ own.map (·.2), i ∉ ow := by decide) (his : ∀ i ∈ is, i ∈ own.map (·.2) := by decide) (hc : X.calm = true := by rfl) (hs : ∀ x, foldedSetIterable iter X.env x = pure x := by intro _; rfl) :
    PE X (.ListComp elt [{ target := tg, iter := iter, ifs := ifs, is_async := 0 }] scope pos) (rdF F ow (mLc (own.map (·.2)) f mt me mi)) :=
  (pe_lc hc hN hi hb hpg (fun s H C cl fp => pts_all (hpt s H C cl fp)) (fun s H C cl fp => pe_all (hpe s H C cl fp)) hs).imp fun σ H Q h => lcF_go (wi := rdI F ow mi) hg (fun z _ _ _ q => ⟨z, q⟩) (fun z _ _ _ q => ⟨z, q⟩) ho his h
/-- y = [.. for ..] -/
theorem pmt_setLc (i : Nat) {y : Str} {py : Pos} {elt tg iter : Expr} {ifs : List Expr} {scope : Scope} {own : List (Str × Nat)} {pos spos : Pos} {g : TG} {is : List Nat} {f : PV → En → Option En} {mt : Mo Bool} {me : Mo PV} {mi : Mo (List PV)}
    (hN : X.N.Nodup) (hI : PI X tg iter (rdI F ow mi)) (hb : BlkOk X.N X.env.scope scope own) (hpg : ∀ (s : Shared) (H : Hp) (C : Addr) (cl : List (Str × Addr)) (fp : List Addr), PG (X.blk s H scope (compEnvC scope cl C X.env) fp) tg g)
    (hpt : ∀ (s : Shared) (H : Hp) (C : Addr) (cl : List (Str × Addr)) (fp : List Addr) z, PTs (X.blk s H scope (compEnvC scope cl C X.env) fp) ifs (rdT (F.cmp z) ow mt))
    (hpe : ∀ (s : Shared) (H : Hp) (C : Addr) (cl : List (Str × Addr)) (fp : List Addr) z, PE (X.blk s H scope (compEnvC scope cl C X.env) fp) elt (rd (F.cmp z) ow me))
    (hg : ∀ z, TgOk (F.cmp z) ow is g f) (hsw : swapsWith (.ListComp elt [{ target := tg, iter := iter, ifs := ifs, is_async := 0 }] scope pos) (some (.Name y py)) spos.line X.env = pure true)
    (hi : i ∉ ow := by decide) (hio : i ∉ F.io := by first | decide | exact of_decide_eq_true rfl) (hx : X.N[i]? = some y := by rfl) (hl : X.env.scope.names.lookup y = some .local := by rfl)
    (ho : ∀ i ∈ own.map (·.2), i ∉ ow := by decide) (his : ∀ i ∈ is, i ∈ own.map (·.2) := by decide) (hc : X.calm = true := by rfl) (hs : ∀ x, foldedSetIterable iter X.env x = pure x := by intro _; rfl) :
    PS X (.Assign [.Name y py] (.ListComp elt [{ target := tg, iter := iter, ifs := ifs, is_async := 0 }] scope pos) spos) (rdS F ow ow ob (mSet i (mLc (own.map (·.2)) f mt me mi))) :=
  (ps_setLc hc hN hx hl hsw hI hb hpg (fun s H C cl fp => pts_all (hpt s H C cl fp)) (fun s H C cl fp => pe_all (hpe s H C cl fp)) hs).imp fun D σ H ⟨e, R, p⟩ =>
    lc_go (wi := rdI F ow mi) hg (fun z _ _ _ q => ⟨z, q⟩) (fun z _ _ _ q => ⟨z, q⟩) ho his ⟨e, R, (Post.stmt p).mono fun a e1 H1 k1 R1 p1 v rv => p1 _ H1 (KeepS.set hi) (Stay.set hio) (R1.set hi rv)⟩
theorem pmt_setLcO (i : Nat) {y : Str} {py : Pos} {elt tg iter : Expr} {ifs : List Expr} {scope : Scope} {own : List (Str × Nat)} {pos spos : Pos} {g : TG} {is : List Nat} {f : PV → En → Option En} {mt : Mo Bool} {me : Mo PV} {mi : Mo (List PV)}
    (hN : X.N.Nodup) (hI : PI X tg iter (rdI F ow mi)) (hb : BlkOk X.N X.env.scope scope own) (hpg : ∀ (s : Shared) (H : Hp) (C : Addr) (cl : List (Str × Addr)) (fp : List Addr), PG (X.blk s H scope (compEnvC scope cl C X.env) fp) tg g)
    (hpt : ∀ (s : Shared) (H : Hp) (C : Addr) (cl : List (Str × Addr)) (fp : List Addr) z, PTs (X.blk s H scope (compEnvC scope cl C X.env) fp) ifs (rdT (F.cmp z) ow mt))
    (hpe : ∀ (s : Shared) (H : Hp) (C : Addr) (cl : List (Str × Addr)) (fp : List Addr) z, PE (X.blk s H scope (compEnvC scope cl C X.env) fp) elt (rd (F.cmp z) ow me))
    (hg : ∀ z, TgOk (F.cmp z) ow is g f) (hsw : swapsWith (.ListComp elt [{ target := tg, iter := iter, ifs := ifs, is_async := 0 }] scope pos) (some (.Name y py)) spos.line X.env = pure true)
    (h1 : ∀ j ∈ ow', j = i ∨ j ∈ ow := by decide) (h2 : ∀ j ∈ ow, j ∈ ow' := by decide) (h3 : i ∈ ow' := by decide) (hio : i ∉ F.io := by first | decide | exact of_decide_eq_true rfl) (hx : X.N[i]? = some y := by rfl) (hl : X.env.scope.names.lookup y = some .local := by rfl)
    (ho : ∀ i ∈ own.map (·.2), i ∉ ow := by decide) (his : ∀ i ∈ is, i ∈ own.map (·.2) := by decide) (hc : X.calm = true := by rfl) (hs : ∀ x, foldedSetIterable iter X.env x = pure x := by intro _; rfl) :
    PS X (.Assign [.Name y py] (.ListComp elt [{ target := tg, iter := iter, ifs := ifs, is_async := 0 }] scope pos) spos) (rdS F ow ow' ob (mSetO i (mLc (own.map (·.2)) f mt me mi))) :=
  (ps_setLc hc hN hx hl hsw hI hb hpg (fun s H C cl fp => pts_all (hpt s H C cl fp)) (fun s H C cl fp => pe_all (hpe s H C cl fp)) hs).imp fun D σ H ⟨e, R, p⟩ => by
    refine lcF_go (wi := rdI F ow mi) hg (fun z _ _ _ q => ⟨z, q⟩) (fun z _ _ _ q => ⟨z, q⟩) ho his ⟨e, R, ?_⟩
    unfold mSetO at p
    cases q : mLc (own.map (·.2)) f mt me mi e with
    | bad => simp only [q, SOut.of] at p; exact p.elim
    | exc x e1 => simp only [q, SOut.of] at p; exact fun H1 c d k R1 x1 => p σ ow H1 c d (KeepS.of k) Stay.refl R1 x1
    | ok pv e1 =>
      simp only [q, SOut.of] at p
      intro a H1 hn k R1 ra
      split at p
      · rename_i hle
        have hl : i < σ.length := by rw [← R1.len]; exact hle
        have h0 : ∀ z, F.G z → z ≠ a := fun z g e1 => by subst e1; exact hn (R.gt z g)
        exact p _ H1 (KeepS.setO k hn h1 hl) (Stay.set hio) (R1.setO h0 ra h1 h2 h3 hl)
      · exact p.elim

/-! ### a def, by its body -/
def startE (L : Nat) (ps : List PV) : En := ps.map some ++ List.replicate (L - ps.length) none
/-- nothing is raised -/
def runN (L : Nat) (ms : Ms) (ps : List PV) : Out PV := match ms (startE L ps) with
  | .nxt e => .ok .non e
  | .ret p e => .ok p e
  | _ => .bad
theorem start_get {N : List Str} {vs : List V} {k : Nat} {v : V} (h : (L2.start N vs)[k]? = some (some v)) : vs[k]? = some v := by
  unfold L2.start at h
  by_cases q : k < vs.length
  · rw [List.getElem?_append_left (by rw [List.length_map]; exact q), List.getElem?_map] at h
    cases z : vs[k]? with
    | none => rw [z] at h; cases h
    | some x => rw [z] at h; simp at h; rw [h]
  · rw [List.getElem?_append_right (by rw [List.length_map]; omega)] at h
    have := List.mem_of_getElem? h
    rw [List.mem_replicate] at this
    cases this.2
theorem start_of {N : List Str} {vs : List V} {k : Nat} {v : V} (h : vs[k]? = some v) : (L2.start N vs)[k]? = some (some v) := by
  unfold L2.start
  have q := (List.getElem?_eq_some_iff.mp h).1
  rw [List.getElem?_append_left (by rw [List.length_map]; exact q), List.getElem?_map, h]
  rfl
theorem startE_get {L : Nat} {ps : List PV} {k : Nat} {p : PV} (h : (startE L ps)[k]? = some (some p)) : ps[k]? = some p := by
  unfold startE at h
  by_cases q : k < ps.length
  · rw [List.getElem?_append_left (by rw [List.length_map]; exact q), List.getElem?_map] at h
    cases z : ps[k]? with
    | none => rw [z] at h; cases h
    | some x => rw [z] at h; simp at h; rw [h]
  · rw [List.getElem?_append_right (by rw [List.length_map]; omega)] at h
    have := List.mem_of_getElem? h
    rw [List.mem_replicate] at this
    cases this.2
theorem startE_of {L : Nat} {ps : List PV} {k : Nat} {p : PV} (h : ps[k]? = some p) : (startE L ps)[k]? = some (some p) := by
  unfold startE
  have q := (List.getElem?_eq_some_iff.mp h).1
  rw [List.getElem?_append_left (by rw [List.length_map]; exact q), List.getElem?_map, h]
  rfl
end
/-- the entry of a def -/
theorem er_start {S : Se} {N : List Str} {n : Nat} {io : List Nat} {O : Addr → Prop} {vs : List V} {ps : List PV} {H : Hp} (hv : vs.length = n) (hp : ps.length = n) (hN : n ≤ N.length) (pre : Pre H O) (htb : ∀ p ∈ S.T, LamX.TabS H p.1 p.2)
    (h1 : ∀ k p, ps[k]? = some p → k ∉ io → ∃ v, vs[k]? = some v ∧ RV S H O v p) (h2 : ∀ k p, ps[k]? = some p → k ∈ io → ∃ a, vs[k]? = some (.ref a) ∧ O a ∧ At S H O (.ref a) p)
    (h3 : ∀ k k' a, k ∈ io → k' ∈ io → vs[k]? = some (.ref a) → vs[k']? = some (.ref a) → k = k') :
    ER S (fun a => O a ∧ ∀ k, k ∈ io → vs[k]? ≠ some (.ref a)) io (L2.start N vs) H (startE N.length ps) := by
  have less : Less H O (Gd (fun a => O a ∧ ∀ k, k ∈ io → vs[k]? ≠ some (.ref a)) io (L2.start N vs)) := fun a _ g => by
    rcases g with g | ⟨i, hi, e⟩
    · exact g.1
    · have e1 := start_get e
      have hl := (List.getElem?_eq_some_iff.mp e1).1
      have : ps[i]? = some (ps[i]'(by omega)) := List.getElem?_eq_getElem _
      obtain ⟨b, e2, ob, _⟩ := h2 i _ this hi
      rw [e1] at e2; cases e2
      exact ob
  refine ⟨fun i p e hi => ?_, fun i p e hi => ?_, fun i hi q a e => ?_, fun i j a hi hj e e' => h3 i j a hi hj (start_get e) (start_get e'), fun i a hi e g => g.2 i hi (start_get e), fun a g => pre a g.1, htb, ?_⟩
  · obtain ⟨v, e1, r⟩ := h1 i p (startE_get e) hi
    exact ⟨v, start_of e1, r.mono Keep.refl less⟩
  · obtain ⟨a, e1, oa, r⟩ := h2 i p (startE_get e) hi
    exact ⟨.ref a, start_of e1, r.mono Keep.refl less fun _ _ => rfl⟩
  · have e1 := start_get e
    have hl := (List.getElem?_eq_some_iff.mp e1).1
    exact q (ps[i]'(by omega)) (startE_of (List.getElem?_eq_getElem _))
  · unfold startE L2.start
    simp [hv, hp]
theorem fnN {P : Program} {w : World} {K : PySem.W.Frag} {mg : Str → Option Value} {T : List (Addr × Str)} {base : Heap} {x qual : Str} {params : Arguments} {body : List Stmt} {scope : Scope} {f : Addr} {fd : FuncData} {N ps : List Str} {k n : Nat} {io oz : List Nat} {ms : Ms}
    (Fd : FunD K x qual params body scope [] [] f fd) (sc : FnScope N ps scope)
    (hb : ∀ (G : Addr → Prop) (cdv : Value) (A : Around) (outer : List Env) (s : Shared) (H : Hp) (E : XK), Room k (A.deeper (PyProof.Rows.envOfC qual scope s.heap.objs.size f cdv)) → PSs (cxOf CX0 P w K mg base N qual scope f cdv A outer s H E).nox body (rdS ⟨⟨K, mg, T⟩, G, io, fun _ _ _ _ => False⟩ io oz [] ms))
    (hn : ps.length = n := by rfl) (hN : n ≤ N.length := by decide) (hoz : ∀ i ∈ io, i ∈ oz := by decide) : FnOk P w K mg base CX0 (k + 1) f fd ps (spM ⟨K, mg, T⟩ n io (runN N.length ms)) := by
  refine Fd.ok sc (fun vs H Q E h => ?_) (fun cdv A outer s H vs Q E hr h => ?_)
  · obtain ⟨O, ps', hv, _⟩ := h
    rw [hv, hn]
  · obtain ⟨O, pv, hv, hp, pre, htb, h1, h2, h3, h4⟩ := h
    refine ⟨_, PSs.nox (hb (fun a => O a ∧ ∀ k, k ∈ io → vs[k]? ≠ some (.ref a)) cdv A outer s H E hr), startE N.length pv, er_start hv hp hN pre htb h1 h2 h3, ?_⟩
    have ioO : ∀ a, O a → Gd (fun a => O a ∧ ∀ k, k ∈ io → vs[k]? ≠ some (.ref a)) io (L2.start N vs) a := fun a oa => by
      by_cases q : ∃ k, k ∈ io ∧ vs[k]? = some (.ref a)
      · obtain ⟨k, hk, e⟩ := q
        exact .inr ⟨k, hk, start_of e⟩
      · exact .inl ⟨oa, fun k hk e => q ⟨k, hk, e⟩⟩
    have nown : ∀ a, (¬ ∃ k, k ∈ io ∧ vs[k]? = some (.ref a)) → ¬ Own io (L2.start N vs) a := fun a q ⟨i, hi, e⟩ => q ⟨i, hi, start_get e⟩
    unfold runN at h4
    cases q : ms (startE N.length pv) with
    | nxt e =>
      simp only [q] at h4
      intro σ' H' ks st R
      refine h4 .non H' ⟨fun a o e1 n nt => (ks.kp a o e1 (nown a n) nt).1⟩ R.tb .non fun k p' hk he => ?_
      obtain ⟨v, e1, r⟩ := R.own k p' he (hoz k hk)
      refine ⟨v, start_get (by rw [← st k hk]; exact e1), r.mono Keep.refl (fun a _ oa => ?_) fun _ _ => rfl⟩
      rcases ioO a oa with g | ⟨i, hi, z⟩
      · exact .inl g
      · exact .inr ⟨i, hoz i hi, (st i hi).trans z⟩
    | ret p e =>
      simp only [q] at h4
      intro v H' kk tbs ioat rv
      refine h4 v H' ⟨fun a o e1 n nt => kk.kp a o e1 (nown a n) nt⟩ tbs (rv.mono Keep.refl fun a _ oa => ioO a oa) fun k p' hk he => ?_
      obtain ⟨v, e1, r⟩ := ioat k p' hk he
      exact ⟨v, start_get e1, r.mono Keep.refl (fun a _ oa => ioO a oa) fun _ _ => rfl⟩
    | brk e => simp only [q] at h4
    | cnt e => simp only [q] at h4
    | exc z e => simp only [q] at h4
    | bad => simp only [q] at h4
end M

namespace M
open PySem PySem.Spec PyProof.Rows L2

/-! ### defs that hand back a list of their own making -/
section
variable {X : Cx} {F : Fm} {ow ow' ow1 ow2 ob : List Nat} {σ σ1 σ2 : L2.St} {H H1 H2 : Hp}
abbrev KeepA (H H' : Hp) : Prop := Keep (fun _ => False) H H'
theorem Keep.of_all {O : Addr → Prop} (k : KeepA H H1) : Keep O H H1 := ⟨fun a o e _ nt => k.kp a o e id nt⟩
theorem ER.ext' {S : Se} {G : Addr → Prop} {e : En} (R : ER S G ow σ H e) {p : Addr} (hn : ¬ Hd H p) (k : KeepA H H1) (htb : ∀ p ∈ S.T, LamX.TabS H1 p.1 p.2) (hs : Hd H1 p) : ER S (fun z => G z ∨ z = p) ow σ H1 e := by
  have q : Less H (Gd G ow σ) (Gd (fun z => G z ∨ z = p) ow σ) := fun a h z => by
    rcases z with (z | z) | z
    · exact .inl z
    · subst z; exact absurd h hn
    · exact .inr z
  have same : ∀ a, Hd H a → H1 a = H a := fun a ⟨o, z, nt⟩ => by rw [z]; exact k.kp a o z id nt
  refine ⟨fun i p1 h1 h2 => ?_, fun i p1 h1 h2 => ?_, R.off, R.sep, fun i a hi h z => ?_, fun a g => ?_, htb, R.len⟩
  · obtain ⟨v, h3, h4⟩ := R.val i p1 h1 h2
    exact ⟨v, h3, h4.mono k.of_all q⟩
  · obtain ⟨v, h3, h4⟩ := R.own i p1 h1 h2
    refine ⟨v, h3, h4.mono k.of_all q fun a z => ?_⟩
    subst z
    obtain ⟨b, e3, e4⟩ := h4.ref
    cases e3
    exact same _ e4
  · rcases z with z | z
    · exact R.ng i a hi h z
    · subst z; exact hn (R.ownT ⟨i, hi, h⟩)
  · rcases g with g | g
    · obtain ⟨o, q1, q2⟩ := R.gt a g
      exact ⟨o, k.kp a o q1 id q2, q2⟩
    · subst g; exact hs
def spMF (S : Se) (n : Nat) (mf : List PV → Out PV) : Sp := fun vs H Q E => ∃ (O : Addr → Prop) (ps : List PV), vs.length = n ∧ ps.length = n ∧ Pre H O ∧ (∀ p ∈ S.T, LamX.TabS H p.1 p.2) ∧
  (∀ (k : Nat) (p : PV), ps[k]? = some p → ∃ v, vs[k]? = some v ∧ RV S H O v p) ∧
  match mf ps with
  | .ok p f => ∀ a H', ¬ Hd H a → KeepA H H' → LamX.Tabs S.T H' → At S H' (fun z => O z ∨ z = a) (.ref a) p → Q (.ref a) H'
  | _ => False
theorem own_nil {a : Addr} : ¬ Own [] σ a := fun ⟨i, hi, _⟩ => by cases hi
def rdSF (F : Fm) (m : Ms) : TS := fun D σ H => ∃ e, ER F.S F.G [] σ H e ∧ match m e with
  | .ret p e1 => ∀ a H', ¬ Hd H a → KeepA H H' → LamX.Tabs F.S.T H' → At F.S H' (fun z => F.G z ∨ z = a) (.ref a) p → D.rt (.ref a) H'
  | _ => False
def mSeqN (a b : Ms) : Ms := fun e => match a e with
  | .nxt e1 => b e1
  | _ => .bad
theorem pmsF_cons {st : Stmt} {rest : List Stmt} {a b : Ms} (h1 : PS X st (rdS F [] [] [] a)) (h2 : PSs X rest (rdSF F b)) : PSs X (st :: rest) (rdSF F (mSeqN a b)) :=
  (pss_cons h1 h2).imp fun D σ H ⟨e, R, p⟩ => by
    refine ⟨e, R, ?_⟩
    unfold mSeqN at p
    cases q : a e with
    | nxt e1 =>
      simp only [q] at p
      refine fun σ1 H1 k st R1 => ⟨e1, R1, ?_⟩
      cases q2 : b e1 with
      | ret p2 e2 =>
        simp only [q2] at p
        intro z H' hn k2 tbs ra
        exact p z H' (fun ⟨o, q3, nt⟩ => hn ⟨o, (k.kp z o q3 own_nil nt).1, nt⟩) ⟨fun y o e3 _ nt => k2.kp y o (k.kp y o e3 own_nil nt).1 id nt⟩ tbs ra
      | _ => simp only [q2] at p
    | _ => simp only [q] at p
theorem pmsF_ret {a : Expr} {m : Mo PV} {pos : Pos} (ha : PE X a (rdF F [] m)) : PSs X [.Return (some a) pos] (rdSF F (mRet m)) :=
  (pss_one (ps_ret ha)).imp fun D σ H ⟨e, R, p⟩ => by
    refine ⟨e, R, ?_⟩
    unfold mRet SOut.of at p
    cases q : m e with
    | ok pv e1 =>
      simp only [q] at p
      exact fun z H' hn k R1 ra => p z H' hn ⟨fun y o e3 _ nt => k.kp y o e3 own_nil nt⟩ R1.tb (ra.mono Keep.refl (fun y _ g => .inl g) fun _ _ => rfl)
    | _ => simp only [q] at p
structure DnF (P : Program) (w : World) (K : PySem.W.Frag) (mg : Str → Option Value) (T : List (Addr × Str)) (base : Heap) (x : Str) (k n : Nat) (mf : List PV → Out PV) : Prop where
  ex : ∃ f fd ps, FnOk P w K mg base CX0 k f fd ps (spMF ⟨K, mg, T⟩ n mf) ∧ mg x = some (.ref f) ∧ PySem.W.keepIn K (.ref f) = true ∧ Binds K fd ps []
def mDefF (n : Nat) (mf : List PV → Out PV) (ml : Mo (List PV)) : Mo PV := fun e => (ml e).bind fun l e1 => if l.length = n then (match mf l with | .ok p _ => .ok p e1 | _ => .bad) else .bad
theorem pm_defF {x : Str} {k n : Nat} {mf : List PV → Out PV} {ml : Mo (List PV)} {p pos : Pos} {a : Expr} {es : List Expr} (D : DnF X.prog X.w X.K X.mg F.S.T X.base x k n mf)
    (hr : Room k X.A) (hg : Gl X x) (ha : PA X (a :: es) (rdA F ow ml)) (hS : F.S = ⟨X.K, X.mg, F.S.T⟩ := by rfl) (hd : (x == ("__debug__" : Str)) = false := by decide) (hs : starEach (a :: es) X.env = (false, eval a X.env) :: starEach es X.env := by rfl)
    (hs2 : ((backTo pos (starEach es X.env)).any fun x => x.1) = false := by rfl) : PE X (.Call (.Name x p) (a :: es) [] pos) (rdF F ow (mDefF n mf ml)) := by
  obtain ⟨f, fd, ps, G, hm, hk, hb⟩ := D.ex
  refine (pe_call G hr hg hm hk hb .nil pass0 ha hd hs hs2).imp fun σ H Q ⟨e, R, p⟩ => ⟨e, R, ?_⟩
  unfold mDefF at p
  cases q : ml e with
  | bad => simp only [q, Out.bind] at p
  | exc x e1 => simp only [q, Out.bind] at p; exact p
  | ok l e1 =>
    simp only [q, Out.bind] at p
    intro H1 k1 R1 vs rs
    show spMF _ n mf (vs ++ []) H1 Q E0
    rw [List.append_nil, ← hS]
    by_cases hl : l.length = n
    · rw [if_pos hl] at p
      refine ⟨Gd F.G ow σ, l, by rw [rs.length, hl], hl, R1.tracked, R1.tb, fun k p q => rs.get q, ?_⟩
      cases hm : mf l with
      | ok pv f =>
        simp only [hm] at p ⊢
        intro z H' hn kk tbs ra
        have hz : Hd H' z := by
          obtain ⟨b, e3, e4⟩ := ra.ref
          cases e3
          exact e4
        have less : Less H' (fun y => Gd F.G ow σ y ∨ y = z) (Gd (F.ext z).G ow σ) := fun y _ g => by
          rcases g with (g | g) | g
          · exact .inl (.inl g)
          · exact .inr g
          · exact .inl (.inr g)
        exact p z H' (fresh_of R k1 R1 hn) (k1.trans kk.of_all) (R1.ext' hn kk tbs hz) (ra.mono Keep.refl less fun _ _ => rfl)
      | exc x f => simp only [hm] at p
      | bad => simp only [hm] at p
    · rw [if_neg hl] at p; exact p.elim
end
def runF (L : Nat) (ms : Ms) (ps : List PV) : Out PV := match ms (startE L ps) with
  | .ret p e => .ok p e
  | _ => .bad
theorem fnF {P : Program} {w : World} {K : PySem.W.Frag} {mg : Str → Option Value} {T : List (Addr × Str)} {base : Heap} {x qual : Str} {params : Arguments} {body : List Stmt} {scope : Scope} {f : Addr} {fd : FuncData} {N ps : List Str} {k n : Nat} {ms : Ms}
    (Fd : FunD K x qual params body scope [] [] f fd) (sc : FnScope N ps scope)
    (hb : ∀ (G : Addr → Prop) (cdv : Value) (A : Around) (outer : List Env) (s : Shared) (H : Hp) (E : XK), Room k (A.deeper (PyProof.Rows.envOfC qual scope s.heap.objs.size f cdv)) → PSs (cxOf CX0 P w K mg base N qual scope f cdv A outer s H E).nox body (rdSF ⟨⟨K, mg, T⟩, G, [], fun _ _ _ _ => False⟩ ms))
    (hn : ps.length = n := by rfl) (hN : n ≤ N.length := by decide) : FnOk P w K mg base CX0 (k + 1) f fd ps (spMF ⟨K, mg, T⟩ n (runF N.length ms)) := by
  refine Fd.ok sc (fun vs H Q E h => ?_) (fun cdv A outer s H vs Q E hr h => ?_)
  · obtain ⟨O, ps', hv, _⟩ := h
    rw [hv, hn]
  · obtain ⟨O, pv, hv, hp, pre, htb, h1, h4⟩ := h
    have eO : (fun a => O a ∧ ∀ k, k ∈ ([] : List Nat) → vs[k]? ≠ some (.ref a)) = O := funext fun a => propext ⟨fun h => h.1, fun h => ⟨h, fun k hk => by cases hk⟩⟩
    have R := er_start (io := []) (N := N) (S := ⟨K, mg, T⟩) hv hp hN pre htb (fun k p q _ => h1 k p q) (fun k p q hk => by cases hk) (fun k k' a hk => by cases hk)
    rw [eO] at R
    refine ⟨_, PSs.nox (hb O cdv A outer s H E hr), startE N.length pv, R, ?_⟩
    unfold runF at h4
    cases q : ms (startE N.length pv) with
    | ret p e => simp only [q] at h4; exact h4
    | _ => simp only [q] at h4
/-- room for a comparison of data -/
theorem room64 {k : Nat} {A : Around} (r : Room k A) : A.units + 64 < cLine := r.units
theorem room65 {k : Nat} {A : Around} (r : Room k A) : A.units + 65 < cLine := by have := r.un; omega
end M

namespace M
open PySem PySem.Spec PyProof.Rows L2
section
variable {X : Cx} {F : Fm} {ow ow' ow1 ow2 ob : List Nat}
theorem pm_glE {x : Str} {i : Int} {pos : Pos} (hg : Gl X x) (hm : ∃ t, X.mg x = some (.int i t)) (hd : (x == ("__debug__" : Str)) = false := by decide) : PE X (.Name x pos) (rd F ow (mC (.int i))) :=
  let ⟨_, h⟩ := hm
  pm_glI hg h hd
def CPowB (i j : Int) : Prop := 0 ≤ j ∧ (Builtin.Int.intBits i : Int) * j ≤ 2 ^ 27
instance : DecidableRel CPowB := fun _ _ => by unfold CPowB; infer_instance
theorem op_powB : OpR X (binaryOp .Pow) (rI CPowB fun i j => .int (i ^ j.toNat)) := opI fun _ _ _ _ _ _ _ hc q => pow_int hc.1 hc.2 q
abbrev pPow : PV → PV → Option PV := pIc CPowB fun i j => i ^ j.toNat
theorem bin_powB : BinOk X F (binaryOp .Pow) pPow := bin_intsC op_powB
theorem pt_ifExp {a b c : Expr} {tA ta tb : TT} {pos : Pos} (hc : PT X c tA) (ha : PT X a ta) (hb : PT X b tb) : PT X (.IfExp c a b pos) fun σ H Q => tA σ H fun k H1 => if k = true then ta σ H1 Q else tb σ H1 Q := by
  refine ⟨fun pins s σ H Q I h => ?_⟩
  show wpAny (model X.prog X.w) X.A (do if ← PySem.isTrue c X.env (eval c X.env) then PySem.isTrue a X.env (eval a X.env) else PySem.isTrue b X.env (eval b X.env)) (TP X pins σ Q) X.xe s
  refine wpAny_bind (wpAny_mono (hc.run pins s σ H _ I h) (fun d s1 ⟨H1, I1, q1⟩ => ?_) fun _ _ x => x)
  cases d with
  | true => exact ha.run pins s1 σ H1 Q I1 q1
  | false => exact hb.run pins s1 σ H1 Q I1 q1
def mTIf (t a b : Mo Bool) : Mo Bool := fun e => (t e).bind fun k e1 => if k = true then a e1 else b e1
theorem pm_tIf {a b c : Expr} {t m m' : Mo Bool} {pos : Pos} (hc : PT X c (rdT F ow t)) (ha : PT X a (rdT F ow m)) (hb : PT X b (rdT F ow m')) : PT X (.IfExp c a b pos) (rdT F ow (mTIf t m m')) :=
  (pt_ifExp hc ha hb).imp fun σ H Q ⟨e, R, p⟩ => by
    refine ⟨e, R, (Post.unbind p).mono fun k e1 H1 k1 R1 q1 => ?_⟩
    cases k with
    | true => exact ⟨e1, R1, q1⟩
    | false => exact ⟨e1, R1, q1⟩
end
/-! ### t[::-1] -/
section
open PySem.SeqAt
open PySem.AutoSeq1 (wpAny_loadPart')
open PySem.MeetsSeq PySem.MeetsSeq2 PySem.MeetsSeq3
variable {prog : Program} {w : World} {A : Around} {E : Value → Shared → Prop} {s : Shared}
theorem sliceApplied_rev {sl : Addr} {vl vu vs : Value} {n : Nat} {Q : Int × Int × Nat → Shared → Prop} (hs : s.heap.IsSliceOf sl vl vu vs) (pl : IsPart vl none) (pu : IsPart vu none) (ps : IsPart vs (some (-1)))
    (h : Q ((n : Int) - 1, -1, n) s) : wpAny (model prog w) A (Builtin.Slice.sliceApplied (.ref sl) (pure (n : Int))) Q E s := by
  obtain ⟨os, hos, hcs, hds⟩ := id hs
  unfold Builtin.Slice.sliceApplied Builtin.Slice.sliceFields
  refine wpAny_bind (wpAny_bind (wpAny_field hos hds (x := vl) rfl (wpAny_bind (wpAny_field hos hds (x := vu) rfl (wpAny_bind (wpAny_field hos hds (x := vs) rfl (wpAny_pure ?_)))))))
  refine wpAny_bind (HT.slicePart_ ps ?_)
  show wpAny _ _ (if ((-1 : Int) == 0) = true then _ else _) _ _ s
  rw [if_neg (by decide)]
  refine wpAny_bind (HT.slicePart_ pl (wpAny_bind (HT.slicePart_ pu (wpAny_bind (wpAny_pure ?_)))))
  show wpAny _ _ (match Builtin.Slice.sliceAdjust none none (-1) (n : Int) with | (lo, hi) => pure (lo, (-1 : Int), Builtin.Slice.slicePlaces lo hi (-1))) _ _ s
  have e1 : Builtin.Slice.sliceAdjust none none (-1) (n : Int) = ((n : Int) - 1, -1) := rfl
  rw [e1]
  show wpAny _ _ (pure ((n : Int) - 1, (-1 : Int), Builtin.Slice.slicePlaces ((n : Int) - 1) (-1) (-1))) _ _ s
  have e2 : Builtin.Slice.slicePlaces ((n : Int) - 1) (-1) (-1) = n := by
    unfold Builtin.Slice.slicePlaces
    rw [if_neg (by decide)]
    have : (-(-1 : Int)) = 1 := by decide
    rw [this, Int.ediv_one]
    split <;> omega
  rw [e2]
  exact wpAny_pure h
theorem pick_rev (xs : Array Value) : ((List.range xs.size).filterMap fun (m : Nat) => xs[(((xs.size : Int) - 1) + (m : Int) * (-1)).toNat]?).toArray = xs.toList.reverse.toArray := by
  have key : ∀ n : Nat, n ≤ xs.size → (List.range n).filterMap (fun (m : Nat) => xs[(((n : Int) - 1) + (m : Int) * (-1)).toNat]?) = (xs.toList.take n).reverse := by
    intro n
    induction n with
    | zero => intro _; simp
    | succ n ih =>
      intro hn
      rw [List.range_succ_eq_map]
      have h0 : xs[((((n + 1 : Nat) : Int) - 1) + ((0 : Nat) : Int) * (-1)).toNat]? = some (xs[n]'(by omega)) := by
        have : ((((n + 1 : Nat) : Int) - 1) + ((0 : Nat) : Int) * (-1)).toNat = n := by omega
        rw [this]
        exact Array.getElem?_eq_getElem _
      rw [List.filterMap_cons_some (f := fun (m : Nat) => xs[((((n + 1 : Nat) : Int) - 1) + (m : Int) * (-1)).toNat]?) h0, List.filterMap_map]
      have h1 : ((fun (m : Nat) => xs[((((n + 1 : Nat) : Int) - 1) + (m : Int) * (-1)).toNat]?) ∘ Nat.succ) = fun (m : Nat) => xs[(((n : Int) - 1) + (m : Int) * (-1)).toNat]? := by
        funext m
        have : ((((n + 1 : Nat) : Int) - 1) + ((Nat.succ m : Nat) : Int) * (-1)).toNat = (((n : Int) - 1) + (m : Int) * (-1)).toNat := by
          congr 1; omega
        show xs[((((n + 1 : Nat) : Int) - 1) + ((Nat.succ m : Nat) : Int) * (-1)).toNat]? = _
        rw [this]
      rw [h1, ih (by omega)]
      have h2 : xs.toList.take (n + 1) = xs.toList.take n ++ [xs[n]'(by omega)] := by
        rw [List.take_succ_eq_append_getElem (by simp; omega)]
        simp
      rw [h2, List.reverse_append]
      rfl
  have := key xs.size (Nat.le_refl _)
  rw [this]
  congr 2
  exact List.take_of_length_le (by simp)
theorem getItem_tuple_rev {t sl : Addr} {items : Array Value} {vl vu vs : Value} {Q : Value → Shared → Prop} (ht : IsTup s.heap t items) (hs : s.heap.IsSliceOf sl vl vu vs) (pl : IsPart vl none) (pu : IsPart vu none) (ps : IsPart vs (some (-1)))
    (h : Q (.ref s.heap.objs.size) { s with heap := s.heap.push { cls := .type "tuple", data := .seq items.toList.reverse.toArray } })
    (hsz : items.size ≤ sizeLine) : wpAny (model prog w) A (getItem (.ref t) (.ref sl)) Q E s := by
  have htake : sizeOk (.seq items.toList.reverse.toArray) := by
    show items.toList.reverse.toArray.size ≤ sizeLine
    simpa using hsz
  obtain ⟨os, hos, hcs, hds⟩ := id hs
  have hTs : s.TypeIs (.ref sl) "slice" := ⟨os, hos, hcs⟩
  unfold getItem
  try with_reducible refine wpAny_holding ?_
  first | refine wpAny_bind (wpAny_pure ?_) | skip
  refine wpAny_bind (wpAny_sequenceKey ht.typeIs (by decide) ?_)
  refine wpAny_bind (wpAny_callSpecial?_slot (name := Str.ofString "__getitem__") ht.typeIs PyProof.Rows.slot_tuple_getitem
    (wpAny_call_entry PyProof.Rows.slot_tuple_getitem ht.typeIs entry_tuple_getitem ?_ (args_tuple_getitem _ _)))
  show wpAny _ _ (Builtin.Tuple.tupleItemsOf (.ref t) >>= _) _ _ s
  refine wpAny_bind (tupleItemsOf_ ht ?_)
  refine wpAny_bind (wpAny_typeOf hTs ?_)
  rw [if_pos (by decide)]
  refine wpAny_bind (sliceApplied_rev hs pl pu ps ?_)
  have hno : ¬ ((((items.size : Int) - 1) == 0 && ((-1 : Int) == 1) && (items.size == items.size)) = true) := by simp
  show wpAny _ _ (if (((items.size : Int) - 1) == 0 && ((-1 : Int) == 1) && (items.size == items.size)) = true then _ else _) _ _ s
  rw [if_neg hno, pick_rev]
  first
    | exact wpAny_bind (m := Builtin.Tuple.tupleExact _) (wpAny_newObj_type (wpAny_pure ⟨_, rfl, wpAny_pure h⟩) htake)
    | exact wpAny_bind (m := Builtin.Tuple.tupleExact _) (wpAny_newObj_type (wpAny_bind (wpAny_pure (wpAny_pure ⟨_, rfl, wpAny_pure h⟩))) htake)
end
section
variable {X : Cx} {F : Fm} {ow ow' ow1 ow2 ob : List Nat}
def tRevA (K : PySem.W.Frag) (te : TE) : TE := fun σ H Q => te σ H fun x H1 => ∃ a, x = .ref a ∧ ((∃ xs, SqL K H1 a xs ∧ ∀ p, H1 p = none → Q (.ref p) (upd H1 p (.lst xs.reverse))) ∨ ∃ xs, SqT K H1 a xs ∧ ∀ p, H1 p = none → Q (.ref p) (upd H1 p (.tup xs.reverse)))
theorem pe_revA {e : Expr} {te : TE} {k : Nat} {p1 p2 p3 pos : Pos} (he : PE X e te) : PE X (.Subscript e (.Slice none none (some (.UnaryOp .USub (.Constant (.int 1) k p1) p2)) p3) pos) (tRevA X.K te) := by
  refine ⟨fun pins s σ H Q I h => ?_⟩
  refine Subscript_ (thn (he.run pins s σ H _ I h) fun v s1 ⟨x, H1, I1, r1, q1⟩ => ?_)
  obtain ⟨a, ex, q⟩ := q1
  subst ex
  cases r1
  have hst : PO X (some (.UnaryOp .USub (.Constant (.int 1) k p1) p2)) (tPart (tUn (rU fun i => .int (-i)) (tC (.int 1)))) := po_some (pe_un un_neg pe_int)
  refine wpAny_Slice (thn (po_none.run pins s1 σ H1 (fun o H2 => o = none ∧ H2 = H1) I1 ⟨rfl, rfl⟩) fun vl s2 ⟨l, H2, I2, pl, el, e2⟩ => ?_)
  subst el e2
  refine thn (po_none.run pins s2 σ H2 (fun o H3 => o = none ∧ H3 = H2) I2 ⟨rfl, rfl⟩) fun vu s3 ⟨u, H3, I3, pu, eu, e3⟩ => ?_
  subst eu e3
  refine thn (hst.run pins s3 σ H3 (fun o H4 => o = some (-1) ∧ H4 = H3) I3 ⟨1, rfl, -1, rfl, rfl, rfl⟩) fun vs s4 ⟨o, H4, I4, ps, eo, e4⟩ => ?_
  subst eo e4
  have I5 : Inv X pins σ H4 { s4 with heap := s4.heap.push { cls := .type "slice", data := .fields #[vl, vu, vs] } } := I4.kept (t' := s4.toks) fun b ob q => Heap.get?_push_of_some _ q
  rcases q with ⟨xs, hx, q⟩ | ⟨xs, hx, q⟩
  · obtain ⟨its, r, ht, hz⟩ := I5.list hx
    have hlen := r.length
    show wpAny (model X.prog X.w) X.A (subscriptTail e (.Slice none none (some (.UnaryOp .USub (.Constant (.int 1) k p1) p2)) p3) (.ref a) (.ref s4.heap.objs.size)) (EP X pins σ Q) X.xe { s4 with heap := s4.heap.push { cls := .type "slice", data := .fields #[vl, vu, vs] } }
    refine tail_any (ops := [.ref a, .ref s4.heap.objs.size]) ht.isList.typeIs (PySem.slot_list_getitem.lookup) ?_ (by with_unfolding_all rfl)
    refine wpAny_getItem_list_slice ht.isList (Heap.IsSliceOf.new _ vl vu vs) pl pu ps (by decide) ?_ (by rw [List.size_toArray]; omega)
    rw [PySem.W.krv_pick]
    refine ⟨.ref _, _, I5.laid (t' := s4.toks) (o := .lst xs.reverse) (fun b ob q => Heap.get?_push_of_some _ q) (Nat.le_refl _) ?_, rfl, q _ (I5.hok.fresh (Nat.le_refl _))⟩
    exact ⟨by rw [List.length_reverse]; exact hz, _, 0, r.reverse, Heap.get?_push_size _ rfl⟩
  · obtain ⟨its, r, ht, hz⟩ := I5.tuple hx
    have hlen := r.length
    show wpAny (model X.prog X.w) X.A (subscriptTail e (.Slice none none (some (.UnaryOp .USub (.Constant (.int 1) k p1) p2)) p3) (.ref a) (.ref s4.heap.objs.size)) (EP X pins σ Q) X.xe { s4 with heap := s4.heap.push { cls := .type "slice", data := .fields #[vl, vu, vs] } }
    refine tail_any (ops := [.ref a, .ref s4.heap.objs.size]) ht.typeIs PyProof.Rows.slot_tuple_getitem.lookup ?_ (by with_unfolding_all rfl)
    refine getItem_tuple_rev ht (Heap.IsSliceOf.new _ vl vu vs) pl pu ps ?_ (by rw [List.size_toArray]; omega)
    refine ⟨.ref _, _, I5.laid (t' := s4.toks) (o := .tup xs.reverse) (fun b ob q => Heap.get?_push_of_some _ q) (Nat.le_refl _) ?_, rfl, q _ (I5.hok.fresh (Nat.le_refl _))⟩
    exact ⟨by rw [List.length_reverse]; exact hz, _, r.reverse, IsTup.new _ _⟩
def pRev : PV → Option PV
  | .tup l => some (.tup l.reverse)
  | .lst l => some (.lst l.reverse)
  | .fz l => some (.lst l.reverse)
  | _ => none
def mRev (m : Mo PV) : Mo PV := fun e => (m e).bind fun p e1 => lift (pRev p) e1
theorem pm_rev {a : Expr} {m : Mo PV} {k : Nat} {p1 p2 p3 pos : Pos} (ha : PE X a (rd F ow m)) (hS : F.S = ⟨X.K, X.mg, F.S.T⟩ := by rfl) : PE X (.Subscript a (.Slice none none (some (.UnaryOp .USub (.Constant (.int 1) k p1) p2)) p3) pos) (rd F ow (mRev m)) :=
  (pe_revA ha).imp fun σ H Q ⟨e, R, p⟩ => by
    refine ⟨e, R, (Post.unbind p).mono fun p1 e1 H1 k1 R1 q1 v rv => ?_⟩
    obtain ⟨c, hc, q⟩ := q1.of_lift R1
    have hK : F.S.K = X.K := by rw [hS]
    have kp : ∀ {b : Addr} {o : HO}, H1 b = none → ∀ z u, H1 z = some u → upd H1 b o z = some u := fun hn z u e => by rw [upd_ne (ne_of_none e hn)]; exact e
    unfold pRev at hc
    split at hc
    · cases hc
      obtain ⟨b, vs, rfl, h1, r1⟩ := rv.isT
      refine ⟨b, rfl, .inr ⟨vs, hK ▸ h1, fun z hz => ?_⟩⟩
      exact q _ (kp hz) _ (r1.reverse.newT hz R1.tracked)
    · cases hc
      obtain ⟨b, vs, rfl, h1, r1⟩ := rv.isL
      refine ⟨b, rfl, .inl ⟨vs, .inl (.inl h1), fun z hz => ?_⟩⟩
      exact q _ (kp hz) _ (r1.reverse.newL hz R1.tracked)
    · cases hc
      obtain ⟨b, vs, rfl, h1, r1⟩ := rv.isF
      refine ⟨b, rfl, .inl ⟨vs, hK ▸ h1, fun z hz => ?_⟩⟩
      exact q _ (kp hz) _ (r1.reverse.newL hz R1.tracked)
    · cases hc
end
end M

namespace M
open PySem PySem.Spec PyProof.Rows L2
/-! ### evaluation of mirrors -/
section
variable {α β : Type} {e e1 : En}
@[simp] theorem bind_ok {a : α} {f : α → En → Out β} : (Out.ok a e).bind f = f a e := (rfl)
@[simp] theorem bind_bad {f : α → En → Out β} : (Out.bad (α := α)).bind f = .bad := (rfl)
@[simp] theorem lift_some {a : α} : lift (some a) e = .ok a e := (rfl)
@[simp] theorem lift_none : lift (none : Option α) e = .bad := (rfl)
@[simp] theorem of_ok {a : α} {f : α → En → SOut} : SOut.of (.ok a e) f = f a e := (rfl)
@[simp] theorem of_bad {f : α → En → SOut} : SOut.of (.bad : Out α) f = .bad := (rfl)
def SOut.seq (o : SOut) (b : Ms) : SOut := match o with
  | .nxt e1 => b e1
  | o => o
@[simp] theorem seq_nxt {b : Ms} : (SOut.nxt e).seq b = b e := (rfl)
@[simp] theorem seq_ret {b : Ms} {p : PV} : (SOut.ret p e).seq b = .ret p e := (rfl)
@[simp] theorem seq_brk {b : Ms} : (SOut.brk e).seq b = .brk e := (rfl)
@[simp] theorem seq_cnt {b : Ms} : (SOut.cnt e).seq b = .cnt e := (rfl)
@[simp] theorem seq_bad {b : Ms} : SOut.bad.seq b = .bad := (rfl)
@[simp] theorem mSeq_ap {a b : Ms} : mSeq a b e = (a e).seq b := (rfl)
def getE (o : Option (Option PV)) (f : PV → Out α) : Out α := match o with
  | some (some p) => f p
  | _ => .bad
@[simp] theorem getE_some {p : PV} {f : PV → Out α} : getE (some (some p)) f = f p := (rfl)
@[simp] theorem getE_none {f : PV → Out α} : getE (some none) f = .bad := (rfl)
@[simp] theorem mVar_ap {i : Nat} : mVar i e = getE e[i]? fun p => .ok p e := by
  unfold mVar getE; exact (rfl)
@[simp] theorem mC_ap {p : PV} : mC p e = .ok p e := (rfl)
@[simp] theorem mBin_ap {g : PV → PV → Option PV} {ma mb : Mo PV} : mBin g ma mb e = (ma e).bind fun a e1 => (mb e1).bind fun b e2 => lift (g a b) e2 := (rfl)
@[simp] theorem mTB_ap {m : Mo PV} : mTB m e = (m e).bind fun p e1 => lift (isB p) e1 := (rfl)
@[simp] theorem mTr_ap {m : Mo PV} : mTr m e = (m e).bind fun p e1 => lift (truth p) e1 := (rfl)
@[simp] theorem mAnd_ap {a b : Mo Bool} : mAnd a b e = (a e).bind fun k e1 => if k = true then b e1 else .ok false e1 := (rfl)
@[simp] theorem mOr_ap {a b : Mo Bool} : mOr a b e = (a e).bind fun k e1 => if k = true then .ok true e1 else b e1 := (rfl)
@[simp] theorem mNot_ap {a : Mo Bool} : mNot a e = (a e).bind fun k e1 => .ok (!k) e1 := (rfl)
@[simp] theorem mAndV_ap {a b : Mo PV} : mAndV a b e = (a e).bind fun p e1 => (lift (truth p) e1).bind fun k e2 => if k = true then b e2 else .ok p e2 := (rfl)
@[simp] theorem mOrV_ap {a b : Mo PV} : mOrV a b e = (a e).bind fun p e1 => (lift (truth p) e1).bind fun k e2 => if k = true then .ok p e2 else b e2 := (rfl)
@[simp] theorem mNotV_ap {a : Mo PV} : mNotV a e = (a e).bind fun p e1 => (lift (truth p) e1).bind fun k e2 => .ok (.bl (!k)) e2 := (rfl)
@[simp] theorem mIf_ap {t : Mo Bool} {a b : Mo PV} : mIf t a b e = (t e).bind fun k e1 => if k = true then a e1 else b e1 := (rfl)
@[simp] theorem mTIf_ap {t a b : Mo Bool} : mTIf t a b e = (t e).bind fun k e1 => if k = true then a e1 else b e1 := (rfl)
@[simp] theorem mChain_ap {g g' : PV → PV → Option PV} {ma mb mc : Mo PV} : mChain g g' ma mb mc e = (ma e).bind fun a e1 => (mb e1).bind fun b e2 => (lift ((g a b).bind isB) e2).bind fun k e3 => if k = true then (mc e3).bind fun c e4 => lift (g' b c) e4 else .ok (.bl false) e3 := (rfl)
@[simp] theorem mNil_ap : mNil e = .ok [] e := (rfl)
@[simp] theorem mCons_ap {m : Mo PV} {ml : Mo (List PV)} : mCons m ml e = (m e).bind fun p e1 => (ml e1).bind fun l e2 => .ok (p :: l) e2 := (rfl)
@[simp] theorem mTup_ap {ml : Mo (List PV)} : mTup ml e = (ml e).bind fun l e1 => lift (if l.length ≤ 1000 then some (.tup l) else none) e1 := (rfl)
@[simp] theorem mLst_ap {ml : Mo (List PV)} : mLst ml e = (ml e).bind fun l e1 => lift (if l.length ≤ 1000 then some (.lst l) else none) e1 := (rfl)
def negP : PV → Option PV
  | .int i => some (.int (-i))
  | _ => none
@[simp] theorem negP_int {i : Int} : negP (.int i) = some (.int (-i)) := (rfl)
@[simp] theorem mNeg_ap {m : Mo PV} : mNeg m e = (m e).bind fun p e1 => lift (negP p) e1 := by
  unfold mNeg negP; exact (rfl)
@[simp] theorem mNo_ap : mNo e = .ok none e := (rfl)
def partP : PV → Option (Option Int)
  | .int i => some (some i)
  | _ => none
@[simp] theorem partP_int {i : Int} : partP (.int i) = some (some i) := (rfl)
@[simp] theorem mPart_ap {m : Mo PV} : mPart m e = (m e).bind fun p e1 => lift (partP p) e1 := by
  unfold mPart partP; exact (rfl)
@[simp] theorem mSl_ap {m : Mo PV} {ml mh : Mo (Option Int)} : mSl m ml mh e = (m e).bind fun p e1 => (ml e1).bind fun lo e2 => (mh e2).bind fun hi e3 => lift (pSl p lo hi) e3 := (rfl)
@[simp] theorem mCall_ap {g : List PV → Option PV} {ml : Mo (List PV)} : mCall g ml e = (ml e).bind fun l e1 => lift (g l) e1 := (rfl)
@[simp] theorem mCallO_ap {g : List PV → Option PV} {i : Nat} : mCallO g i e = getE e[i]? fun p => lift (g [p]) e := by
  unfold mCallO getE; exact (rfl)
@[simp] theorem mTrO_ap {i : Nat} : mTrO i e = getE e[i]? fun p => lift (truth p) e := by
  unfold mTrO getE; exact (rfl)
def ixO (p b : PV) (e : En) : Out PV := match p with
  | .lst l => match b with
    | .int j => lift (atI l j) e
    | _ => .bad
  | _ => .bad
@[simp] theorem ixO_int {l : List PV} {j : Int} : ixO (.lst l) (.int j) e = lift (atI l j) e := (rfl)
@[simp] theorem mIxO_ap {i : Nat} {mb : Mo PV} : mIxO i mb e = getE e[i]? fun _ => (mb e).bind fun b e1 => getE e1[i]? fun p => ixO p b e1 := by
  unfold mIxO getE
  split <;> rename_i h <;> simp only [h]
  congr 1
  funext b e1
  split <;> rename_i h2
  · simp only [h2]; cases b <;> rfl
  · split
    · rename_i p h3
      cases p with
      | lst l => exact absurd h3 (h2 l)
      | _ => rfl
    · rfl
def appO (p q : PV) (i : Nat) (e : En) : Out PV := match p with
  | .lst l => if l.length < sizeLine then .ok .non (e.set i (some (.lst (l ++ [q])))) else .bad
  | _ => .bad
@[simp] theorem appO_lst {l : List PV} {q : PV} {i : Nat} : appO (.lst l) q i e = if l.length < sizeLine then .ok .non (e.set i (some (.lst (l ++ [q])))) else .bad := (rfl)
def isLst (p : PV) (k : Out PV) : Out PV := match p with
  | .lst _ => k
  | _ => .bad
@[simp] theorem isLst_lst {l : List PV} {k : Out PV} : isLst (.lst l) k = k := (rfl)
@[simp] theorem mApp_ap {i : Nat} {m : Mo PV} : mApp i m e = getE e[i]? fun p0 => isLst p0 ((m e).bind fun p e1 => getE e1[i]? fun q => appO q p i e1) := by
  unfold mApp getE
  split <;> rename_i h
  · simp only [h]
    show _ = (m e).bind _
    congr 1
    funext b e1
    split <;> rename_i h2
    · simp only [h2]; rfl
    · split
      · rename_i p h3
        cases p with
        | lst l => exact absurd h3 (h2 l)
        | _ => rfl
      · rfl
  · split
    · rename_i p h3
      cases p with
      | lst l => exact absurd h3 (h l)
      | _ => rfl
    · rfl
@[simp] theorem mNext_ap : mNext e = .nxt e := (rfl)
@[simp] theorem mBrk_ap : mBrk e = .brk e := (rfl)
@[simp] theorem mCnt_ap : mCnt e = .cnt e := (rfl)
@[simp] theorem mBad_ap : mBad e = .bad := (rfl)
@[simp] theorem mExpr_ap {m : Mo PV} : mExpr m e = SOut.of (m e) fun _ e1 => .nxt e1 := (rfl)
@[simp] theorem mRet_ap {m : Mo PV} : mRet m e = SOut.of (m e) fun p e1 => .ret p e1 := (rfl)
@[simp] theorem mRetN_ap : mRetN e = .ret .non e := (rfl)
def getS (o : Option (Option PV)) (f : PV → SOut) : SOut := match o with
  | some (some p) => f p
  | _ => .bad
@[simp] theorem getS_some {p : PV} {f : PV → SOut} : getS (some (some p)) f = f p := (rfl)
@[simp] theorem mRetO_ap {i : Nat} : mRetO i e = getS e[i]? fun p => .ret p e := by
  unfold mRetO getS; exact (rfl)
@[simp] theorem mSet_ap {i : Nat} {m : Mo PV} : mSet i m e = SOut.of (m e) fun p e1 => .nxt (e1.set i (some p)) := (rfl)
@[simp] theorem mSetO_ap {i : Nat} {m : Mo PV} : mSetO i m e = SOut.of (m e) fun p e1 => if i < e1.length then .nxt (e1.set i (some p)) else .bad := (rfl)
@[simp] theorem mAug_ap {g : PV → PV → Option PV} {i : Nat} {m : Mo PV} : mAug g i m e = getS e[i]? fun p => SOut.of ((m e).bind fun q e1 => lift (g p q) e1) fun r e2 => .nxt (e2.set i (some r)) := by
  unfold mAug getS; exact (rfl)
@[simp] theorem mIfS_ap {t : Mo Bool} {a b : Ms} : mIfS t a b e = SOut.of (t e) fun k e1 => if k = true then a e1 else b e1 := (rfl)
def unpO (is : List Nat) (p : PV) (e : En) : SOut := match p with
  | .tup l => match setAll is l e with
    | some e2 => .nxt e2
    | none => .bad
  | _ => .bad
def nxtO (o : Option En) : SOut := match o with
  | some e => .nxt e
  | none => .bad
@[simp] theorem nxtO_some : nxtO (some e) = .nxt e := (rfl)
@[simp] theorem nxtO_none : nxtO none = .bad := (rfl)
@[simp] theorem unpO_tup {is : List Nat} {l : List PV} : unpO is (.tup l) e = nxtO (setAll is l e) := by
  unfold unpO nxtO; exact (rfl)
@[simp] theorem mUnp_ap {is : List Nat} {m : Mo PV} : mUnp is m e = SOut.of (m e) fun p e1 => unpO is p e1 := by
  unfold mUnp unpO; exact (rfl)
@[simp] theorem setAll_nil : setAll [] [] e = some e := (rfl)
@[simp] theorem setAll_cons {i : Nat} {is : List Nat} {p : PV} {ps : List PV} : setAll (i :: is) (p :: ps) e = setAll is ps (e.set i (some p)) := (rfl)
@[simp] theorem mPar_ap {is : List Nat} {ml : Mo (List PV)} : mPar is ml e = SOut.of (ml e) fun l e1 => if ∀ i ∈ is, i < e1.length then nxtO (setAll is l e1) else .bad := by
  unfold mPar nxtO; exact (rfl)
def setIxO (q p j : PV) (i : Nat) (e : En) : SOut := match q with
  | .lst l => match j with
    | .int j => match ixN l.length j with
      | some n => .nxt (e.set i (some (.lst (l.set n p))))
      | none => .bad
    | _ => .bad
  | _ => .bad
def setN (o : Option Nat) (f : Nat → SOut) : SOut := match o with
  | some n => f n
  | none => .bad
@[simp] theorem setN_some {n : Nat} {f : Nat → SOut} : setN (some n) f = f n := (rfl)
@[simp] theorem setIxO_int {l : List PV} {p : PV} {j : Int} {i : Nat} : setIxO (.lst l) p (.int j) i e = setN (ixN l.length j) fun n => .nxt (e.set i (some (.lst (l.set n p)))) := by
  simp only [setIxO]; unfold setN; rfl
@[simp] theorem mSetIx_ap {i : Nat} {mj me : Mo PV} : mSetIx i mj me e = SOut.of (me e) fun p e1 => getS e1[i]? fun q => match q with
    | .lst _ => SOut.of (mj e1) fun j e2 => getS e2[i]? fun q => setIxO q p j i e2
    | _ => .bad := by
  unfold mSetIx
  congr 1
  funext p e1
  unfold getS
  split <;> rename_i h2
  · simp only [h2]
    congr 1
    funext j e2
    split <;> rename_i h3
    · simp only [h3]; cases j <;> rfl
    · split
      · rename_i p h4
        cases p with
        | lst l => exact absurd h4 (h3 l)
        | _ => rfl
      · rfl
  · split
    · rename_i p h3
      cases p with
      | lst l => exact absurd h3 (h2 l)
      | _ => rfl
    · rfl
@[simp] theorem mIt_ap {m : Mo PV} : mIt m e = (m e).bind fun p e1 => lift (itemsOf p) e1 := (rfl)
@[simp] theorem mItA_ap {g : List PV → Option (List PV)} {m : Mo (List PV)} : mItA g m e = (m e).bind fun l e1 => lift (g l) e1 := (rfl)
@[simp] theorem mFor_ap {mi : Mo (List PV)} {f : PV → En → Option En} {b : Ms} : mFor mi f b e = SOut.of (mi e) fun l e1 => loopM f b l e1 := (rfl)
@[simp] theorem mLc_ap {own : List Nat} {f : PV → En → Option En} {mt : Mo Bool} {me : Mo PV} {mi : Mo (List PV)} : mLc own f mt me mi e = (mi e).bind fun l e1 => lcLoop own f mt me l [] e1 := (rfl)
@[simp] theorem mYes_ap : mYes e = .ok true e := (rfl)
def SOut.seqN (o : SOut) (b : Ms) : SOut := match o with
  | .nxt e1 => b e1
  | _ => .bad
@[simp] theorem seqN_nxt {b : Ms} : (SOut.nxt e).seqN b = b e := (rfl)
@[simp] theorem mSeqN_ap {a b : Ms} : mSeqN a b e = (a e).seqN b := (rfl)
@[simp] theorem tN_ap {i : Nat} {p : PV} : tN i p e = some (e.set i (some p)) := (rfl)
@[simp] theorem tT_ap {is : List Nat} {l : List PV} : tT is (.tup l) e = setAll is l e := (rfl)
end
/-! ### own defs, as functions of values -/
class NoEx (mf : List PV → Out PV) : Prop where
  no : ∀ ps x f, mf ps ≠ .exc x f
theorem runN_noex (L : Nat) (ms : Ms) : NoEx (runN L ms) := ⟨fun ps x f h => by
  unfold runN at h
  split at h <;> cases h⟩
def outV (mf : List PV → Out PV) (ps : List PV) : Option PV := match mf ps with
  | .ok p _ => some p
  | _ => none
def out0 (mf : List PV → Out PV) (ps : List PV) : Option (PV × PV) := match mf ps with
  | .ok p f => match f[0]? with
    | some (some c) => some (p, c)
    | _ => none
  | _ => none
def putI (o : Option (PV × PV)) (i : Nat) (e : En) : Out PV := match o with
  | some (p, c) => .ok p (e.set i (some c))
  | none => .bad
@[simp] theorem putI_some {p c : PV} {i : Nat} {e : En} : putI (some (p, c)) i e = .ok p (e.set i (some c)) := (rfl)
@[simp] theorem mrNil_ap {e : En} : mrNil e = .ok [] e := (rfl)
@[simp] theorem mrV_ap {m : Mo PV} {ml : Mo (List Ar)} {e : En} : mrV m ml e = (m e).bind fun p e1 => (ml e1).bind fun l e2 => .ok (.v p :: l) e2 := (rfl)
@[simp] theorem mrO_ap {i : Nat} {ml : Mo (List Ar)} {e : En} : mrO i ml e = getE e[i]? fun _ => (ml e).bind fun l e2 => .ok (.o i :: l) e2 := by
  unfold mrO getE; exact (rfl)
/-- values alone -/
def valsOf : List Ar → Option (List PV)
  | [] => some []
  | .v p :: l => (valsOf l).map fun r => p :: r
  | .o _ :: _ => none
@[simp] theorem valsOf_nil : valsOf [] = some [] := (rfl)
@[simp] theorem valsOf_v {p : PV} {l : List Ar} : valsOf (.v p :: l) = (valsOf l).map fun r => p :: r := (rfl)
theorem vals_args {l : List Ar} {ps : List PV} {e : En} (h : valsOf l = some ps) : argsOf e l = some ps ∧ slots l = [] ∧ (∀ k, isO l k = false) ∧ ∀ f k, putO f k l e = some e := by
  induction l generalizing ps with
  | nil => cases h; exact ⟨rfl, rfl, fun k => rfl, fun f k => rfl⟩
  | cons a l ih =>
    cases a with
    | o i => cases h
    | v p =>
      rw [valsOf_v] at h
      cases h1 : valsOf l with
      | none => rw [h1] at h; cases h
      | some r =>
        rw [h1] at h; cases h
        obtain ⟨a, b, c, d⟩ := ih h1
        refine ⟨by simp only [argsOf, a]; rfl, by simpa [slots] using b, fun k => ?_, fun f k => d f (k + 1)⟩
        cases k with
        | zero => rfl
        | succ k => exact c k
def dcall (n : Nat) (mf : List PV → Out PV) (l : List Ar) (e : En) : Out PV := match valsOf l with
  | some ps => if ps.length = n then lift (outV mf ps) e else .bad
  | none => .bad
theorem vals_len {l : List Ar} {ps : List PV} (h : valsOf l = some ps) : ps.length = l.length := by
  induction l generalizing ps with
  | nil => cases h; rfl
  | cons a l ih =>
    cases a with
    | o i => cases h
    | v p =>
      rw [valsOf_v] at h
      cases h1 : valsOf l with
      | none => rw [h1] at h; cases h
      | some r => rw [h1] at h; cases h; simp [ih h1]
theorem vals_isO {l : List Ar} (h : valsOf l = none) : ∃ k, k < l.length ∧ isO l k = true := by
  induction l with
  | nil => cases h
  | cons a l ih =>
    cases a with
    | o i => exact ⟨0, by simp, rfl⟩
    | v p =>
      rw [valsOf_v] at h
      cases h1 : valsOf l with
      | some r => rw [h1] at h; cases h
      | none =>
        obtain ⟨k, a, b⟩ := ih h1
        exact ⟨k + 1, by simpa using a, b⟩
@[simp] theorem mDef_ap {n : Nat} {mf : List PV → Out PV} [N : NoEx mf] {ml : Mo (List Ar)} {e : En} : mDef n [] mf ml e = (ml e).bind fun l e1 => dcall n mf l e1 := by
  unfold mDef
  congr 1
  funext l e1
  unfold dcall
  cases h : valsOf l with
  | none =>
    obtain ⟨k, a, b⟩ := vals_isO h
    rw [if_neg]
    rintro ⟨h1, h2, _⟩
    have := (h2 k (by omega)).2 b
    cases this
  | some ps =>
    obtain ⟨a, b, c, d⟩ := vals_args (e := e1) h
    have hl := vals_len h
    by_cases q : l.length = n
    · rw [if_pos ⟨q, fun k _ => by simp [c k], by rw [b]; exact List.nodup_nil⟩]
      simp only [a]
      rw [if_pos (hl.trans q)]
      unfold outV
      cases h2 : mf ps with
      | ok p f => simp only [d]; rfl
      | exc x f => exact absurd h2 (N.no _ _ _)
      | bad => rfl
    · rw [if_neg (fun z => q z.1)]
      dsimp only
      rw [if_neg (fun z => q (hl.symm.trans z))]
theorem dcall_of {n : Nat} {mf : List PV → Out PV} {l : List Ar} {ps : List PV} {e : En} (h : valsOf l = some ps) (hn : ps.length = n) : dcall n mf l e = lift (outV mf ps) e := by
  unfold dcall; rw [h]; simp only; rw [if_pos hn]
@[simp] theorem dcall0 {mf : List PV → Out PV} {e : En} : dcall 0 mf [] e = lift (outV mf []) e := (rfl)
@[simp] theorem dcall1 {mf : List PV → Out PV} {e : En} {a : PV} : dcall 1 mf [.v a] e = lift (outV mf [a]) e := (rfl)
@[simp] theorem dcall2 {mf : List PV → Out PV} {e : En} {a b : PV} : dcall 2 mf [.v a, .v b] e = lift (outV mf [a, b]) e := (rfl)
@[simp] theorem dcall3 {mf : List PV → Out PV} {e : En} {a b c : PV} : dcall 3 mf [.v a, .v b, .v c] e = lift (outV mf [a, b, c]) e := (rfl)
@[simp] theorem dcall4 {mf : List PV → Out PV} {e : En} {a b c d : PV} : dcall 4 mf [.v a, .v b, .v c, .v d] e = lift (outV mf [a, b, c, d]) e := (rfl)
/-- the first argument a cell that changes -/
def dcallO (n : Nat) (mf : List PV → Out PV) (l : List Ar) (e : En) : Out PV := match l with
  | .o i :: l => match valsOf l with
    | some ps => getE e[i]? fun c => if ps.length + 1 = n then putI (out0 mf (c :: ps)) i e else .bad
    | none => .bad
  | _ => .bad
@[simp] theorem mDefO_ap {n : Nat} {mf : List PV → Out PV} [N : NoEx mf] {i : Nat} {ml : Mo (List Ar)} {e : En} : mDef (n + 1) [0] mf (mrO i ml) e = (mrO i ml e).bind fun l e1 => dcallO (n + 1) mf l e1 := by
  unfold mDef
  unfold mrO
  split <;> rename_i h
  case h_2 => rfl
  cases hm : ml e with
  | bad => rfl
  | exc x e1 => rfl
  | ok l e1 =>
    simp only [bind_ok]
    unfold dcallO
    simp only
    cases hv : valsOf l with
    | none =>
      obtain ⟨k, a, b⟩ := vals_isO hv
      rw [if_neg]
      rintro ⟨h1, h2, _⟩
      have hk : k + 1 < n + 1 := by simp at h1; omega
      have := (h2 (k + 1) hk).2 b
      simp at this
    | some ps =>
      obtain ⟨a, b, c, d⟩ := vals_args (e := e1) hv
      have hl := vals_len hv
      have iso : ∀ k, isO (Ar.o i :: l) k = true ↔ k = 0 := fun k => by
        cases k with
        | zero => simp [isO]
        | succ k => simp; exact c k
      have sl : slots (Ar.o i :: l) = [i] := by
        have : slots (Ar.o i :: l) = i :: slots l := rfl
        rw [this, b]
      by_cases q : (Ar.o i :: l).length = n + 1
      · rw [if_pos ⟨q, fun k _ => by rw [iso]; simp, by rw [sl]; simp⟩]
        unfold getE
        simp only [argsOf]
        cases he : e1[i]? with
        | none => rfl
        | some o =>
          cases o with
          | none => rfl
          | some p =>
            simp only [a, Option.map_some]
            rw [if_pos (by simp at q; omega)]
            unfold out0 putI
            cases h2 : mf (p :: ps) with
            | ok v f =>
              simp only [putO]
              cases hf : f[0]? with
              | none => rfl
              | some o =>
                cases o with
                | none => rfl
                | some c' =>
                  have := (vals_args (e := e1.set i (some c')) hv).2.2.2 f (0 + 1)
                  simp only [this]
            | exc x f => exact absurd h2 (N.no _ _ _)
            | bad => rfl
      · rw [if_neg (fun z => q z.1)]
        dsimp only
        have hz : ¬ ps.length + 1 = n + 1 := fun z => q (by simp; omega)
        cases e1[i]? with
        | none => rfl
        | some o =>
          cases o with
          | none => rfl
          | some p => simp only [getE_some]; rw [if_neg hz]
@[simp] theorem dcallO_1 {mf : List PV → Out PV} {e : En} {i : Nat} : dcallO 1 mf [.o i] e = getE e[i]? fun c => putI (out0 mf [c]) i e := (rfl)
@[simp] theorem dcallO_2 {mf : List PV → Out PV} {e : En} {i : Nat} {a : PV} : dcallO 2 mf [.o i, .v a] e = getE e[i]? fun c => putI (out0 mf [c, a]) i e := (rfl)
@[simp] theorem dcallO_3 {mf : List PV → Out PV} {e : En} {i : Nat} {a b : PV} : dcallO 3 mf [.o i, .v a, .v b] e = getE e[i]? fun c => putI (out0 mf [c, a, b]) i e := (rfl)
@[simp] theorem dcallO_4 {mf : List PV → Out PV} {e : En} {i : Nat} {a b d : PV} : dcallO 4 mf [.o i, .v a, .v b, .v d] e = getE e[i]? fun c => putI (out0 mf [c, a, b, d]) i e := (rfl)
@[simp] theorem mDefF_ap {n : Nat} {mf : List PV → Out PV} {ml : Mo (List PV)} {e : En} : mDefF n mf ml e = (ml e).bind fun l e1 => if l.length = n then lift (outV mf l) e1 else .bad := by
  unfold mDefF
  congr 1
  funext l e1
  split
  · unfold outV
    cases mf l <;> rfl
  · rfl
end M

namespace M
open PySem PySem.Spec PyProof.Rows L2
/-! ### equality of data, as equality of told values -/
def pl : Nat → PV → Bool
  | _, .non => true
  | _, .int _ => true
  | _, .str x => PyData.strOk x
  | n + 1, .tup l => l.all (pl n)
  | n + 1, .lst l => l.all (pl n)
  | _, _ => false
theorem toDs_of {n : Nat} (ih : ∀ p, pl n p = true → ∃ d, toD p = some d ∧ d.canLay0 = true ∧ d.depth ≤ n) : ∀ l : List PV, l.all (pl n) = true → ∃ ds, toDs l = some ds ∧ PyData.canLayAll0 ds = true ∧ PyData.depthAll ds ≤ n
  | [], _ => ⟨[], rfl, rfl, Nat.zero_le _⟩
  | p :: l, h => by
    simp only [List.all_cons, Bool.and_eq_true] at h
    obtain ⟨d, a, b, c⟩ := ih p h.1
    obtain ⟨ds, a2, b2, c2⟩ := toDs_of ih l h.2
    exact ⟨d :: ds, by simp [toDs, a, a2], by simp [PyData.canLayAll0, b, b2], by simp only [PyData.depthAll]; omega⟩
theorem toD_of : ∀ {n : Nat} (p : PV), pl n p = true → ∃ d, toD p = some d ∧ d.canLay0 = true ∧ d.depth ≤ n
  | n, .non, _ => ⟨.none, by simp [toD], by simp [PyData.canLay0], by simp [PyData.depth]⟩
  | n, .int i, _ => ⟨.int i, by simp [toD], by simp [PyData.canLay0], by simp [PyData.depth]⟩
  | n, .str x, h => ⟨.str x, by simp [toD], by simp only [PyData.canLay0]; cases n <;> exact h, by simp [PyData.depth]⟩
  | n + 1, .tup l, h => by
    obtain ⟨ds, a, b, c⟩ := toDs_of (n := n) (fun p hp => toD_of p hp) l h
    exact ⟨.tuple ds, by simp [toD, a], by simp [PyData.canLay0, b], by simp only [PyData.depth]; omega⟩
  | n + 1, .lst l, h => by
    obtain ⟨ds, a, b, c⟩ := toDs_of (n := n) (fun p hp => toD_of p hp) l h
    exact ⟨.list ds, by simp [toD, a], by simp [PyData.canLay0, b], by simp only [PyData.depth]; omega⟩
  | 0, .tup l, h => by cases h
  | 0, .lst l, h => by cases h
  | n, .bl _, h => by cases n <;> cases h
  | n, .ty _, h => by cases n <;> cases h
  | n, .gl _, h => by cases n <;> cases h
  | n, .fz _, h => by cases n <;> cases h
  | n, .dK _, h => by cases n <;> cases h
  | n, .fK _, h => by cases n <;> cases h
  | n, .ins _ _, h => by cases n <;> cases h
  | n, .exn _ _ _ _, h => by cases n <;> cases h
theorem eqvs_of {n m : Nat} (ih : ∀ p q d e, pl n p = true → pl m q = true → toD p = some d → toD q = some e → (d.eqv e = true ↔ p = q)) : ∀ (l k : List PV) (ds es : List PyData), l.all (pl n) = true → k.all (pl m) = true → toDs l = some ds → toDs k = some es → (PyData.eqvAll ds es = true ↔ l = k)
  | [], [], ds, es, _, _, h, h2 => by cases h; cases h2; simp [PyData.eqvAll]
  | [], q :: k, ds, es, _, hk, h, h2 => by
    cases h
    simp only [List.all_cons, Bool.and_eq_true] at hk
    obtain ⟨e, a, -, -⟩ := toD_of q hk.1
    obtain ⟨es', a2, -, -⟩ := toDs_of (n := m) (fun p hp => toD_of p hp) k hk.2
    simp only [toDs, a, a2] at h2
    cases h2
    simp [PyData.eqvAll]
  | p :: l, [], ds, es, hl, _, h, h2 => by
    cases h2
    simp only [List.all_cons, Bool.and_eq_true] at hl
    obtain ⟨e, a, -, -⟩ := toD_of p hl.1
    obtain ⟨es', a2, -, -⟩ := toDs_of (n := n) (fun p hp => toD_of p hp) l hl.2
    simp only [toDs, a, a2] at h
    cases h
    simp [PyData.eqvAll]
  | p :: l, q :: k, ds, es, hl, hk, h, h2 => by
    simp only [List.all_cons, Bool.and_eq_true] at hl hk
    obtain ⟨d, a, -, -⟩ := toD_of p hl.1
    obtain ⟨ds', a2, -, -⟩ := toDs_of (n := n) (fun p hp => toD_of p hp) l hl.2
    obtain ⟨e, b, -, -⟩ := toD_of q hk.1
    obtain ⟨es', b2, -, -⟩ := toDs_of (n := m) (fun p hp => toD_of p hp) k hk.2
    simp only [toDs, a, a2] at h
    simp only [toDs, b, b2] at h2
    cases h; cases h2
    simp only [PyData.eqvAll, Bool.and_eq_true]
    rw [ih p q d e hl.1 hk.1 a b, eqvs_of ih l k ds' es' hl.2 hk.2 a2 b2]
    simp
theorem eqv_of : ∀ {n m : Nat} (p q : PV) (d e : PyData), pl n p = true → pl m q = true → toD p = some d → toD q = some e → (d.eqv e = true ↔ p = q) := by
  intro n
  induction n with
  | zero =>
    intro m p q d e hp hq h1 h2
    cases p <;> (first | (cases hp; done) | skip) <;> cases q <;> (first | (cases m <;> cases hq; done) | skip) <;> simp only [toD, Option.some.injEq, Option.map_eq_some_iff] at h1 h2 <;>
      (try obtain ⟨_, _, rfl⟩ := h2) <;> (try subst h1) <;> (try subst h2) <;> simp [PyData.eqv]
  | succ n ih =>
    intro m p q d e hp hq h1 h2
    cases p <;> (first | (cases hp; done) | skip) <;> cases q <;> (first | (cases m <;> cases hq; done) | skip) <;> simp only [toD, Option.some.injEq, Option.map_eq_some_iff] at h1 h2 <;>
      (try obtain ⟨_, h3, rfl⟩ := h1) <;> (try obtain ⟨_, h4, rfl⟩ := h2) <;> (try subst h1) <;> (try subst h2) <;> simp only [PyData.eqv] <;> (try (simp; done))
    · cases m with
      | zero => cases hq
      | succ m => rw [eqvs_of (n := n) (m := m) (fun p q d e => ih p q d e) _ _ _ _ hp hq h3 h4]; simp
    · cases m with
      | zero => cases hq
      | succ m => rw [eqvs_of (n := n) (m := m) (fun p q d e => ih p q d e) _ _ _ _ hp hq h3 h4]; simp
theorem eqD_true {n : Nat} {p q : PV} (hp : pl n p = true) (h : p = q) (hn : n ≤ 64 := by decide) : eqD p q = some true := by
  subst h
  obtain ⟨d, a, b, c⟩ := toD_of p hp
  unfold eqD
  simp only [a, SeqAt.shaped, b, Bool.true_and]
  rw [if_pos (by simp; omega), (eqv_of p p d d hp hp a a).2 rfl]
theorem eqD_false {n : Nat} {p q : PV} (hp : pl n p = true) (hq : pl n q = true) (h : p ≠ q) (hn : n ≤ 64 := by decide) : eqD p q = some false := by
  obtain ⟨d, a, b, c⟩ := toD_of p hp
  obtain ⟨e, a2, b2, c2⟩ := toD_of q hq
  unfold eqD
  simp only [a, a2, SeqAt.shaped, b, b2, Bool.true_and]
  rw [if_pos (by simp; omega)]
  cases z : d.eqv e with
  | false => rfl
  | true => exact absurd ((eqv_of p q d e hp hq a a2).1 z) h
open Classical in
theorem eqD_dec {n : Nat} {p q : PV} (hp : pl n p = true) (hq : pl n q = true) (hn : n ≤ 64 := by decide) : eqD p q = some (decide (p = q)) := by
  by_cases h : p = q
  · rw [eqD_true hp h hn]; simp [h]
  · rw [eqD_false hp hq h hn]; simp [h]
@[simp] theorem eqD_int {i j : Int} : eqD (.int i) (.int j) = some (decide (i = j)) := by
  have := eqD_dec (n := 0) (p := .int i) (q := .int j) rfl rfl
  rw [this]; simp
@[simp] theorem eqD_intN {i : Int} : eqD (.int i) .non = some false := eqD_false (n := 0) rfl rfl (by simp)
@[simp] theorem eqD_Nint {i : Int} : eqD .non (.int i) = some false := eqD_false (n := 0) rfl rfl (by simp)
@[simp] theorem eqD_NN : eqD .non .non = some true := eqD_true (n := 0) rfl rfl
@[simp] theorem eqD_P2 {a b c d : Int} : eqD (.tup [.int a, .int b]) (.tup [.int c, .int d]) = some (decide (a = c ∧ b = d)) := by
  have := eqD_dec (n := 1) (p := .tup [.int a, .int b]) (q := .tup [.int c, .int d]) rfl rfl
  rw [this]; simp
@[simp] theorem pEq_eq {a b : PV} : pEq a b = (eqD a b).map .bl := (rfl)
@[simp] theorem pNe_eq {a b : PV} : pNe a b = (eqD a b).map fun k => .bl (!k) := (rfl)
@[simp] theorem pIn_eq {a b : PV} : pIn a b = (inD a b).map .bl := (rfl)
@[simp] theorem pNotIn_eq {a b : PV} : pNotIn a b = (inD a b).map fun k => .bl (!k) := (rfl)
@[simp] theorem isB_bl {b : Bool} : isB (.bl b) = some b := (rfl)
@[simp] theorem truth_non : truth .non = some false := (rfl)
@[simp] theorem truth_bl {b : Bool} : truth (.bl b) = some b := (rfl)
@[simp] theorem truth_int {i : Int} : truth (.int i) = some (i != 0) := (rfl)
@[simp] theorem truth_tup {l : List PV} : truth (.tup l) = some (!l.isEmpty) := (rfl)
@[simp] theorem truth_lst {l : List PV} : truth (.lst l) = some (!l.isEmpty) := (rfl)
@[simp] theorem truth_fz {l : List PV} : truth (.fz l) = some (!l.isEmpty) := (rfl)
@[simp] theorem pIx_tup {l : List PV} {i : Int} : pIx (.tup l) (.int i) = atI l i := (rfl)
@[simp] theorem pIx_lst {l : List PV} {i : Int} : pIx (.lst l) (.int i) = atI l i := (rfl)
@[simp] theorem pIx_fz {l : List PV} {i : Int} : pIx (.fz l) (.int i) = atI l i := (rfl)
@[simp] theorem itemsOf_tup {l : List PV} : itemsOf (.tup l) = some l := (rfl)
@[simp] theorem itemsOf_lst {l : List PV} : itemsOf (.lst l) = some l := (rfl)
@[simp] theorem itemsOf_fz {l : List PV} : itemsOf (.fz l) = some l := (rfl)
@[simp] theorem isNn_non : isNn .non = some true := (rfl)
@[simp] theorem isNn_bl {b : Bool} : isNn (.bl b) = some false := (rfl)
@[simp] theorem isNn_int {i : Int} : isNn (.int i) = some false := (rfl)
@[simp] theorem isNn_str {x : Str} : isNn (.str x) = some false := (rfl)
@[simp] theorem isNn_tup {l : List PV} : isNn (.tup l) = some false := (rfl)
@[simp] theorem isNn_lst {l : List PV} : isNn (.lst l) = some false := (rfl)
@[simp] theorem pIsN_non {a : PV} : pIsN a .non = (isNn a).map .bl := by cases a <;> exact (rfl)
@[simp] theorem pNotN_non {a : PV} : pNotN a .non = (isNn a).map fun k => .bl (!k) := by cases a <;> exact (rfl)
@[simp] theorem pIsB_bl {a b : Bool} : pIsB (.bl a) (.bl b) = some (.bl (decide (a = b))) := (rfl)
@[simp] theorem pIV_int {g : Int → Int → PV} {i j : Int} : pIV g (.int i) (.int j) = some (g i j) := (rfl)
@[simp] theorem pIc_int {C : Int → Int → Prop} [DecidableRel C] {g : Int → Int → Int} {i j : Int} : pIc C g (.int i) (.int j) = if C i j then some (.int (g i j)) else none := (rfl)
@[simp] theorem pAdd_int {i j : Int} : pAdd (.int i) (.int j) = some (.int (i + j)) := (rfl)
@[simp] theorem pAdd_lst {a b : List PV} : pAdd (.lst a) (.lst b) = if a.length + b.length ≤ sizeLine then some (.lst (a ++ b)) else none := (rfl)
@[simp] theorem pAdd_tup {a b : List PV} : pAdd (.tup a) (.tup b) = if a.length + b.length ≤ sizeLine then some (.tup (a ++ b)) else none := (rfl)
@[simp] theorem pMul_int {i j : Int} : pMul (.int i) (.int j) = if CMulW i j then some (.int (i * j)) else none := (rfl)
@[simp] theorem pMul_lst {a : List PV} {k : Int} : pMul (.lst a) (.int k) = if -2 ^ 63 ≤ k ∧ k < 2 ^ 63 ∧ a.length * k.toNat ≤ sizeLine then some (.lst (List.replicate k.toNat a).flatten) else none := (rfl)
@[simp] theorem pMul_tup {a : List PV} {k : Int} : pMul (.tup a) (.int k) = if a ≠ [] ∧ 2 ≤ k ∧ a.length * k.toNat ≤ 1000000 then some (.tup (List.replicate k.toNat a).flatten) else none := (rfl)
@[simp] theorem pCatL_lst {a b : List PV} : pCatL (.lst a) (.lst b) = if a.length + b.length ≤ sizeLine then some (.lst (a ++ b)) else none := (rfl)
@[simp] theorem pRepL_lst {a : List PV} {k : Int} : pRepL (.lst a) (.int k) = if -2 ^ 63 ≤ k ∧ k < 2 ^ 63 ∧ a.length * k.toNat ≤ sizeLine then some (.lst (List.replicate k.toNat a).flatten) else none := (rfl)
@[simp] theorem gLen_tup {l : List PV} : gLen [.tup l] = some (.int l.length) := (rfl)
@[simp] theorem gLen_lst {l : List PV} : gLen [.lst l] = some (.int l.length) := (rfl)
@[simp] theorem gLen_fz {l : List PV} : gLen [.fz l] = some (.int l.length) := (rfl)
@[simp] theorem gAbs_int {i : Int} : gAbs [.int i] = some (.int i.natAbs) := by
  show some (PV.int (if i < 0 then -i else i)) = _
  congr 2
  split <;> omega
@[simp] theorem gInt_int {i : Int} : gInt [.int i] = some (.int i) := (rfl)
@[simp] theorem gInt_bl {b : Bool} : gInt [.bl b] = some (.int (if b = true then 1 else 0)) := (rfl)
@[simp] theorem gMax_2 {i j : Int} : gMax [.int i, .int j] = some (.int (max i j)) := by
  show some (PV.int (if j > i then j else i)) = _
  congr 2
  split <;> omega
@[simp] theorem gMin_2 {i j : Int} : gMin [.int i, .int j] = some (.int (min i j)) := by
  show some (PV.int (if j < i then j else i)) = _
  congr 2
  split <;> omega
@[simp] theorem gTuple_lst {l : List PV} : gTuple [.lst l] = some (.tup l) := (rfl)
@[simp] theorem gTuple_fz {l : List PV} : gTuple [.fz l] = some (.tup l) := (rfl)
@[simp] theorem gTuple_tup {l : List PV} : gTuple [.tup l] = some (.tup l) := (rfl)
@[simp] theorem gList_lst {l : List PV} : gList [.lst l] = some (.lst l) := (rfl)
@[simp] theorem gList_fz {l : List PV} : gList [.fz l] = some (.lst l) := (rfl)
@[simp] theorem gList_tup {l : List PV} : gList [.tup l] = some (.lst l) := (rfl)
theorem isi_int {t : String} {i : Int} : gIsi [.int i, .ty t] = (kitB "int" t).map .bl := (rfl)
@[simp] theorem isi_int_int {i : Int} : gIsi [.int i, .ty "int"] = some (.bl true) := by rw [isi_int, show kitB "int" "int" = some true by decide +kernel]; rfl
@[simp] theorem isi_int_bool {i : Int} : gIsi [.int i, .ty "bool"] = some (.bl false) := by rw [isi_int, show kitB "int" "bool" = some false by decide +kernel]; rfl
@[simp] theorem isi_int_str {i : Int} : gIsi [.int i, .ty "str"] = some (.bl false) := by rw [isi_int, show kitB "int" "str" = some false by decide +kernel]; rfl
@[simp] theorem isi_int_tuple {i : Int} : gIsi [.int i, .ty "tuple"] = some (.bl false) := by rw [isi_int, show kitB "int" "tuple" = some false by decide +kernel]; rfl
@[simp] theorem isi_tup_tuple {l : List PV} : gIsi [.tup l, .ty "tuple"] = some (.bl true) := by
  have : gIsi [.tup l, .ty "tuple"] = (kitB "tuple" "tuple").map .bl := rfl
  rw [this, show kitB "tuple" "tuple" = some true by decide +kernel]; rfl
@[simp] theorem isi_tup_int {l : List PV} : gIsi [.tup l, .ty "int"] = some (.bl false) := by
  have : gIsi [.tup l, .ty "int"] = (kitB "tuple" "int").map .bl := rfl
  rw [this, show kitB "tuple" "int" = some false by decide +kernel]; rfl
@[simp] theorem isi_str_str {x : Str} : gIsi [.str x, .ty "str"] = some (.bl true) := by
  have : gIsi [.str x, .ty "str"] = (kitB "str" "str").map .bl := rfl
  rw [this, show kitB "str" "str" = some true by decide +kernel]; rfl
@[simp] theorem ixN_nat {n k : Nat} (h : k < n) : ixN n (k : Int) = some k := by
  unfold ixN
  rw [if_pos (by omega), if_pos (by omega)]
  rfl
@[simp] theorem atI_natP {l : List PV} {k : Nat} : atI l (k : Int) = l[k]? := by
  unfold atI
  by_cases h : k < l.length
  · rw [ixN_nat h]; rfl
  · unfold ixN
    rw [if_pos (by omega), if_neg (by omega)]
    rw [List.getElem?_eq_none (by omega)]; rfl
@[simp] theorem atI_natP1 {l : List PV} {k : Nat} : atI l ((k : Int) + 1) = l[k + 1]? := atI_natP (k := k + 1)
@[simp] theorem atI_0 {l : List PV} : atI l 0 = l[0]? := atI_natP (k := 0)
@[simp] theorem atI_1 {l : List PV} : atI l 1 = l[1]? := atI_natP (k := 1)
@[simp] theorem atI_2 {l : List PV} : atI l 2 = l[2]? := atI_natP (k := 2)
theorem atI_3 {l : List PV} : atI l 3 = l[3]? := atI_natP (k := 3)
@[simp] theorem atI_last {l : List PV} {p : PV} : atI (l ++ [p]) (-1) = some p := by
  unfold atI ixN
  rw [if_neg (by decide), if_pos (by simp; omega)]
  have : (-1 + (((l ++ [p]).length : Nat) : Int)).toNat = l.length := by simp; omega
  simp only [Option.bind_some, this]
  simp
theorem atI_lastN {l : List PV} {p : PV} (h : l.getLast? = some p) : atI l (-1) = some p := by
  obtain ⟨k, rfl⟩ := List.getLast?_eq_some_iff.1 h
  exact atI_last
@[simp] theorem ixN_0 {n : Nat} : ixN (n + 1) 0 = some 0 := ixN_nat (k := 0) (by omega)
@[simp] theorem ixN_1 {n : Nat} : ixN (n + 2) 1 = some 1 := ixN_nat (k := 1) (by omega)
@[simp] theorem ixN_2 {n : Nat} : ixN (n + 3) 2 = some 2 := ixN_nat (k := 2) (by omega)
theorem line_ge {n : Nat} (h : n ≤ 16777216) : n ≤ sizeLine := by rw [sizeLine_eq]; exact h
theorem line_gt {n : Nat} (h : n < 16777216) : n < sizeLine := by rw [sizeLine_eq]; exact h
@[simp] theorem line_is : sizeLine = 16777216 := sizeLine_eq
@[simp] theorem iRange1_nat {n : Nat} (h : n < 2 ^ 62) : iRange1 [.int (n : Int)] = some (rangeP 0 n) := by
  unfold iRange1
  simp only
  rw [if_pos (by constructor <;> omega)]
  rfl
@[simp] theorem iZip_lst {l m : List PV} : iZipM [.lst l, .lst m] = some (zipP l m) := (rfl)
@[simp] theorem iZip_tup {l m : List PV} : iZipM [.tup l, .tup m] = some (zipP l m) := (rfl)
@[simp] theorem pSl_tup {l : List PV} {lo hi : Option Int} : pSl (.tup l) lo hi = some (.tup (cutP l lo hi)) := (rfl)
@[simp] theorem pSl_lst {l : List PV} {lo hi : Option Int} : pSl (.lst l) lo hi = some (.lst (cutP l lo hi)) := (rfl)
@[simp] theorem pSl_fz {l : List PV} {lo hi : Option Int} : pSl (.fz l) lo hi = some (.lst (cutP l lo hi)) := (rfl)
@[simp] theorem cut_1 {l : List PV} : cutP l (some 1) none = l.drop 1 := by
  unfold cutP HT.sIx
  simp only
  rw [if_neg (by decide)]
  cases l with
  | nil => rfl
  | cons p l => simp
@[simp] theorem toBs_nil : toBs [] = some [] := (rfl)
@[simp] theorem toBs_cons {b : Bool} {l : List PV} : toBs (.bl b :: l) = (toBs l).map fun r => b :: r := (rfl)
@[simp] theorem toIs_nil : toIs [] = some [] := (rfl)
@[simp] theorem toIs_cons {b : Int} {l : List PV} : toIs (.int b :: l) = (toIs l).map fun r => b :: r := (rfl)
@[simp] theorem gAll_map {l : List Bool} : gAll [.lst (l.map .bl)] = some (.bl (l.all id)) := by
  show (toBs (l.map .bl)).map _ = _
  rw [toBs_map]; rfl
theorem CMulW_of {i j : Int} {a b : Nat} (hi : i.natAbs < 2 ^ a) (hj : j.natAbs < 2 ^ b) (h : a + b < 1000000) (ha : 0 < a) (hb : 0 < b) : CMulW i j := by
  unfold CMulW
  have h1 : i.natAbs.log2 < a := by
    by_cases z : i.natAbs = 0
    · rw [z]; simpa using ha
    · exact (Nat.log2_lt z).2 hi
  have h2 : j.natAbs.log2 < b := by
    by_cases z : j.natAbs = 0
    · rw [z]; simpa using hb
    · exact (Nat.log2_lt z).2 hj
  omega
/-! ### what a def's mirror gives -/
def c0 (p : PV) (e : En) : Option (PV × PV) := match e[0]? with
  | some (some c) => some (p, c)
  | _ => none
@[simp] theorem c0_some {p c : PV} {e : En} : c0 p (some c :: e) = some (p, c) := (rfl)
def _root_.M.SOut.val : SOut → Option PV
  | .ret p _ => some p
  | .nxt _ => some .non
  | _ => none
def _root_.M.SOut.val0 : SOut → Option (PV × PV)
  | .ret p e => c0 p e
  | .nxt e => c0 .non e
  | _ => none
def _root_.M.SOut.valF : SOut → Option PV
  | .ret p _ => some p
  | _ => none
@[simp] theorem val_ret {p : PV} {e : En} : (SOut.ret p e).val = some p := (rfl)
@[simp] theorem val_nxt {e : En} : (SOut.nxt e).val = some .non := (rfl)
@[simp] theorem val0_ret {p : PV} {e : En} : (SOut.ret p e).val0 = c0 p e := (rfl)
@[simp] theorem val0_nxt {e : En} : (SOut.nxt e).val0 = c0 .non e := (rfl)
@[simp] theorem valF_ret {p : PV} {e : En} : (SOut.ret p e).valF = some p := (rfl)
@[simp] theorem outV_run {L : Nat} {ms : Ms} {ps : List PV} : outV (M.runN L ms) ps = (ms (startE L ps)).val := by
  unfold outV M.runN SOut.val
  cases ms (startE L ps) <;> rfl
@[simp] theorem out0_run {L : Nat} {ms : Ms} {ps : List PV} : out0 (M.runN L ms) ps = (ms (startE L ps)).val0 := by
  unfold out0 M.runN SOut.val0 c0
  cases ms (startE L ps) <;> rfl
@[simp] theorem outV_runF {L : Nat} {ms : Ms} {ps : List PV} : outV (M.runF L ms) ps = (ms (startE L ps)).valF := by
  unfold outV M.runF SOut.valF
  cases ms (startE L ps) <;> rfl
@[simp] theorem startE_is {L : Nat} {ps : List PV} : startE L ps = ps.map some ++ List.replicate (L - ps.length) none := (rfl)

/-! ### words -/
@[simp] theorem w_flat_flat : eqD (.str (Str.ofString "flat")) (.str (Str.ofString "flat")) = some true := by decide +kernel
@[simp] theorem w_flat_steep : eqD (.str (Str.ofString "flat")) (.str (Str.ofString "steep")) = some false := by decide +kernel
@[simp] theorem w_flat_level : eqD (.str (Str.ofString "flat")) (.str (Str.ofString "level")) = some false := by decide +kernel
@[simp] theorem w_flat_plumb : eqD (.str (Str.ofString "flat")) (.str (Str.ofString "plumb")) = some false := by decide +kernel
@[simp] theorem w_flat_above : eqD (.str (Str.ofString "flat")) (.str (Str.ofString "above")) = some false := by decide +kernel
@[simp] theorem w_flat_below : eqD (.str (Str.ofString "flat")) (.str (Str.ofString "below")) = some false := by decide +kernel
@[simp] theorem w_flat_on : eqD (.str (Str.ofString "flat")) (.str (Str.ofString "on")) = some false := by decide +kernel
@[simp] theorem w_steep_flat : eqD (.str (Str.ofString "steep")) (.str (Str.ofString "flat")) = some false := by decide +kernel
@[simp] theorem w_steep_steep : eqD (.str (Str.ofString "steep")) (.str (Str.ofString "steep")) = some true := by decide +kernel
@[simp] theorem w_steep_level : eqD (.str (Str.ofString "steep")) (.str (Str.ofString "level")) = some false := by decide +kernel
@[simp] theorem w_steep_plumb : eqD (.str (Str.ofString "steep")) (.str (Str.ofString "plumb")) = some false := by decide +kernel
@[simp] theorem w_steep_above : eqD (.str (Str.ofString "steep")) (.str (Str.ofString "above")) = some false := by decide +kernel
@[simp] theorem w_steep_below : eqD (.str (Str.ofString "steep")) (.str (Str.ofString "below")) = some false := by decide +kernel
@[simp] theorem w_steep_on : eqD (.str (Str.ofString "steep")) (.str (Str.ofString "on")) = some false := by decide +kernel
@[simp] theorem w_level_flat : eqD (.str (Str.ofString "level")) (.str (Str.ofString "flat")) = some false := by decide +kernel
@[simp] theorem w_level_steep : eqD (.str (Str.ofString "level")) (.str (Str.ofString "steep")) = some false := by decide +kernel
@[simp] theorem w_level_level : eqD (.str (Str.ofString "level")) (.str (Str.ofString "level")) = some true := by decide +kernel
@[simp] theorem w_level_plumb : eqD (.str (Str.ofString "level")) (.str (Str.ofString "plumb")) = some false := by decide +kernel
@[simp] theorem w_level_above : eqD (.str (Str.ofString "level")) (.str (Str.ofString "above")) = some false := by decide +kernel
@[simp] theorem w_level_below : eqD (.str (Str.ofString "level")) (.str (Str.ofString "below")) = some false := by decide +kernel
@[simp] theorem w_level_on : eqD (.str (Str.ofString "level")) (.str (Str.ofString "on")) = some false := by decide +kernel
@[simp] theorem w_plumb_flat : eqD (.str (Str.ofString "plumb")) (.str (Str.ofString "flat")) = some false := by decide +kernel
@[simp] theorem w_plumb_steep : eqD (.str (Str.ofString "plumb")) (.str (Str.ofString "steep")) = some false := by decide +kernel
@[simp] theorem w_plumb_level : eqD (.str (Str.ofString "plumb")) (.str (Str.ofString "level")) = some false := by decide +kernel
@[simp] theorem w_plumb_plumb : eqD (.str (Str.ofString "plumb")) (.str (Str.ofString "plumb")) = some true := by decide +kernel
@[simp] theorem w_plumb_above : eqD (.str (Str.ofString "plumb")) (.str (Str.ofString "above")) = some false := by decide +kernel
@[simp] theorem w_plumb_below : eqD (.str (Str.ofString "plumb")) (.str (Str.ofString "below")) = some false := by decide +kernel
@[simp] theorem w_plumb_on : eqD (.str (Str.ofString "plumb")) (.str (Str.ofString "on")) = some false := by decide +kernel
@[simp] theorem w_above_flat : eqD (.str (Str.ofString "above")) (.str (Str.ofString "flat")) = some false := by decide +kernel
@[simp] theorem w_above_steep : eqD (.str (Str.ofString "above")) (.str (Str.ofString "steep")) = some false := by decide +kernel
@[simp] theorem w_above_level : eqD (.str (Str.ofString "above")) (.str (Str.ofString "level")) = some false := by decide +kernel
@[simp] theorem w_above_plumb : eqD (.str (Str.ofString "above")) (.str (Str.ofString "plumb")) = some false := by decide +kernel
@[simp] theorem w_above_above : eqD (.str (Str.ofString "above")) (.str (Str.ofString "above")) = some true := by decide +kernel
@[simp] theorem w_above_below : eqD (.str (Str.ofString "above")) (.str (Str.ofString "below")) = some false := by decide +kernel
@[simp] theorem w_above_on : eqD (.str (Str.ofString "above")) (.str (Str.ofString "on")) = some false := by decide +kernel
@[simp] theorem w_below_flat : eqD (.str (Str.ofString "below")) (.str (Str.ofString "flat")) = some false := by decide +kernel
@[simp] theorem w_below_steep : eqD (.str (Str.ofString "below")) (.str (Str.ofString "steep")) = some false := by decide +kernel
@[simp] theorem w_below_level : eqD (.str (Str.ofString "below")) (.str (Str.ofString "level")) = some false := by decide +kernel
@[simp] theorem w_below_plumb : eqD (.str (Str.ofString "below")) (.str (Str.ofString "plumb")) = some false := by decide +kernel
@[simp] theorem w_below_above : eqD (.str (Str.ofString "below")) (.str (Str.ofString "above")) = some false := by decide +kernel
@[simp] theorem w_below_below : eqD (.str (Str.ofString "below")) (.str (Str.ofString "below")) = some true := by decide +kernel
@[simp] theorem w_below_on : eqD (.str (Str.ofString "below")) (.str (Str.ofString "on")) = some false := by decide +kernel
@[simp] theorem w_on_flat : eqD (.str (Str.ofString "on")) (.str (Str.ofString "flat")) = some false := by decide +kernel
@[simp] theorem w_on_steep : eqD (.str (Str.ofString "on")) (.str (Str.ofString "steep")) = some false := by decide +kernel
@[simp] theorem w_on_level : eqD (.str (Str.ofString "on")) (.str (Str.ofString "level")) = some false := by decide +kernel
@[simp] theorem w_on_plumb : eqD (.str (Str.ofString "on")) (.str (Str.ofString "plumb")) = some false := by decide +kernel
@[simp] theorem w_on_above : eqD (.str (Str.ofString "on")) (.str (Str.ofString "above")) = some false := by decide +kernel
@[simp] theorem w_on_below : eqD (.str (Str.ofString "on")) (.str (Str.ofString "below")) = some false := by decide +kernel
@[simp] theorem w_on_on : eqD (.str (Str.ofString "on")) (.str (Str.ofString "on")) = some true := by decide +kernel
@[simp] theorem wi_flat_level : inD (.str (Str.ofString "flat")) (.tup [.str (Str.ofString "level"), .str (Str.ofString "plumb")]) = some false := by decide +kernel
@[simp] theorem wi_flat_flat : inD (.str (Str.ofString "flat")) (.tup [.str (Str.ofString "flat"), .str (Str.ofString "steep")]) = some true := by decide +kernel
@[simp] theorem wi_steep_level : inD (.str (Str.ofString "steep")) (.tup [.str (Str.ofString "level"), .str (Str.ofString "plumb")]) = some false := by decide +kernel
@[simp] theorem wi_steep_flat : inD (.str (Str.ofString "steep")) (.tup [.str (Str.ofString "flat"), .str (Str.ofString "steep")]) = some true := by decide +kernel
@[simp] theorem wi_level_level : inD (.str (Str.ofString "level")) (.tup [.str (Str.ofString "level"), .str (Str.ofString "plumb")]) = some true := by decide +kernel
@[simp] theorem wi_level_flat : inD (.str (Str.ofString "level")) (.tup [.str (Str.ofString "flat"), .str (Str.ofString "steep")]) = some false := by decide +kernel
@[simp] theorem wi_plumb_level : inD (.str (Str.ofString "plumb")) (.tup [.str (Str.ofString "level"), .str (Str.ofString "plumb")]) = some true := by decide +kernel
@[simp] theorem wi_plumb_flat : inD (.str (Str.ofString "plumb")) (.tup [.str (Str.ofString "flat"), .str (Str.ofString "steep")]) = some false := by decide +kernel
@[simp] theorem wi_above_level : inD (.str (Str.ofString "above")) (.tup [.str (Str.ofString "level"), .str (Str.ofString "plumb")]) = some false := by decide +kernel
@[simp] theorem wi_above_flat : inD (.str (Str.ofString "above")) (.tup [.str (Str.ofString "flat"), .str (Str.ofString "steep")]) = some false := by decide +kernel
@[simp] theorem wi_below_level : inD (.str (Str.ofString "below")) (.tup [.str (Str.ofString "level"), .str (Str.ofString "plumb")]) = some false := by decide +kernel
@[simp] theorem wi_below_flat : inD (.str (Str.ofString "below")) (.tup [.str (Str.ofString "flat"), .str (Str.ofString "steep")]) = some false := by decide +kernel
@[simp] theorem wi_on_level : inD (.str (Str.ofString "on")) (.tup [.str (Str.ofString "level"), .str (Str.ofString "plumb")]) = some false := by decide +kernel
@[simp] theorem wi_on_flat : inD (.str (Str.ofString "on")) (.tup [.str (Str.ofString "flat"), .str (Str.ofString "steep")]) = some false := by decide +kernel
end M

namespace M
open PySem PySem.Spec PyProof.Rows L2
/-! ### points, kinds, rises -/
abbrev P2 := Int × Int
def pt (p : P2) : PV := .tup [.int p.1, .int p.2]
def kd (b : Bool) : PV := .str (if b = true then "flat" else "steep")
@[simp] theorem kd_true : kd true = .str "flat" := (rfl)
@[simp] theorem kd_false : kd false = .str "steep" := (rfl)
@[simp] theorem eqD_kd {a b : Bool} : eqD (kd a) (kd b) = some (a == b) := by cases a <;> cases b <;> simp
@[simp] theorem eqD_kd_flat {a : Bool} : eqD (kd a) (.str "flat") = some a := by cases a <;> simp
@[simp] theorem eqD_kd_steep {a : Bool} : eqD (kd a) (.str "steep") = some (!a) := by cases a <;> simp
@[simp] theorem eqD_kd_level {a : Bool} : eqD (kd a) (.str "level") = some false := by cases a <;> simp
@[simp] theorem eqD_kd_plumb {a : Bool} : eqD (kd a) (.str "plumb") = some false := by cases a <;> simp
@[simp] theorem inD_kd_lp {a : Bool} : inD (kd a) (.tup [.str "level", .str "plumb"]) = some false := by cases a <;> simp
@[simp] theorem inD_kd_fs {a : Bool} : inD (kd a) (.tup [.str "flat", .str "steep"]) = some true := by cases a <;> simp
theorem pl_kd {n : Nat} {a : Bool} : pl n (kd a) = true := by
  have h : ∀ x : Str, pl n (.str x) = PyData.strOk x := fun x => by cases n <;> rfl
  unfold kd
  rw [h]
  cases a <;> decide +kernel
@[simp] theorem eqD_kd_N {a : Bool} : eqD (kd a) .non = some false := eqD_false (n := 0) pl_kd rfl (by cases a <;> simp)
@[simp] theorem eqD_N_kd {a : Bool} : eqD .non (kd a) = some false := eqD_false (n := 0) rfl pl_kd (by cases a <;> simp)
@[simp] theorem isNn_kd {a : Bool} : isNn (kd a) = some false := by cases a <;> rfl
theorem kd_inj {a b : Bool} : kd a = kd b ↔ a = b := by
  cases a <;> cases b <;> simp <;> decide +kernel
theorem pl_pt {n : Nat} {p : P2} : pl (n + 1) (pt p) = true := by
  cases n <;> rfl
@[simp] theorem eqD_pt {p q : P2} : eqD (pt p) (pt q) = some (decide (p = q)) := by
  unfold pt
  rw [eqD_P2]
  congr 1
  cases p; cases q
  simp
theorem pt_inj {p q : P2} : pt p = pt q ↔ p = q := by
  cases p; cases q
  simp [pt]
@[simp] theorem items_pt {p : P2} : itemsOf (pt p) = some [.int p.1, .int p.2] := (rfl)
@[simp] theorem ix_pt0 {p : P2} : pIx (pt p) (.int 0) = some (.int p.1) := by simp [pt]
@[simp] theorem ix_pt1 {p : P2} : pIx (pt p) (.int 1) = some (.int p.2) := by simp [pt]
@[simp] theorem unp_pt {p : P2} {i j : Nat} {e : En} : unpO [i, j] (pt p) e = .nxt ((e.set i (some (.int p.1))).set j (some (.int p.2))) := (rfl)
@[simp] theorem isi_pt {p : P2} : gIsi [pt p, .ty "tuple"] = some (.bl true) := isi_tup_tuple
@[simp] theorem isNn_pt {p : P2} : isNn (pt p) = some false := (rfl)
@[simp] theorem len_pt {p : P2} : gLen [pt p] = some (.int 2) := (rfl)
/-- from p to q along the kind -/
def Go (k : Bool) (p q : P2) : Prop := if k = true then p.2 = q.2 ∧ p.1 < q.1 else p.1 = q.1 ∧ p.2 < q.2
instance {k : Bool} {p q : P2} : Decidable (Go k p q) := by unfold Go; infer_instance
@[simp] theorem Go_true {p q : P2} : Go true p q ↔ p.2 = q.2 ∧ p.1 < q.1 := by simp [Go]
@[simp] theorem Go_false {p q : P2} : Go false p q ↔ p.1 = q.1 ∧ p.2 < q.2 := by simp [Go]
theorem Go.ne {k : Bool} {p q : P2} (h : Go k p q) : p ≠ q := by
  rintro rfl
  cases k <;> simp at h
theorem Go.one {k m : Bool} {p q : P2} (h : Go k p q) (h2 : Go m p q) : k = m := by
  cases k <;> cases m <;> simp at * <;> omega
def Alt : Bool → List P2 → Prop
  | _, [] => True
  | _, [_] => True
  | k, p :: q :: l => Go (!k) p q ∧ Alt (!k) (q :: l)
def kAt (k : Bool) : Nat → Bool
  | 0 => k
  | n + 1 => !(kAt k n)
theorem kAt_succ' {k : Bool} : ∀ {n : Nat}, kAt k (n + 1) = kAt (!k) n
  | 0 => rfl
  | n + 1 => by
    show (!(kAt k (n + 1))) = !(kAt (!k) n)
    rw [kAt_succ' (n := n)]
theorem Alt.snoc : ∀ {k : Bool} {l : List P2} {p q : P2}, Alt k (l ++ [p]) → Go (kAt k (l.length + 1)) p q → Alt k (l ++ [p, q])
  | k, [], p, q, _, h => ⟨by simpa [kAt] using h, trivial⟩
  | k, [a], p, q, h, h2 => ⟨h.1, by simpa [kAt] using h2, trivial⟩
  | k, a :: b :: l, p, q, h, h2 => by
    refine ⟨h.1, Alt.snoc (l := b :: l) h.2 ?_⟩
    have : kAt (!k) ((b :: l).length + 1) = kAt k ((a :: b :: l).length + 1) := by
      rw [← kAt_succ']
      rfl
    rw [this]
    exact h2
theorem Alt.init : ∀ {k : Bool} {l : List P2} {p : P2}, Alt k (l ++ [p]) → Alt k l
  | _, [], _, _ => trivial
  | _, [_], _, _ => trivial
  | _, a :: b :: l, p, h => ⟨h.1, Alt.init (l := b :: l) h.2⟩
theorem Alt.get : ∀ {k : Bool} {l : List P2} {i : Nat} {p q : P2}, Alt k l → l[i]? = some p → l[i + 1]? = some q → Go (kAt k (i + 1)) p q
  | k, [], i, p, q, _, h, _ => by simp at h
  | k, [a], i, p, q, _, h, h2 => by simp at h2
  | k, a :: b :: l, 0, p, q, h, h1, h2 => by
    simp at h1 h2; subst h1; subst h2
    exact h.1
  | k, a :: b :: l, i + 1, p, q, h, h1, h2 => by
    have := Alt.get (k := !k) (l := b :: l) (i := i) h.2 h1 h2
    rw [← kAt_succ'] at this
    exact this
/-- the kind of a step, if it has one -/
def kOf (p q : P2) : Option Bool := if Go true p q then some true else if Go false p q then some false else none
theorem kOf_go {k : Bool} {p q : P2} (h : Go k p q) : kOf p q = some k := by
  unfold kOf
  cases k
  · rw [if_neg (by simp at *; omega), if_pos h]
  · rw [if_pos h]
theorem kOf_some {k : Bool} {p q : P2} (h : kOf p q = some k) : Go k p q := by
  unfold kOf at h
  split at h
  · cases h; assumption
  · split at h
    · cases h; assumption
    · cases h
@[simp] theorem kOf_self {p : P2} : kOf p p = none := by
  unfold kOf
  rw [if_neg (by simp), if_neg (by simp)]
/-- steps of a row -/
def Stp (p q : P2) : Prop := p = q ∨ ∃ k, Go k p q
theorem Stp.none {p q : P2} (h : Stp p q) (h2 : kOf p q = none) : p = q := by
  rcases h with h | ⟨k, h⟩
  · exact h
  · rw [kOf_go h] at h2; cases h2
/-- a row of points: each step -/
def Row : List P2 → Prop
  | p :: q :: l => Stp p q ∧ Row (q :: l)
  | _ => True
theorem Row.get : ∀ {l : List P2} {i : Nat} {p q : P2}, Row l → l[i]? = some p → l[i + 1]? = some q → Stp p q
  | [], i, p, q, _, h, _ => by simp at h
  | [a], i, p, q, _, h, h2 => by simp at h2
  | a :: b :: l, 0, p, q, h, h1, h2 => by
    simp at h1 h2; subst h1; subst h2
    exact h.1
  | a :: b :: l, i + 1, p, q, h, h1, h2 => Row.get (l := b :: l) (i := i) h.2 h1 h2
/-- the corners of the rise of a row -/
def riseBy (last : Bool) : Bool → List P2 → List P2
  | k, p :: q :: l => match kOf p q with
    | some m => if m = k then riseBy last k (q :: l) else p :: riseBy last m (q :: l)
    | none => riseBy last k (q :: l)
  | k, [p] => if last = k then [] else [p]
  | _, [] => []
/-- how many steps in: the corners told so far, and the kind -/
def rbGo : Bool → List P2 → List P2 × Bool
  | k, p :: q :: l => match kOf p q with
    | some m => if m = k then rbGo k (q :: l) else (p :: (rbGo m (q :: l)).1, (rbGo m (q :: l)).2)
    | none => rbGo k (q :: l)
  | k, _ => ([], k)
theorem riseBy_go {last : Bool} : ∀ {k : Bool} {l : List P2} {z : P2}, l.getLast? = some z → riseBy last k l = (rbGo k l).1 ++ if last = (rbGo k l).2 then [] else [z]
  | k, [], z, h => by cases h
  | k, [p], z, h => by
    simp at h; subst h
    by_cases q : last = k <;> simp [riseBy, rbGo, q]
  | k, p :: q :: l, z, h => by
    have h2 : (q :: l).getLast? = some z := by simpa using h
    unfold riseBy rbGo
    cases hk : kOf p q with
    | none => simp only; exact riseBy_go h2
    | some m =>
      simp only
      split
      · exact riseBy_go h2
      · rw [riseBy_go h2]; rfl
inductive Rs where
  | level (v : Int) | plumb (v : Int) | bent (k : Bool) (l : List P2)
def Rs.pv : Rs → PV
  | .level v => .tup [.str "level", .int v]
  | .plumb v => .tup [.str "plumb", .int v]
  | .bent k l => .tup [kd k, .tup (l.map pt)]
def Inb (B : Int) (p : P2) : Prop := -B ≤ p.1 ∧ p.1 ≤ B ∧ -B ≤ p.2 ∧ p.2 ≤ B
def Rs.Ok (B : Int) : Rs → Prop
  | .level v => -B ≤ v ∧ v ≤ B
  | .plumb v => -B ≤ v ∧ v ≤ B
  | .bent k l => l ≠ [] ∧ l.length ≤ 400 ∧ (∀ p ∈ l, Inb B p) ∧ Alt k l
theorem drop_cons {α : Type} {l s : List α} {j : Nat} {p : α} (h : l.drop j = p :: s) : l[j]? = some p ∧ l.drop (j + 1) = s := by
  have h1 : (l.drop j)[0]? = some p := by rw [h]; rfl
  rw [List.getElem?_drop] at h1
  refine ⟨by simpa using h1, ?_⟩
  have : (l.drop j).drop 1 = s := by rw [h]; rfl
  rw [List.drop_drop] at this
  exact this
def mkRs (f : Bool) (p0 : P2) : List P2 → Rs
  | [] => if f = true then .level p0.2 else .plumb p0.1
  | c :: C => .bent f (c :: C)
theorem riseBy_len {last : Bool} : ∀ {k : Bool} {l : List P2}, (riseBy last k l).length ≤ l.length
  | k, [] => Nat.le_refl _
  | k, [p] => by
    unfold riseBy
    split <;> simp
  | k, p :: q :: l => by
    have h := fun m => riseBy_len (last := last) (k := m) (l := q :: l)
    unfold riseBy
    split
    · split
      · have := h k; simp at *; omega
      · rename_i m _ _; have := h m; simp at *; omega
    · have := h k; simp at *; omega
/-! ### loops over items -/
@[simp] theorem loopM_nil {f : PV → En → Option En} {b : Ms} {e : En} : loopM f b [] e = .nxt e := (rfl)
def loopK (o : SOut) (f : PV → En → Option En) (b : Ms) (l : List PV) : SOut := match o with
  | .nxt e2 => loopM f b l e2
  | .cnt e2 => loopM f b l e2
  | .brk e2 => .nxt e2
  | .ret q e2 => .ret q e2
  | .exc x e2 => .exc x e2
  | .bad => .bad
def stepE (o : Option En) (g : En → SOut) : SOut := match o with
  | none => .bad
  | some e => g e
@[simp] theorem stepE_some {e : En} {g : En → SOut} : stepE (some e) g = g e := (rfl)
@[simp] theorem stepE_none {g : En → SOut} : stepE none g = .bad := (rfl)
@[simp] theorem loopM_cons {f : PV → En → Option En} {b : Ms} {p : PV} {l : List PV} {e : En} : loopM f b (p :: l) e = stepE (f p e) fun e1 => loopK (b e1) f b l := by
  show (match f p e with
    | none => SOut.bad
    | some e1 => match b e1 with
      | .nxt e2 => loopM f b l e2
      | .cnt e2 => loopM f b l e2
      | .brk e2 => .nxt e2
      | .ret q e2 => .ret q e2
      | .exc x e2 => .exc x e2
      | .bad => .bad) = _
  unfold stepE loopK
  rfl
@[simp] theorem loopK_nxt {f : PV → En → Option En} {b : Ms} {l : List PV} {e : En} : loopK (.nxt e) f b l = loopM f b l e := (rfl)
@[simp] theorem loopK_cnt {f : PV → En → Option En} {b : Ms} {l : List PV} {e : En} : loopK (.cnt e) f b l = loopM f b l e := (rfl)
@[simp] theorem loopK_brk {f : PV → En → Option En} {b : Ms} {l : List PV} {e : En} : loopK (.brk e) f b l = .nxt e := (rfl)
@[simp] theorem loopK_ret {f : PV → En → Option En} {b : Ms} {l : List PV} {e : En} {q : PV} : loopK (.ret q e) f b l = .ret q e := (rfl)
theorem rangeP_len {lo : Int} {n : Nat} : (rangeP lo n).length = n := by simp [rangeP]
theorem rangeP_zero {lo : Int} : rangeP lo 0 = [] := (rfl)
theorem rangeP_succ {lo : Int} {n : Nat} : rangeP lo (n + 1) = .int lo :: rangeP (lo + 1) n := by
  unfold rangeP
  rw [List.range_succ_eq_map]
  simp
  intro a _
  omega
/-! ### comprehensions -/
theorem lcLoop_map {own : List Nat} {f : PV → En → Option En} {mt : Mo Bool} {me : Mo PV} (g : PV → Option PV) {e : En} : ∀ {l acc : List PV}, acc.length + l.length ≤ 16777216 →
    (∀ p ∈ l, ∃ e1, f p (wipeE e own) = some e1 ∧ ((g p = none ∧ ∃ e2, mt e1 = .ok false e2 ∧ restE own e e2 = e) ∨ (∃ q, g p = some q ∧ ∃ e2 e3, mt e1 = .ok true e2 ∧ me e2 = .ok q e3 ∧ restE own e e3 = e))) →
    lcLoop own f mt me l acc e = .ok (.lst (acc ++ l.filterMap g)) e
  | [], acc, _, _ => by simp [lcLoop]
  | p :: l, acc, hl, h => by
    obtain ⟨e1, h1, h2⟩ := h p List.mem_cons_self
    have ih : ∀ {acc : List PV}, acc.length + l.length ≤ 16777216 → lcLoop own f mt me l acc e = .ok (.lst (acc ++ l.filterMap g)) e := fun hl => lcLoop_map g hl fun q hq => h q (List.mem_cons_of_mem _ hq)
    simp only [List.length_cons] at hl
    unfold lcLoop
    simp only [h1]
    rcases h2 with ⟨h2, e2, h3, h4⟩ | ⟨q, h2, e2, e3, h3, h4, h5⟩
    · simp only [h3, h4]
      rw [ih (by omega), List.filterMap_cons_none h2]
    · simp only [h3, h4, h5]
      rw [if_pos (line_gt (by omega)), ih (by simp; omega), List.filterMap_cons_some h2]
      simp
end M

namespace M
open PySem PySem.Spec PyProof.Rows L2
/-! ### pieces of rises -/
@[simp] theorem isi_kd {k : Bool} : gIsi [kd k, .ty "str"] = some (.bl true) := isi_str_str
@[simp] theorem truth_kd {k : Bool} : truth (kd k) = some true := by
  cases k
  · show (if (Str.ofString "steep").length ≤ sizeLine then some (((Str.ofString "steep").length : Int) != 0) else none) = _
    rw [show (Str.ofString "steep").length = 5 by decide +kernel, if_pos (line_ge (by decide))]
    rfl
  · show (if (Str.ofString "flat").length ≤ sizeLine then some (((Str.ofString "flat").length : Int) != 0) else none) = _
    rw [show (Str.ofString "flat").length = 4 by decide +kernel, if_pos (line_ge (by decide))]
    rfl
def along (k : Bool) (p : P2) : Int := if k = true then p.1 else p.2
def across (k : Bool) (p : P2) : Int := if k = true then p.2 else p.1
@[simp] theorem along_true {p : P2} : along true p = p.1 := rfl
@[simp] theorem along_false {p : P2} : along false p = p.2 := rfl
@[simp] theorem across_true {p : P2} : across true p = p.2 := rfl
@[simp] theorem across_false {p : P2} : across false p = p.1 := rfl
theorem Go.iff {k : Bool} {p q : P2} : Go k p q ↔ across k p = across k q ∧ along k p < along k q := by cases k <;> simp
structure Pc where
  k : Bool
  a : Int
  lo : Option Int
  hi : Option Int
def optP : Option Int → PV
  | none => .non
  | some i => .int i
@[simp] theorem optP_none : optP none = .non := (rfl)
@[simp] theorem optP_some {i : Int} : optP (some i) = .int i := (rfl)
def optPt : Option P2 → PV
  | none => .non
  | some p => pt p
@[simp] theorem optPt_none : optPt none = .non := (rfl)
@[simp] theorem optPt_some {p : P2} : optPt (some p) = pt p := (rfl)
def Pc.pv (c : Pc) : PV := .tup [kd c.k, .int c.a, optP c.lo, optP c.hi]
def pcsL : Bool → Option P2 → List P2 → List Pc
  | k, some c, [] => [⟨k, across k c, some (along k c), none⟩]
  | _, none, [] => []
  | k, low, c :: l => ⟨k, across k c, low.map (along k), some (along k c)⟩ :: pcsL (!k) (some c) l
def Rs.pcs : Rs → List Pc
  | .level v => [⟨true, v, none, none⟩]
  | .plumb v => [⟨false, v, none, none⟩]
  | .bent k l => pcsL k none l
def leO (o : Option Int) (i : Int) : Bool := match o with
  | none => true
  | some j => decide (j ≤ i)
def geO (o : Option Int) (i : Int) : Bool := match o with
  | none => true
  | some j => decide (i ≤ j)
@[simp] theorem leO_none {i : Int} : leO none i = true := rfl
@[simp] theorem leO_some {i j : Int} : leO (some j) i = decide (j ≤ i) := rfl
@[simp] theorem geO_none {i : Int} : geO none i = true := rfl
@[simp] theorem geO_some {i j : Int} : geO (some j) i = decide (i ≤ j) := rfl
def Pc.on (c : Pc) (p : P2) : Bool := decide (across c.k p = c.a) && (leO c.lo (along c.k p) && geO c.hi (along c.k p))
def Rs.on (r : Rs) (p : P2) : Bool := r.pcs.any fun c => c.on p
/-- a point of the way that has been gone along this piece -/
theorem rise_on {last : Bool} : ∀ {l : List P2} {k : Bool} {low : Option P2} {h p : P2}, Row (h :: l) → riseBy last k (h :: l) ≠ [] ∨ low ≠ none →
    (∀ c, low = some c → across k c = across k h ∧ along k c ≤ along k p) → across k p = across k h → along k p ≤ along k h →
    ((pcsL k low (riseBy last k (h :: l))).any fun c => c.on p) = true
  | [], k, low, h, p, _, hn, hc, ha, hp => by
    unfold riseBy at *
    by_cases q : last = k
    · rw [if_pos q] at *
      cases low with
      | none => simp at hn
      | some c =>
        obtain ⟨h1, h2⟩ := hc c rfl
        simp [pcsL, Pc.on, h1, h2, ha]
    · rw [if_neg q] at *
      cases low with
      | none => simp [pcsL, Pc.on, ha, hp]
      | some c =>
        obtain ⟨h1, h2⟩ := hc c rfl
        simp [pcsL, Pc.on, h2, ha, hp]
  | q :: l, k, low, h, p, hr, hn, hc, ha, hp => by
    unfold riseBy at *
    cases hk : kOf h q with
    | none =>
      have e := hr.1.none hk
      subst e
      simp only [hk] at hn ⊢
      exact rise_on hr.2 hn hc ha hp
    | some m =>
      simp only [hk] at hn ⊢
      have g := kOf_some hk
      by_cases hm : m = k
      · subst hm
        rw [if_pos rfl] at hn ⊢
        obtain ⟨g1, g2⟩ := Go.iff.1 g
        exact rise_on hr.2 hn (fun c e => by rw [← g1]; exact hc c e) (by rw [← g1]; exact ha) (by omega)
      · rw [if_neg hm]
        cases low with
        | none => simp [pcsL, Pc.on, ha, hp]
        | some c =>
          obtain ⟨h1, h2⟩ := hc c rfl
          simp [pcsL, Pc.on, h2, ha, hp]
theorem mem_pcs {k : Bool} {low : Option P2} {c : P2} {l : List P2} {p : P2} (h : ((pcsL (!k) (some c) l).any fun z => z.on p) = true) : ((pcsL k low (c :: l)).any fun z => z.on p) = true := by
  have : pcsL k low (c :: l) = ⟨k, across k c, low.map (along k), some (along k c)⟩ :: pcsL (!k) (some c) l := by cases low <;> rfl
  rw [this, List.any_cons, h, Bool.or_true]
theorem ne_not {k m : Bool} (h : m ≠ k) : m = !k := by cases k <;> cases m <;> simp_all
theorem rise_on_all {last : Bool} : ∀ {l : List P2} {k : Bool} {low : Option P2} {h p : P2}, Row (h :: l) → riseBy last k (h :: l) ≠ [] ∨ low ≠ none →
    (∀ c, low = some c → across k c = across k h ∧ along k c ≤ along k h) → p ∈ h :: l →
    ((pcsL k low (riseBy last k (h :: l))).any fun c => c.on p) = true
  | [], k, low, h, p, hr, hn, hc, hp => by
    simp at hp; subst hp
    exact rise_on hr hn hc rfl (Int.le_refl _)
  | q :: l, k, low, h, p, hr, hn, hc, hp => by
    rcases List.mem_cons.1 hp with e | hp
    · subst e; exact rise_on hr hn hc rfl (Int.le_refl _)
    · unfold riseBy at *
      cases hk : kOf h q with
      | none =>
        have e := hr.1.none hk
        subst e
        simp only [hk] at hn ⊢
        exact rise_on_all hr.2 hn hc hp
      | some m =>
        simp only [hk] at hn ⊢
        have g := kOf_some hk
        by_cases hm : m = k
        · subst hm
          rw [if_pos rfl] at hn ⊢
          obtain ⟨g1, g2⟩ := Go.iff.1 g
          exact rise_on_all hr.2 hn (fun c e => by have := hc c e; omega) hp
        · rw [if_neg hm]
          refine mem_pcs ?_
          rw [ne_not hm]
          rw [ne_not hm] at g
          obtain ⟨g1, g2⟩ := Go.iff.1 g
          exact rise_on_all hr.2 (.inr (by simp)) (fun c e => by cases e; omega) hp
theorem rise_on_end {last : Bool} : ∀ {l : List P2} {k : Bool} {low : Option P2} {h z p : P2}, Row (h :: l) → riseBy last k (h :: l) ≠ [] ∨ low ≠ none →
    (∀ c, low = some c → across k c = across k h ∧ along k c ≤ along k h) → (h :: l).getLast? = some z → across last p = across last z → along last z ≤ along last p →
    ((pcsL k low (riseBy last k (h :: l))).any fun c => c.on p) = true
  | [], k, low, h, z, p, hr, hn, hc, hz, h1, h2 => by
    simp at hz; subst hz
    unfold riseBy at *
    by_cases q : last = k
    · subst q
      rw [if_pos rfl] at *
      cases low with
      | none => simp at hn
      | some c =>
        obtain ⟨h3, h4⟩ := hc c rfl
        simp [pcsL, Pc.on, h3, h1]
        omega
    · rw [if_neg q] at *
      refine mem_pcs ?_
      rw [ne_not q] at h1 h2
      simp [pcsL, Pc.on, h1, h2]
  | q :: l, k, low, h, z, p, hr, hn, hc, hz, h1, h2 => by
    have hz2 : (q :: l).getLast? = some z := by simpa using hz
    unfold riseBy at *
    cases hk : kOf h q with
    | none =>
      have e := hr.1.none hk
      subst e
      simp only [hk] at hn ⊢
      exact rise_on_end hr.2 hn hc hz2 h1 h2
    | some m =>
      simp only [hk] at hn ⊢
      have g := kOf_some hk
      by_cases hm : m = k
      · subst hm
        rw [if_pos rfl] at hn ⊢
        obtain ⟨g1, g2⟩ := Go.iff.1 g
        exact rise_on_end hr.2 hn (fun c e => by have := hc c e; omega) hz2 h1 h2
      · rw [if_neg hm]
        refine mem_pcs ?_
        rw [ne_not hm]
        rw [ne_not hm] at g
        obtain ⟨g1, g2⟩ := Go.iff.1 g
        exact rise_on_end hr.2 (.inr (by simp)) (fun c e => by cases e; omega) hz2 h1 h2
/-- no corners: all in one line -/
theorem rise_flat {last : Bool} : ∀ {l : List P2} {k : Bool} {h p : P2}, Row (h :: l) → riseBy last k (h :: l) = [] → p ∈ h :: l → across k p = across k h
  | [], k, h, p, _, _, hp => by simp at hp; subst hp; rfl
  | q :: l, k, h, p, hr, hn, hp => by
    rcases List.mem_cons.1 hp with e | hp
    · subst e; rfl
    · unfold riseBy at hn
      cases hk : kOf h q with
      | none =>
        have e := hr.1.none hk
        subst e
        simp only [hk] at hn
        exact rise_flat hr.2 hn hp
      | some m =>
        simp only [hk] at hn
        have g := kOf_some hk
        by_cases hm : m = k
        · subst hm
          rw [if_pos rfl] at hn
          rw [rise_flat hr.2 hn hp]
          exact (Go.iff.1 g).1.symm
        · rw [if_neg hm] at hn; cases hn
theorem rise_flat_last {last : Bool} : ∀ {l : List P2} {k : Bool}, l ≠ [] → riseBy last k l = [] → last = k
  | [], k, h, _ => absurd rfl h
  | [p], k, _, h => by
    unfold riseBy at h
    split at h
    · assumption
    · cases h
  | p :: q :: l, k, _, h => by
    unfold riseBy at h
    split at h
    · split at h
      · exact rise_flat_last (by simp) h
      · cases h
    · exact rise_flat_last (by simp) h
theorem mk_on {f : Bool} {p0 p : P2} : across f p = across f p0 → (mkRs f p0 []).on p = true := fun h => by
  cases f <;> simp at h <;> simp [mkRs, Rs.on, Rs.pcs, Pc.on, h]
theorem mk_on_cons {f : Bool} {p0 p : P2} {C : List P2} (h : C ≠ []) : (mkRs f p0 C).on p = (pcsL f none C).any fun c => c.on p := by
  cases C with
  | nil => exact absurd rfl h
  | cons c C => rfl
/-- all points of a row are on its rise; so is what leads to it and leaves it -/
theorem row_on {f last : Bool} {p0 : P2} {l : List P2} (hr : Row (p0 :: l)) {p : P2} (hp : p ∈ p0 :: l) : (mkRs f p0 (riseBy last f (p0 :: l))).on p = true := by
  by_cases h : riseBy last f (p0 :: l) = []
  · rw [h]; exact mk_on (rise_flat hr h hp)
  · rw [mk_on_cons h]; exact rise_on_all hr (.inl h) (fun c e => by cases e) hp
theorem row_on_ahead {f last : Bool} {p0 : P2} {l : List P2} (hr : Row (p0 :: l)) {p : P2} (h1 : across f p = across f p0) (h2 : along f p ≤ along f p0) : (mkRs f p0 (riseBy last f (p0 :: l))).on p = true := by
  by_cases h : riseBy last f (p0 :: l) = []
  · rw [h]; exact mk_on h1
  · rw [mk_on_cons h]; exact rise_on hr (.inl h) (fun c e => by cases e) h1 h2
theorem row_on_end {f last : Bool} {p0 z : P2} {l : List P2} (hr : Row (p0 :: l)) {p : P2} (hz : (p0 :: l).getLast? = some z) (h1 : across last p = across last z) (h2 : along last z ≤ along last p) : (mkRs f p0 (riseBy last f (p0 :: l))).on p = true := by
  by_cases h : riseBy last f (p0 :: l) = []
  · rw [h]
    have e := rise_flat_last (by simp) h
    subst e
    refine mk_on (h1.trans (rise_flat hr h ?_))
    exact List.mem_of_getLast? hz
  · rw [mk_on_cons h]; exact rise_on_end hr (.inl h) (fun c e => by cases e) hz h1 h2
/-- the corners go on in turn -/
theorem rise_alt {last : Bool} : ∀ {l : List P2} {k : Bool} {h : P2}, Row (h :: l) →
    Alt k (riseBy last k (h :: l)) ∧ ∀ c, (riseBy last k (h :: l)).head? = some c → h = c ∨ Go k h c
  | [], k, h, _ => by
    unfold riseBy
    split
    · exact ⟨trivial, fun c e => by cases e⟩
    · exact ⟨trivial, fun c e => by cases e; exact .inl rfl⟩
  | q :: l, k, h, hr => by
    unfold riseBy
    cases hk : kOf h q with
    | none =>
      have e := hr.1.none hk
      subst e
      exact rise_alt hr.2
    | some m =>
      simp only
      have g := kOf_some hk
      by_cases hm : m = k
      · subst hm
        rw [if_pos rfl]
        obtain ⟨a, b⟩ := rise_alt (last := last) (k := m) hr.2
        refine ⟨a, fun c e => .inr ?_⟩
        rcases b c e with rfl | b
        · exact g
        · rw [Go.iff] at *; omega
      · rw [if_neg hm]
        obtain ⟨a, b⟩ := rise_alt (last := last) (k := m) hr.2
        refine ⟨?_, fun c e => by cases e; exact .inl rfl⟩
        rw [ne_not hm] at a b g ⊢
        cases hc : riseBy last (!k) (q :: l) with
        | nil => trivial
        | cons c C =>
          rw [hc] at a b
          refine ⟨?_, a⟩
          rcases b c rfl with rfl | b
          · exact g
          · rw [Go.iff] at *; omega
theorem rise_mem {last : Bool} : ∀ {l : List P2} {k : Bool} {p : P2}, p ∈ riseBy last k l → p ∈ l
  | [], k, p, h => by cases h
  | [a], k, p, h => by
    unfold riseBy at h
    split at h
    · cases h
    · exact h
  | a :: b :: l, k, p, h => by
    unfold riseBy at h
    split at h
    · split at h
      · exact List.mem_cons_of_mem _ (rise_mem h)
      · rcases List.mem_cons.1 h with h | h
        · subst h; exact List.mem_cons_self
        · exact List.mem_cons_of_mem _ (rise_mem h)
    · exact List.mem_cons_of_mem _ (rise_mem h)
theorem row_ok {f last : Bool} {p0 : P2} {l : List P2} {B : Int} (hr : Row (p0 :: l)) (h2 : (p0 :: l).length ≤ 400) (hb : ∀ p ∈ p0 :: l, Inb B p) : (mkRs f p0 (riseBy last f (p0 :: l))).Ok B := by
  have h3 := (rise_alt (last := last) (k := f) hr).1
  have h4 := riseBy_len (last := last) (k := f) (l := p0 :: l)
  have h5 := fun p => rise_mem (last := last) (k := f) (l := p0 :: l) (p := p)
  generalize riseBy last f (p0 :: l) = C at *
  cases C with
  | nil =>
    have := hb p0 (by simp)
    unfold Inb at this
    cases f <;> simp [mkRs, Rs.Ok] <;> omega
  | cons c C => exact ⟨by simp, by omega, fun p hp => hb p (h5 p hp), h3⟩
theorem Row.snoc : ∀ {l : List P2} {p q : P2}, Row (l ++ [p]) → Stp p q → Row (l ++ [p, q])
  | [], p, q, _, h => ⟨h, trivial⟩
  | [a], p, q, h, h2 => ⟨h.1, h2, trivial⟩
  | a :: b :: l, p, q, h, h2 => ⟨h.1, Row.snoc (l := b :: l) h.2 h2⟩
theorem Row.init : ∀ {l : List P2} {p : P2}, Row (l ++ [p]) → Row l
  | [], _, _ => trivial
  | [_], _, _ => trivial
  | a :: b :: l, p, h => ⟨h.1, Row.init (l := b :: l) h.2⟩
/-! ### the steps of a row, told one by one -/
def stepsOf : List P2 → List (Bool × P2)
  | p :: q :: l => match kOf p q with
    | some k => (k, p) :: stepsOf (q :: l)
    | none => stepsOf (q :: l)
  | _ => []
def chg : List (Bool × P2) → List P2
  | a :: b :: l => if a.1 = b.1 then chg (b :: l) else b.2 :: chg (b :: l)
  | _ => []
theorem chg_fst {k : Bool} {p q : P2} {l : List (Bool × P2)} : chg ((k, p) :: l) = chg ((k, q) :: l) := by
  cases l <;> rfl
theorem chg_rise {last : Bool} {z : P2} : ∀ {l : List P2} {k : Bool} {p : P2}, l.getLast? = some z → chg ((k, p) :: (stepsOf l ++ [(last, z)])) = riseBy last k l
  | [], k, p, h => by cases h
  | [a], k, p, h => by
    simp at h; subst h
    by_cases q : last = k
    · subst q; simp [stepsOf, chg, riseBy]
    · simp [stepsOf, chg, riseBy, q, Ne.symm q]
  | a :: b :: l, k, p, h => by
    have h2 : (b :: l).getLast? = some z := by simpa using h
    unfold stepsOf riseBy
    cases hk : kOf a b with
    | none => exact chg_rise h2
    | some m =>
      simp only
      have e : chg ((k, p) :: (((m, a) :: stepsOf (b :: l)) ++ [(last, z)])) = if k = m then chg ((m, a) :: (stepsOf (b :: l) ++ [(last, z)])) else a :: chg ((m, a) :: (stepsOf (b :: l) ++ [(last, z)])) := rfl
      rw [e, chg_rise h2]
      by_cases hm : m = k
      · subst hm; simp
      · rw [if_neg hm, if_neg (Ne.symm hm)]
/-! ### a row along a rise -/
def Filled : Bool → List P2 → List P2 → Prop
  | _, [], _ => False
  | _, [c], row => row = [c]
  | k, c :: d :: l, row => ∃ (m : Nat) (z : P2) (r : List P2), m ≤ 1 ∧ row = c :: (List.replicate m c ++ z :: r) ∧ (across (!k) z = across (!k) c ∧ along (!k) c ≤ along (!k) z ∧ along (!k) z ≤ along (!k) d) ∧ Filled (!k) (d :: l) r
theorem Filled.head : ∀ {k : Bool} {c : P2} {l row : List P2}, Filled k (c :: l) row → ∃ t, row = c :: t
  | _, c, [], row, h => ⟨[], h⟩
  | _, c, d :: l, row, ⟨m, z, r, _, h, _⟩ => ⟨_, h⟩
theorem p2_ext {k : Bool} {p q : P2} (h1 : across k p = across k q) (h2 : along k p = along k q) : p = q := by
  cases p; cases q
  cases k <;> simp at * <;> omega
theorem le_go {k : Bool} {p q : P2} (h1 : across k p = across k q) (h2 : along k p ≤ along k q) : p = q ∨ Go k p q := by
  by_cases h : along k p = along k q
  · exact .inl (p2_ext h1 h)
  · exact .inr (Go.iff.2 ⟨h1, by omega⟩)
theorem rise_stay {last k : Bool} {h c : P2} {l : List P2} (g : h = c ∨ Go k h c) : riseBy last k (h :: c :: l) = riseBy last k (c :: l) := by
  conv => lhs; unfold riseBy
  rcases g with rfl | g
  · simp
  · simp [kOf_go g]
theorem rise_turn {last k : Bool} {h c : P2} {l : List P2} (g : Go (!k) h c) : riseBy last k (h :: c :: l) = h :: riseBy last (!k) (c :: l) := by
  conv => lhs; unfold riseBy
  simp only [kOf_go g]
  rw [if_neg (by cases k <;> decide)]
theorem fill_rise : ∀ {l : List P2} {k last : Bool} {h c : P2} {row : List P2}, Alt k (c :: l) → Filled k (c :: l) row → last = kAt k (c :: l).length → (h = c ∨ Go k h c) → riseBy last k (h :: row) = c :: l
  | [], k, last, h, c, row, _, hf, hl, g => by
    have hf : row = [c] := hf
    subst hf
    have hl : last = !k := hl
    subst hl
    rw [rise_stay g]
    unfold riseBy
    rw [if_neg (by cases k <;> decide)]
  | d :: l, k, last, h, c, row, ha, ⟨m, z, r, hm, hr, ⟨hz1, hz2, hz3⟩, hf⟩, hl, g => by
    obtain ⟨t, rfl⟩ := hf.head
    subst hr
    have hgo := Go.iff.1 ha.1
    have ih := fill_rise (last := last) (h := z) ha.2 hf (by rw [hl]; exact kAt_succ') (le_go (by omega) hz3)
    rw [rise_stay g]
    have e1 : riseBy last k (c :: (List.replicate m c ++ z :: d :: t)) = riseBy last k (c :: z :: d :: t) := by
      rcases (show m = 0 ∨ m = 1 by omega) with rfl | rfl
      · rfl
      · exact rise_stay (.inl rfl)
    rw [e1]
    rcases le_go hz1.symm hz2 with rfl | gz
    · rw [rise_stay (.inl rfl), rise_turn ha.1]
      rw [rise_stay (.inr ha.1)] at ih
      rw [ih]
    · rw [rise_turn gz, ih]
theorem fill_row : ∀ {l : List P2} {k : Bool} {c : P2} {row : List P2}, Alt k (c :: l) → Filled k (c :: l) row → Row row
  | [], k, c, row, _, hf => by
    have hf : row = [c] := hf
    subst hf
    trivial
  | d :: l, k, c, row, ha, ⟨m, z, r, hm, hr, ⟨hz1, hz2, hz3⟩, hf⟩ => by
    obtain ⟨t, rfl⟩ := hf.head
    subst hr
    have hgo := Go.iff.1 ha.1
    have ih := fill_row ha.2 hf
    have s1 : Stp c z := (le_go hz1.symm hz2).imp id fun g => ⟨_, g⟩
    have s2 : Stp z d := (le_go (by omega) hz3).imp id fun g => ⟨_, g⟩
    rcases (show m = 0 ∨ m = 1 by omega) with rfl | rfl
    · exact ⟨s1, s2, ih⟩
    · exact ⟨.inl rfl, s1, s2, ih⟩
theorem fill_in {B : Int} : ∀ {l : List P2} {k : Bool} {c : P2} {row : List P2}, Alt k (c :: l) → Filled k (c :: l) row → (∀ p ∈ c :: l, Inb B p) → ∀ p ∈ row, Inb B p
  | [], k, c, row, _, hf, hb, p, hp => by
    have hf : row = [c] := hf
    subst hf
    exact hb p hp
  | d :: l, k, c, row, ha, ⟨m, z, r, hm, hr, ⟨hz1, hz2, hz3⟩, hf⟩, hb, p, hp => by
    have hgo := Go.iff.1 ha.1
    have hc := hb c (by simp)
    have hd := hb d (by simp)
    have hz : Inb B z := by
      unfold Inb at *
      cases k <;> simp at * <;> omega
    subst hr
    rcases List.mem_cons.1 hp with rfl | hp
    · exact hc
    · rcases List.mem_append.1 hp with hp | hp
      · rw [(List.mem_replicate.1 hp).2]; exact hc
      · rcases List.mem_cons.1 hp with rfl | hp
        · exact hz
        · exact fill_in ha.2 hf (fun p hp => hb p (List.mem_cons_of_mem _ hp)) p hp
theorem fill_len : ∀ {l : List P2} {k : Bool} {c : P2} {row : List P2}, Filled k (c :: l) row → row.length ≤ 3 * l.length + 1
  | [], k, c, row, hf => by
    have hf : row = [c] := hf
    subst hf
    simp
  | d :: l, k, c, row, ⟨m, z, r, hm, hr, _, hf⟩ => by
    have := fill_len hf
    subst hr
    simp
    omega
end M

namespace M
open PySem PySem.Spec PyProof.Rows L2
/-! ### points on rises, by their corners -/
def Seg (k : Bool) (lo hi : Option P2) (p : P2) : Prop := (∀ c, lo = some c → across k p = across k c ∧ along k c ≤ along k p) ∧ ∀ c, hi = some c → across k p = across k c ∧ along k p ≤ along k c
/-- the corner ahead of piece i -/
def ahead (low : Option P2) (l : List P2) : Nat → Option P2
  | 0 => low
  | i + 1 => l[i]?
theorem kAt_not {k : Bool} : ∀ {n : Nat}, kAt (!k) n = !(kAt k n)
  | 0 => rfl
  | n + 1 => by
    show (!(kAt (!k) n)) = !(!(kAt k n))
    rw [kAt_not (n := n)]
theorem kAt_add {k : Bool} {m : Nat} : ∀ {n : Nat}, kAt (kAt k m) n = kAt k (m + n)
  | 0 => rfl
  | n + 1 => by
    show (!(kAt (kAt k m) n)) = !(kAt k (m + n))
    rw [kAt_add (n := n)]
theorem kAt_two {k : Bool} : ∀ {n : Nat}, kAt k (n + n) = k
  | 0 => rfl
  | n + 1 => by
    rw [show n + 1 + (n + 1) = (n + n) + 1 + 1 by omega]
    show (!(!(kAt k (n + n)))) = k
    rw [kAt_two (n := n), Bool.not_not]
theorem pc_on {k : Bool} {a : Int} {lo hi : Option Int} {p : P2} : (Pc.on ⟨k, a, lo, hi⟩ p = true) ↔ across k p = a ∧ (∀ c, lo = some c → c ≤ along k p) ∧ ∀ c, hi = some c → along k p ≤ c := by
  unfold Pc.on
  cases lo <;> cases hi <;> simp
theorem pcsL_cons {k : Bool} {low : Option P2} {c : P2} {l : List P2} : pcsL k low (c :: l) = ⟨k, across k c, low.map (along k), some (along k c)⟩ :: pcsL (!k) (some c) l := by cases low <;> rfl
theorem on_iff : ∀ {l : List P2} {k : Bool} {low : Option P2} {p : P2}, Alt k l → (l ≠ [] ∨ low ≠ none) → (∀ c d, low = some c → l.head? = some d → Go k c d) →
    (((pcsL k low l).any fun z => z.on p) = true ↔ ∃ i, i ≤ l.length ∧ Seg (kAt k i) (ahead low l i) l[i]? p)
  | [], k, low, p, _, hn, _ => by
    cases low with
    | none => simp at hn
    | some c =>
      simp only [pcsL, List.any_cons, List.any_nil, Bool.or_false, pc_on]
      constructor
      · rintro ⟨h1, h2, -⟩
        exact ⟨0, Nat.le_refl _, fun d e => by cases e; exact ⟨h1, h2 _ rfl⟩, fun d e => by simp at e⟩
      · rintro ⟨i, hi, h1, h2⟩
        have : i = 0 := by simpa using hi
        subst this
        obtain ⟨h3, h4⟩ := h1 c rfl
        exact ⟨h3, fun d e => by cases e; exact h4, fun d e => by cases e⟩
  | c :: l, k, low, p, ha, hn, hg => by
    have ih := on_iff (l := l) (k := !k) (low := some c) (p := p) (by
      cases l with
      | nil => trivial
      | cons d l => exact ha.2) (.inr (by simp)) (fun a b h1 h2 => by
      cases h1
      cases l with
      | nil => cases h2
      | cons d l => simp at h2; subst h2; exact ha.1)
    rw [pcsL_cons, List.any_cons, Bool.or_eq_true, ih, pc_on]
    constructor
    · rintro (⟨h1, h2, h3⟩ | ⟨i, hi, hs⟩)
      · refine ⟨0, Nat.zero_le _, fun d e => ?_, fun d e => ?_⟩
        · have e : low = some d := e
          subst e
          exact ⟨h1.trans (Go.iff.1 (hg d c rfl rfl)).1.symm, h2 _ rfl⟩
        · simp at e; subst e; exact ⟨h1, h3 _ rfl⟩
      · refine ⟨i + 1, by simp; omega, ?_⟩
        rw [kAt_succ']
        have e1 : ahead low (c :: l) (i + 1) = ahead (some c) l i := by
          cases i with
          | zero => rfl
          | succ i => rfl
        rw [e1]
        exact hs
    · rintro ⟨i, hi, hs⟩
      cases i with
      | zero =>
        obtain ⟨h1, h2⟩ := hs
        obtain ⟨h3, h4⟩ := h2 c rfl
        exact .inl ⟨h3, fun z e => by
          cases low with
          | none => cases e
          | some d => cases e; exact (h1 d rfl).2, fun z e => by cases e; exact h4⟩
      | succ i =>
        refine .inr ⟨i, by simpa using hi, ?_⟩
        rw [kAt_succ'] at hs
        have e1 : ahead low (c :: l) (i + 1) = ahead (some c) l i := by
          cases i with
          | zero => rfl
          | succ i => rfl
        rw [e1] at hs
        exact hs
theorem bent_on {k : Bool} {l : List P2} {p : P2} (ha : Alt k l) (hn : l ≠ []) : (Rs.bent k l).on p = true ↔ ∃ i, i ≤ l.length ∧ Seg (kAt k i) (ahead none l i) l[i]? p :=
  on_iff ha (.inl hn) fun c d e => by cases e
/-! ### turned, transposed, moved -/
def neg2 (p : P2) : P2 := (-p.1, -p.2)
def tr2 (p : P2) : P2 := (p.2, p.1)
def mv2 (a b : Int) (p : P2) : P2 := (p.1 + a, p.2 + b)
def Rs.turn : Rs → Rs
  | .level v => .level (-v)
  | .plumb v => .plumb (-v)
  | .bent k l => .bent (kAt k l.length) (l.reverse.map neg2)
def Rs.tran : Rs → Rs
  | .level v => .plumb v
  | .plumb v => .level v
  | .bent k l => .bent (!k) (l.map tr2)
def Rs.move (a b : Int) : Rs → Rs
  | .level v => .level (v + b)
  | .plumb v => .plumb (v + a)
  | .bent k l => .bent k (l.map (mv2 a b))
@[simp] theorem neg2_neg2 {p : P2} : neg2 (neg2 p) = p := by simp [neg2]
@[simp] theorem tr2_tr2 {p : P2} : tr2 (tr2 p) = p := rfl
theorem map_id_of {α : Type} {f : α → α} (h : ∀ a, f a = a) : ∀ l : List α, l.map f = l
  | [] => rfl
  | a :: l => by rw [List.map_cons, h, map_id_of h l]
theorem turn_turn {r : Rs} : r.turn.turn = r := by
  cases r with
  | level v => simp [Rs.turn]
  | plumb v => simp [Rs.turn]
  | bent k l =>
    simp only [Rs.turn, List.length_map, List.length_reverse, kAt_add, kAt_two]
    rw [← List.map_reverse, List.reverse_reverse, List.map_map]
    rw [map_id_of (fun a => by simp)]
theorem tran_tran {r : Rs} : r.tran.tran = r := by
  cases r with
  | level v => rfl
  | plumb v => rfl
  | bent k l =>
    simp only [Rs.tran, List.map_map, Bool.not_not]
    rw [map_id_of (fun a => by simp)]
theorem move_back {r : Rs} {a b : Int} : (r.move a b).move (-a) (-b) = r := by
  cases r with
  | level v => simp [Rs.move]; omega
  | plumb v => simp [Rs.move]; omega
  | bent k l =>
    simp only [Rs.move, List.map_map]
    rw [map_id_of (fun p => by
      obtain ⟨x, y⟩ := p
      simp [mv2]
      constructor <;> omega)]
theorem turn_tran {r : Rs} : r.tran.turn = r.turn.tran := by
  cases r with
  | level v => rfl
  | plumb v => rfl
  | bent k l =>
    simp only [Rs.tran, Rs.turn, List.length_map, kAt_not, List.map_map, List.map_reverse]
    rfl
theorem tran_move {r : Rs} {a b : Int} : (r.move a b).tran = r.tran.move b a := by
  cases r with
  | level v => rfl
  | plumb v => rfl
  | bent k l =>
    simp only [Rs.tran, Rs.move, List.map_map]
    rfl
theorem turn_move {r : Rs} {a b : Int} : (r.move a b).turn = r.turn.move (-a) (-b) := by
  cases r with
  | level v => simp [Rs.turn, Rs.move]; omega
  | plumb v => simp [Rs.turn, Rs.move]; omega
  | bent k l =>
    simp only [Rs.turn, Rs.move, List.length_map, List.map_map, List.map_reverse]
    congr 2
    refine List.map_congr_left fun p _ => ?_
    simp [neg2, mv2]
    constructor <;> omega
theorem Alt.iff : ∀ {k : Bool} {l : List P2}, Alt k l ↔ ∀ i p q, l[i]? = some p → l[i + 1]? = some q → Go (kAt k (i + 1)) p q
  | k, [] => ⟨fun _ i p q h => by simp at h, fun _ => trivial⟩
  | k, [a] => ⟨fun _ i p q _ h => by simp at h, fun _ => trivial⟩
  | k, a :: b :: l => by
    constructor
    · intro h i p q h1 h2
      exact h.get h1 h2
    · intro h
      refine ⟨h 0 a b rfl rfl, Alt.iff.2 fun i p q h1 h2 => ?_⟩
      rw [← kAt_succ']
      exact h (i + 1) p q h1 h2
@[simp] theorem across_neg {k : Bool} {p : P2} : across k (neg2 p) = -across k p := by cases k <;> rfl
@[simp] theorem along_neg {k : Bool} {p : P2} : along k (neg2 p) = -along k p := by cases k <;> rfl
@[simp] theorem across_tr {k : Bool} {p : P2} : across (!k) (tr2 p) = across k p := by cases k <;> rfl
@[simp] theorem along_tr {k : Bool} {p : P2} : along (!k) (tr2 p) = along k p := by cases k <;> rfl
theorem go_neg {k : Bool} {p q : P2} : Go k (neg2 q) (neg2 p) ↔ Go k p q := by
  rw [Go.iff, Go.iff]; simp; omega
theorem go_tr {k : Bool} {p q : P2} : Go (!k) (tr2 p) (tr2 q) ↔ Go k p q := by
  rw [Go.iff, Go.iff]; simp
theorem go_mv {k : Bool} {p q : P2} {a b : Int} : Go k (mv2 a b p) (mv2 a b q) ↔ Go k p q := by
  cases k <;> simp [mv2] <;> omega
theorem rev_get {l : List P2} {i : Nat} (h : i < l.length) : (l.reverse.map neg2)[i]? = (l[l.length - 1 - i]?).map neg2 := by
  rw [List.getElem?_map, List.getElem?_reverse h]
theorem alt_turn {k : Bool} {l : List P2} (h : Alt k l) : Alt (kAt k l.length) (l.reverse.map neg2) := by
  refine Alt.iff.2 fun i p q h1 h2 => ?_
  have hi : i + 1 < l.length := by
    have := (List.getElem?_eq_some_iff.1 h2).1
    simpa using this
  rw [rev_get (by omega)] at h1 h2
  rw [Option.map_eq_some_iff] at h1 h2
  obtain ⟨p', h1, rfl⟩ := h1
  obtain ⟨q', h2, rfl⟩ := h2
  have g := Alt.iff.1 h (l.length - 1 - (i + 1)) q' p' h2 (by rw [show l.length - 1 - (i + 1) + 1 = l.length - 1 - i by omega]; exact h1)
  rw [go_neg, kAt_add]
  rw [show l.length + (i + 1) = (l.length - 1 - (i + 1) + 1) + ((i + 1) + (i + 1)) by omega, ← kAt_add, kAt_two]
  exact g
theorem alt_tran {k : Bool} {l : List P2} (h : Alt k l) : Alt (!k) (l.map tr2) := by
  refine Alt.iff.2 fun i p q h1 h2 => ?_
  rw [List.getElem?_map, Option.map_eq_some_iff] at h1 h2
  obtain ⟨p', h1, rfl⟩ := h1
  obtain ⟨q', h2, rfl⟩ := h2
  rw [kAt_not, go_tr]
  exact Alt.iff.1 h i p' q' h1 h2
theorem alt_move {k : Bool} {l : List P2} {a b : Int} (h : Alt k l) : Alt k (l.map (mv2 a b)) := by
  refine Alt.iff.2 fun i p q h1 h2 => ?_
  rw [List.getElem?_map, Option.map_eq_some_iff] at h1 h2
  obtain ⟨p', h1, rfl⟩ := h1
  obtain ⟨q', h2, rfl⟩ := h2
  rw [go_mv]
  exact Alt.iff.1 h i p' q' h1 h2
theorem ok_turn {B : Int} {r : Rs} (h : r.Ok B) : r.turn.Ok B := by
  cases r with
  | level v => unfold Rs.Ok Rs.turn at *; dsimp only at *; omega
  | plumb v => unfold Rs.Ok Rs.turn at *; dsimp only at *; omega
  | bent k l =>
    obtain ⟨h1, h2, h3, h4⟩ := h
    refine ⟨by simpa using h1, by simpa using h2, fun p hp => ?_, alt_turn h4⟩
    obtain ⟨q, hq, rfl⟩ := List.mem_map.1 hp
    have := h3 q (List.mem_reverse.1 hq)
    unfold Inb neg2 at *; dsimp only; omega
theorem ok_tran {B : Int} {r : Rs} (h : r.Ok B) : r.tran.Ok B := by
  cases r with
  | level v => exact h
  | plumb v => exact h
  | bent k l =>
    obtain ⟨h1, h2, h3, h4⟩ := h
    refine ⟨by simpa using h1, by simpa using h2, fun p hp => ?_, alt_tran h4⟩
    obtain ⟨q, hq, rfl⟩ := List.mem_map.1 hp
    have := h3 q hq
    unfold Inb tr2 at *; dsimp only; omega
theorem ok_move {B C a b : Int} {r : Rs} (h : r.Ok B) (ha : -C ≤ a ∧ a ≤ C) (hb : -C ≤ b ∧ b ≤ C) : (r.move a b).Ok (B + C) := by
  cases r with
  | level v => unfold Rs.Ok Rs.move at *; dsimp only at *; omega
  | plumb v => unfold Rs.Ok Rs.move at *; dsimp only at *; omega
  | bent k l =>
    obtain ⟨h1, h2, h3, h4⟩ := h
    refine ⟨by simpa using h1, by simpa using h2, fun p hp => ?_, alt_move h4⟩
    obtain ⟨q, hq, rfl⟩ := List.mem_map.1 hp
    have := h3 q hq
    unfold Inb mv2 at *; dsimp only; omega
theorem ok_mono {B C : Int} {r : Rs} (h : r.Ok B) (hB : B ≤ C) : r.Ok C := by
  cases r with
  | level v => unfold Rs.Ok at *; dsimp only at *; omega
  | plumb v => unfold Rs.Ok at *; dsimp only at *; omega
  | bent k l =>
    obtain ⟨h1, h2, h3, h4⟩ := h
    refine ⟨h1, h2, fun p hp => ?_, h4⟩
    have := h3 p hp
    unfold Inb at *; omega
theorem seg_turn {k : Bool} {lo hi : Option P2} {p : P2} : Seg k (hi.map neg2) (lo.map neg2) (neg2 p) ↔ Seg k lo hi p := by
  unfold Seg
  cases lo <;> cases hi <;> simp <;> omega
theorem seg_tran {k : Bool} {lo hi : Option P2} {p : P2} : Seg (!k) (lo.map tr2) (hi.map tr2) (tr2 p) ↔ Seg k lo hi p := by
  unfold Seg
  cases lo <;> cases hi <;> simp
theorem seg_move {k : Bool} {lo hi : Option P2} {p : P2} {a b : Int} : Seg k (lo.map (mv2 a b)) (hi.map (mv2 a b)) (mv2 a b p) ↔ Seg k lo hi p := by
  unfold Seg
  cases k <;> cases lo <;> cases hi <;> simp [mv2] <;> omega
theorem bool_ext {a b : Bool} (h : a = true ↔ b = true) : a = b := by cases a <;> cases b <;> simp_all
theorem on_turn {B : Int} {r : Rs} (h : r.Ok B) {p : P2} : r.turn.on (neg2 p) = r.on p := by
  cases r with
  | level v => simp [Rs.turn, Rs.on, Rs.pcs, Pc.on, neg2]; constructor <;> omega
  | plumb v => simp [Rs.turn, Rs.on, Rs.pcs, Pc.on, neg2]; constructor <;> omega
  | bent k l =>
    obtain ⟨h1, h2, h3, h4⟩ := h
    refine bool_ext ?_
    show (Rs.bent _ _).on _ = true ↔ _
    rw [bent_on (alt_turn h4) (by simpa using h1), bent_on h4 h1]
    have flip : ∀ i, i ≤ l.length → (Seg (kAt (kAt k l.length) (l.length - i)) (ahead none (l.reverse.map neg2) (l.length - i)) (l.reverse.map neg2)[l.length - i]? (neg2 p) ↔ Seg (kAt k i) (ahead none l i) l[i]? p) := fun i hi => by
      have e1 : kAt (kAt k l.length) (l.length - i) = kAt k i := by
        rw [kAt_add, show l.length + (l.length - i) = i + ((l.length - i) + (l.length - i)) by omega, ← kAt_add, kAt_two]
      have e2 : ahead none (l.reverse.map neg2) (l.length - i) = (l[i]?).map neg2 := by
        by_cases z : i = l.length
        · subst z; simp [ahead]
        · obtain ⟨j, hj⟩ : ∃ j, l.length - i = j + 1 := ⟨l.length - i - 1, by omega⟩
          rw [hj]
          show (l.reverse.map neg2)[j]? = _
          rw [rev_get (by omega), show l.length - 1 - j = i by omega]
      have e3 : (l.reverse.map neg2)[l.length - i]? = (ahead none l i).map neg2 := by
        cases i with
        | zero => simp [ahead]
        | succ i => rw [rev_get (by omega), show l.length - 1 - (l.length - (i + 1)) = i by omega]; rfl
      rw [e1, e2, e3, seg_turn]
    constructor
    · rintro ⟨j, hj, hs⟩
      have hj : j ≤ l.length := by simpa using hj
      refine ⟨l.length - j, by omega, ?_⟩
      have := flip (l.length - j) (by omega)
      rw [show l.length - (l.length - j) = j by omega] at this
      exact this.1 hs
    · rintro ⟨i, hi, hs⟩
      exact ⟨l.length - i, by simp, (flip i hi).2 hs⟩
theorem on_tran {B : Int} {r : Rs} (h : r.Ok B) {p : P2} : r.tran.on (tr2 p) = r.on p := by
  cases r with
  | level v => by_cases q : p.2 = v <;> simp [Rs.tran, Rs.on, Rs.pcs, Pc.on, tr2, q]
  | plumb v => by_cases q : p.1 = v <;> simp [Rs.tran, Rs.on, Rs.pcs, Pc.on, tr2, q]
  | bent k l =>
    obtain ⟨h1, h2, h3, h4⟩ := h
    refine bool_ext ?_
    show (Rs.bent _ _).on _ = true ↔ _
    rw [bent_on (alt_tran h4) (by simpa using h1), bent_on h4 h1]
    have e : ∀ i, (Seg (kAt (!k) i) (ahead none (l.map tr2) i) (l.map tr2)[i]? (tr2 p) ↔ Seg (kAt k i) (ahead none l i) l[i]? p) := fun i => by
      have e2 : ahead none (l.map tr2) i = (ahead none l i).map tr2 := by
        cases i with
        | zero => rfl
        | succ i => exact List.getElem?_map ..
      rw [kAt_not, e2, List.getElem?_map, seg_tran]
    simp only [e, List.length_map]
theorem on_move {B : Int} {r : Rs} (h : r.Ok B) {p : P2} {a b : Int} : (r.move a b).on (mv2 a b p) = r.on p := by
  cases r with
  | level v => simp [Rs.move, Rs.on, Rs.pcs, Pc.on, mv2]; constructor <;> omega
  | plumb v => simp [Rs.move, Rs.on, Rs.pcs, Pc.on, mv2]; constructor <;> omega
  | bent k l =>
    obtain ⟨h1, h2, h3, h4⟩ := h
    refine bool_ext ?_
    show (Rs.bent _ _).on _ = true ↔ _
    rw [bent_on (alt_move h4) (by simpa using h1), bent_on h4 h1]
    have e : ∀ i, (Seg (kAt k i) (ahead none (l.map (mv2 a b)) i) (l.map (mv2 a b))[i]? (mv2 a b p) ↔ Seg (kAt k i) (ahead none l i) l[i]? p) := fun i => by
      have e2 : ahead none (l.map (mv2 a b)) i = (ahead none l i).map (mv2 a b) := by
        cases i with
        | zero => rfl
        | succ i => exact List.getElem?_map ..
      rw [e2, List.getElem?_map, seg_move]
    simp only [e, List.length_map]
end M

namespace M
open PySem PySem.Spec PyProof.Rows L2
/-! ### what goes with a number, piece by piece -/
def hit (b : Bool) (x : Int) (c : Pc) : Option (Option Int × Option Int) :=
  if c.k = b then (if (leO c.lo x && geO c.hi x) = true then some (some c.a, some c.a) else none) else if c.a = x then some (c.lo, c.hi) else none
def hits (b : Bool) (x : Int) (l : List Pc) : List (Option Int × Option Int) := l.filterMap (hit b x)
theorem across_not {b : Bool} {p : P2} : across (!b) p = along b p := by cases b <;> rfl
theorem along_not {b : Bool} {p : P2} : along (!b) p = across b p := by cases b <;> rfl
theorem leO_iff {o : Option Int} {i : Int} : leO o i = true ↔ ∀ j, o = some j → j ≤ i := by cases o <;> simp
theorem geO_iff {o : Option Int} {i : Int} : geO o i = true ↔ ∀ j, o = some j → i ≤ j := by cases o <;> simp
theorem first_on {k : Bool} {c : P2} {l : List P2} (hg : ∀ d, l.head? = some d → Go k c d) : ((pcsL k (some c) l).any fun z => z.on c) = true := by
  cases l with
  | nil => simp [pcsL, pc_on]
  | cons d l =>
    have g := Go.iff.1 (hg d rfl)
    rw [pcsL_cons, List.any_cons, Bool.or_eq_true]
    refine .inl (pc_on.2 ⟨g.1, fun z e => by cases e; exact Int.le_refl _, fun z e => by cases e; omega⟩)
theorem hits_spec {b : Bool} {x : Int} : ∀ {l : List P2} {k : Bool} {low : Option P2}, Alt k l → (l ≠ [] ∨ low ≠ none) → (∀ c d, low = some c → l.head? = some d → Go k c d) →
    (hits b x (pcsL k low l) = [] → ∀ p, along b p = x → ((pcsL k low l).any fun z => z.on p) = false) ∧
    (∀ h z, (hits b x (pcsL k low l)).head? = some h → (hits b x (pcsL k low l)).getLast? = some z → ∀ p, along b p = x → (((pcsL k low l).any fun z => z.on p) = true ↔ leO h.1 (across b p) = true ∧ geO z.2 (across b p) = true)) ∧
    (∀ c, low = some c → (x = along b c → ∃ h, (hits b x (pcsL k low l)).head? = some h ∧ h.1 = some (across b c)) ∧ (x < along b c → hits b x (pcsL k low l) = []))
  | [], k, low, _, hn, _ => by
    cases low with
    | none => simp at hn
    | some c =>
      have e : pcsL k (some c) [] = [⟨k, across k c, some (along k c), none⟩] := rfl
      rw [e]
      by_cases hk : k = b
      · subst hk
        by_cases h : along k c ≤ x
        · have eh : hits k x [⟨k, across k c, some (along k c), none⟩] = [(some (across k c), some (across k c))] := by simp [hits, hit, h]
          rw [eh]
          refine ⟨fun q => (by cases q), fun h1 z q1 q2 p hp => ?_, fun d q => ?_⟩
          · simp at q1 q2; subst q1; subst q2
            rw [List.any_cons, List.any_nil, Bool.or_false, pc_on]
            simp
            constructor
            · rintro ⟨h1, h2⟩; omega
            · rintro ⟨h1, h2⟩; omega
          · cases q
            exact ⟨fun q => ⟨_, rfl, rfl⟩, fun q => by omega⟩
        · have eh : hits k x [⟨k, across k c, some (along k c), none⟩] = [] := by simp [hits, hit, h]
          rw [eh]
          refine ⟨fun _ p hp => ?_, fun h1 z q1 => (by cases q1), fun d q => ?_⟩
          · rw [List.any_cons, List.any_nil, Bool.or_false]
            cases z : Pc.on ⟨k, across k c, some (along k c), none⟩ p with
            | false => rfl
            | true =>
              have := (pc_on.1 z).2.1 _ rfl
              omega
          · cases q
            exact ⟨fun q => by omega, fun q => rfl⟩
      · have hk := ne_not hk
        subst hk
        rw [across_not, along_not]
        have nb : ¬ ((!b) = b) := by cases b <;> decide
        by_cases h : along b c = x
        · have eh : hits b x [⟨!b, along b c, some (across b c), none⟩] = [(some (across b c), none)] := by simp [hits, hit, h]
          rw [eh]
          refine ⟨fun q => (by cases q), fun h1 z q1 q2 p hp => ?_, fun d q => ?_⟩
          · simp at q1 q2; subst q1; subst q2
            rw [List.any_cons, List.any_nil, Bool.or_false, pc_on, across_not, along_not]
            simp
            omega
          · cases q
            exact ⟨fun q => ⟨_, rfl, rfl⟩, fun q => by omega⟩
        · have eh : hits b x [⟨!b, along b c, some (across b c), none⟩] = [] := by simp [hits, hit, h]
          rw [eh]
          refine ⟨fun _ p hp => ?_, fun h1 z q1 => (by cases q1), fun d q => ?_⟩
          · rw [List.any_cons, List.any_nil, Bool.or_false]
            cases z : Pc.on ⟨!b, along b c, some (across b c), none⟩ p with
            | false => rfl
            | true =>
              have := (pc_on.1 z).1
              rw [across_not] at this
              omega
          · cases q
            exact ⟨fun q => absurd q.symm h, fun q => rfl⟩
  | c :: l, k, low, ha, hn, hg => by
    have ha2 : Alt (!k) l := by
      cases l with
      | nil => trivial
      | cons d l => exact ha.2
    have hg2 : ∀ d, l.head? = some d → Go (!k) c d := fun d h2 => by
      cases l with
      | nil => cases h2
      | cons e l => simp at h2; subst h2; exact ha.1
    obtain ⟨A0, A1, B⟩ := hits_spec (b := b) (x := x) (l := l) (k := !k) (low := some c) ha2 (.inr (by simp)) (fun a d h1 h2 => by cases h1; exact hg2 d h2)
    obtain ⟨B1, B2⟩ := B c rfl
    have fo := first_on hg2
    rw [pcsL_cons]
    generalize hR : pcsL (!k) (some c) l = R at *
    have hh : hits b x (⟨k, across k c, low.map (along k), some (along k c)⟩ :: R) = (hit b x ⟨k, across k c, low.map (along k), some (along k c)⟩).toList ++ hits b x R := by
      unfold hits
      rw [List.filterMap_cons]
      cases hit b x ⟨k, across k c, low.map (along k), some (along k c)⟩ <;> rfl
    rw [hh]
    have hon : ∀ p, ((Pc.mk k (across k c) (low.map (along k)) (some (along k c)) :: R).any fun z => z.on p) = true ↔ (across k p = across k c ∧ (∀ d, low = some d → along k d ≤ along k p) ∧ along k p ≤ along k c) ∨ (R.any fun z => z.on p) = true := fun p => by
      rw [List.any_cons, Bool.or_eq_true, pc_on]
      constructor
      · rintro (⟨h1, h2, h3⟩ | h)
        · exact .inl ⟨h1, fun d e => h2 _ (by rw [e]; rfl), h3 _ rfl⟩
        · exact .inr h
      · rintro (⟨h1, h2, h3⟩ | h)
        · refine .inl ⟨h1, fun z e => ?_, fun z e => by cases e; exact h3⟩
          rw [Option.map_eq_some_iff] at e
          obtain ⟨d, e, rfl⟩ := e
          exact h2 d e
        · exact .inr h
    have offall : ∀ p, (¬ ((across k p = across k c ∧ (∀ d, low = some d → along k d ≤ along k p) ∧ along k p ≤ along k c) ∨ (R.any fun z => z.on p) = true)) → ((Pc.mk k (across k c) (low.map (along k)) (some (along k c)) :: R).any fun z => z.on p) = false := fun p h => by
      cases z : (Pc.mk k (across k c) (low.map (along k)) (some (along k c)) :: R).any fun z => z.on p with
      | false => rfl
      | true => exact absurd ((hon p).1 z) h
    have hlow : ∀ d, low = some d → across k d = across k c ∧ along k d < along k c := fun d e => Go.iff.1 (hg d c e rfl)
    by_cases hk : k = b
    · subst hk
      by_cases h1 : x < along k c
      · rw [B2 h1, List.append_nil]
        by_cases h2 : ∀ d, low = some d → along k d ≤ x
        · have eh : hit k x ⟨k, across k c, low.map (along k), some (along k c)⟩ = some (some (across k c), some (across k c)) := by
            have h3 : leO (low.map (along k)) x = true := leO_iff.2 fun j e => by
              rw [Option.map_eq_some_iff] at e
              obtain ⟨d, e, rfl⟩ := e
              exact h2 d e
            have h4 : x ≤ along k c := by omega
            simp [hit, h3, h4]
          rw [eh]
          refine ⟨fun q => (by cases q), fun h z q1 q2 p hp => ?_, fun d e => ⟨fun q => ⟨_, rfl, by simp [(hlow d e).1]⟩, fun q => by have := h2 d e; omega⟩⟩
          simp at q1 q2; subst q1; subst q2
          rw [hon]
          have := A0 (B2 h1) p hp
          rw [this]
          simp only [leO_some, geO_some, decide_eq_true_eq]
          constructor
          · rintro (⟨h5, _, _⟩ | h5)
            · omega
            · cases h5
          · rintro ⟨h5, h6⟩
            exact .inl ⟨by omega, fun d e => by rw [hp]; exact h2 d e, by omega⟩
        · have eh : hit k x ⟨k, across k c, low.map (along k), some (along k c)⟩ = none := by
            cases low with
            | none => exact absurd (fun d e => by cases e) h2
            | some d =>
              have h3 : ¬ (along k d ≤ x) := fun q => h2 fun d' e => by cases e; exact q
              simp [hit, h3]
          rw [eh]
          refine ⟨fun _ p hp => offall p ?_, fun h z q1 => (by cases q1), fun d e => ⟨fun q => absurd (fun d' e' => by rw [e] at e'; cases e'; omega) h2, fun _ => rfl⟩⟩
          rintro (⟨_, h5, _⟩ | h5)
          · exact h2 fun d e => by rw [← hp]; exact h5 d e
          · rw [A0 (B2 h1) p hp] at h5; cases h5
      · by_cases h3 : x = along k c
        · have hle : leO (low.map (along k)) x = true := leO_iff.2 fun j e => by
            rw [Option.map_eq_some_iff] at e
            obtain ⟨d, e, rfl⟩ := e
            have := hlow d e
            omega
          have eh : hit k x ⟨k, across k c, low.map (along k), some (along k c)⟩ = some (some (across k c), some (across k c)) := by
            have h4 : x ≤ along k c := by omega
            simp [hit, hle, h4]
          rw [eh]
          obtain ⟨h0, e0, e1⟩ := B1 h3
          refine ⟨fun q => (by cases q), fun h z q1 q2 p hp => ?_, fun d e => ⟨fun q => (by have := hlow d e; omega), fun q => (by have := hlow d e; omega)⟩⟩
          have hz : (hits k x R).getLast? = some z := by
            have hne : hits k x R ≠ [] := fun q => by rw [q] at e0; cases e0
            rw [List.getLast?_append] at q2
            cases q3 : (hits k x R).getLast? with
            | none => exact absurd (List.getLast?_eq_none_iff.1 q3) hne
            | some w => rw [q3] at q2; simpa using q2
          simp at q1; subst q1
          rw [hon]
          have a1 := A1 _ _ e0 hz p hp
          have a2 := A1 _ _ e0 hz c h3.symm
          rw [e1] at a1 a2
          have a3 := (a2.1 fo).2
          rw [a1]
          simp only [leO_some, decide_eq_true_eq]
          constructor
          · rintro (⟨h5, _, _⟩ | ⟨h5, h6⟩)
            · exact ⟨by omega, by rw [h5]; exact a3⟩
            · exact ⟨h5, h6⟩
          · rintro ⟨h5, h6⟩
            exact .inr ⟨h5, h6⟩
        · have eh : hit k x ⟨k, across k c, low.map (along k), some (along k c)⟩ = none := by
            have h4 : ¬ (x ≤ along k c) := by omega
            simp [hit, h4]
          rw [eh]
          show (hits k x R = [] → _) ∧ (∀ h z, (hits k x R).head? = some h → (hits k x R).getLast? = some z → _) ∧ _
          refine ⟨fun q p hp => offall p ?_, fun h z q1 q2 p hp => ?_, fun d e => ⟨fun q => by have := hlow d e; omega, fun q => by have := hlow d e; omega⟩⟩
          · rintro (⟨_, _, h5⟩ | h5)
            · omega
            · rw [A0 q p hp] at h5; cases h5
          · rw [hon, ← A1 h z q1 q2 p hp]
            constructor
            · rintro (⟨_, _, h5⟩ | h5)
              · omega
              · exact h5
            · exact .inr
    · have hk := ne_not hk
      subst hk
      have nb : ¬ ((!b) = b) := by cases b <;> decide
      simp only [across_not, along_not] at hon offall hlow ⊢
      have hl2 : low.map (along (!b)) = low.map (across b) := by
        cases low with
        | none => rfl
        | some d => simp [along_not]
      rw [hl2] at hon offall ⊢
      by_cases h1 : along b c = x
      · have eh : hit b x ⟨!b, along b c, low.map (across b), some (across b c)⟩ = some (low.map (across b), some (across b c)) := by
          simp [hit, h1]
        rw [eh]
        obtain ⟨h0, e0, e1⟩ := B1 h1.symm
        refine ⟨fun q => (by cases q), fun h z q1 q2 p hp => ?_, fun d e => ⟨fun q => ⟨_, rfl, by rw [e]; rfl⟩, fun q => (by have := hlow d e; omega)⟩⟩
        have hz : (hits b x R).getLast? = some z := by
          have hne : hits b x R ≠ [] := fun q => by rw [q] at e0; cases e0
          rw [List.getLast?_append] at q2
          cases q3 : (hits b x R).getLast? with
          | none => exact absurd (List.getLast?_eq_none_iff.1 q3) hne
          | some w => rw [q3] at q2; simpa using q2
        simp at q1; subst q1
        rw [hon]
        have a1 := A1 _ _ e0 hz p hp
        have a2 := A1 _ _ e0 hz c h1
        rw [e1] at a1 a2
        have a3 := (a2.1 fo).2
        rw [geO_iff] at a3
        rw [a1]
        simp only [leO_some, decide_eq_true_eq]
        constructor
        · rintro (⟨_, h5, h6⟩ | ⟨h5, h6⟩)
          · refine ⟨leO_iff.2 fun j e => ?_, geO_iff.2 fun j e => ?_⟩
            · rw [Option.map_eq_some_iff] at e
              obtain ⟨d, e, rfl⟩ := e
              exact h5 d e
            · have := a3 j e; omega
          · refine ⟨leO_iff.2 fun j e => ?_, h6⟩
            rw [Option.map_eq_some_iff] at e
            obtain ⟨d, e, rfl⟩ := e
            have := hlow d e
            omega
        · rintro ⟨h5, h6⟩
          by_cases h7 : across b p ≤ across b c
          · refine .inl ⟨by rw [hp, h1], fun d e => leO_iff.1 h5 _ (by rw [e]; rfl), h7⟩
          · exact .inr ⟨by omega, h6⟩
      · have eh : hit b x ⟨!b, along b c, low.map (across b), some (across b c)⟩ = none := by
          simp [hit, h1]
        rw [eh]
        show (hits b x R = [] → _) ∧ (∀ h z, (hits b x R).head? = some h → (hits b x R).getLast? = some z → _) ∧ _
        refine ⟨fun q p hp => offall p ?_, fun h z q1 q2 p hp => ?_, fun d e => ⟨fun q => absurd ((hlow d e).1.symm.trans q.symm) h1, fun q => B2 (by have := (hlow d e).1; omega)⟩⟩
        · rintro (⟨h5, _, _⟩ | h5)
          · omega
          · rw [A0 q p hp] at h5; cases h5
        · rw [hon, ← A1 h z q1 q2 p hp]
          constructor
          · rintro (⟨h5, _, _⟩ | h5)
            · omega
            · exact h5
          · exact .inr
theorem rs_hits {b : Bool} {x B : Int} {r : Rs} (h : r.Ok B) :
    (hits b x r.pcs = [] → ∀ p, along b p = x → r.on p = false) ∧
    (∀ h z, (hits b x r.pcs).head? = some h → (hits b x r.pcs).getLast? = some z → ∀ p, along b p = x → (r.on p = true ↔ leO h.1 (across b p) = true ∧ geO z.2 (across b p) = true)) := by
  cases r with
  | bent k l =>
    obtain ⟨h1, h2, h3, h4⟩ := h
    obtain ⟨A0, A1, _⟩ := hits_spec (b := b) (x := x) (low := none) h4 (.inl h1) (fun c d e => by cases e)
    exact ⟨A0, A1⟩
  | level v =>
    cases b with
    | true =>
      have e : hits true x (Rs.level v).pcs = [(some v, some v)] := by simp [hits, hit, Rs.pcs]
      rw [e]
      refine ⟨fun q => (by cases q), fun h z q1 q2 p hp => ?_⟩
      simp at q1 q2; subst q1; subst q2
      simp [Rs.on, Rs.pcs, pc_on]
      omega
    | false =>
      by_cases q : v = x
      · have e : hits false x (Rs.level v).pcs = [(none, none)] := by simp [hits, hit, Rs.pcs, q]
        rw [e]
        refine ⟨fun q => (by cases q), fun h z q1 q2 p hp => ?_⟩
        simp at q1 q2 hp; subst q1; subst q2
        simp [Rs.on, Rs.pcs, pc_on]
        omega
      · have e : hits false x (Rs.level v).pcs = [] := by simp [hits, hit, Rs.pcs, q]
        rw [e]
        refine ⟨fun _ p hp => ?_, fun h z q1 => (by cases q1)⟩
        simp at hp
        have h2 : ¬ (p.2 = v) := by omega
        simp [Rs.on, Rs.pcs, Pc.on, h2]
  | plumb v =>
    cases b with
    | false =>
      have e : hits false x (Rs.plumb v).pcs = [(some v, some v)] := by simp [hits, hit, Rs.pcs]
      rw [e]
      refine ⟨fun q => (by cases q), fun h z q1 q2 p hp => ?_⟩
      simp at q1 q2; subst q1; subst q2
      simp [Rs.on, Rs.pcs, pc_on]
      omega
    | true =>
      by_cases q : v = x
      · have e : hits true x (Rs.plumb v).pcs = [(none, none)] := by simp [hits, hit, Rs.pcs, q]
        rw [e]
        refine ⟨fun q => (by cases q), fun h z q1 q2 p hp => ?_⟩
        simp at q1 q2 hp; subst q1; subst q2
        simp [Rs.on, Rs.pcs, pc_on]
        omega
      · have e : hits true x (Rs.plumb v).pcs = [] := by simp [hits, hit, Rs.pcs, q]
        rw [e]
        refine ⟨fun _ p hp => ?_, fun h z q1 => (by cases q1)⟩
        simp at hp
        have h2 : ¬ (p.1 = v) := by omega
        simp [Rs.on, Rs.pcs, Pc.on, h2]
/-- pieces by their first corners -/
def pcsP : Bool → List P2 → List Pc
  | _, [] => []
  | k, c :: l => ⟨k, across k c, some (along k c), l.head?.map (along k)⟩ :: pcsP (!k) l
theorem pcsP_eq : ∀ {l : List P2} {k : Bool} {c : P2}, Alt k (c :: l) → pcsP (!k) (c :: l) = pcsL (!k) (some c) l
  | [], k, c, _ => rfl
  | d :: l, k, c, h => by
    rw [pcsL_cons]
    show (⟨!k, across (!k) c, some (along (!k) c), some (along (!k) d)⟩ : Pc) :: pcsP (!!k) (d :: l) = _
    rw [pcsP_eq h.2, (Go.iff.1 h.1).1]
    rfl
def spanR (b : Bool) (l : List Pc) : Option Int × Option Int := (l.head?.bind fun c => if c.k = b then none else some c.a, l.getLast?.bind fun c => if c.k = b then none else some c.a)
def spanP (s : Option Int × Option Int) : PV := .tup [optP s.1, optP s.2]
@[simp] theorem isNn_optP {o : Option Int} : isNn (optP o) = some o.isNone := by cases o <;> exact (rfl)
@[simp] theorem isNn_optPt {o : Option P2} : isNn (optPt o) = some o.isNone := by cases o <;> exact (rfl)
theorem pl_opt {n : Nat} {o : Option Int} : pl n (optP o) = true := by cases o <;> cases n <;> rfl
theorem pl_span {n : Nat} {s : Option Int × Option Int} : pl (n + 1) (spanP s) = true := by
  show ([optP s.1, optP s.2].all (pl n)) = true
  simp [pl_opt]
theorem pcs_ne {r : Rs} {B : Int} (h : r.Ok B) : r.pcs ≠ [] := by
  cases r with
  | level v => simp [Rs.pcs]
  | plumb v => simp [Rs.pcs]
  | bent k l =>
    cases l with
    | nil => exact absurd rfl h.1
    | cons c l => show pcsL k none (c :: l) ≠ []; rw [pcsL_cons]; simp
theorem pcsL_last : ∀ {l : List P2} {k : Bool} {low : Option P2}, l ≠ [] ∨ low ≠ none → ∃ A c, pcsL k low l = A ++ [c] ∧ c.k = kAt k l.length
  | [], k, low, h => by
    cases low with
    | none => simp at h
    | some c => exact ⟨[], _, rfl, rfl⟩
  | c :: l, k, low, h => by
    obtain ⟨A, d, e, hd⟩ := pcsL_last (l := l) (k := !k) (low := some c) (.inr (by simp))
    refine ⟨_ :: A, d, by rw [pcsL_cons, e]; rfl, ?_⟩
    rw [hd, ← kAt_succ']
    rfl
theorem pcsL_end : ∀ {l : List P2} {k : Bool} {low : Option P2} {z : P2}, l.getLast? = some z → (pcsL k low l).getLast? = some ⟨kAt k l.length, across (kAt k l.length) z, some (along (kAt k l.length) z), none⟩
  | [], k, low, z, h => by cases h
  | [c], k, low, z, h => by
    simp at h; subst h
    rw [pcsL_cons]
    rfl
  | c :: d :: l, k, low, z, h => by
    have := pcsL_end (l := d :: l) (k := !k) (low := some c) (z := z) (by simpa using h)
    rw [pcsL_cons]
    have hne : pcsL (!k) (some c) (d :: l) ≠ [] := by rw [pcsL_cons]; simp
    rw [List.getLast?_cons_of_ne_nil hne, this, ← kAt_succ']
    rfl
theorem spanR_bent {b k : Bool} {l : List P2} {c z : P2} (hc : l.head? = some c) (hz : l.getLast? = some z) : spanR b (Rs.bent k l).pcs = (if k = b then none else some (across k c), if kAt k l.length = b then none else some (across (kAt k l.length) z)) := by
  unfold spanR
  show ((pcsL k none l).head?.bind _, (pcsL k none l).getLast?.bind _) = _
  rw [pcsL_end hz]
  cases l with
  | nil => cases hc
  | cons d l =>
    simp at hc; subst hc
    rw [pcsL_cons]
    rfl
def negO (o : Option Int) : Option Int := o.map fun i => -i
theorem span_turn {b : Bool} {B : Int} {r : Rs} (h : r.Ok B) : spanR b r.turn.pcs = (negO (spanR b r.pcs).2, negO (spanR b r.pcs).1) := by
  cases r with
  | level v => cases b <;> simp [spanR, Rs.turn, Rs.pcs, negO]
  | plumb v => cases b <;> simp [spanR, Rs.turn, Rs.pcs, negO]
  | bent k l =>
    obtain ⟨c, hc⟩ : ∃ c, l.head? = some c := by cases l with | nil => exact absurd rfl h.1 | cons c l => exact ⟨c, rfl⟩
    obtain ⟨z, hz⟩ : ∃ z, l.getLast? = some z := ⟨_, List.getLast?_eq_some_getLast h.1⟩
    rw [spanR_bent hc hz]
    have e := spanR_bent (b := b) (k := kAt k l.length) (l := l.reverse.map neg2) (c := neg2 z) (z := neg2 c) (by rw [List.head?_map, List.head?_reverse, hz]; rfl) (by rw [List.getLast?_map, List.getLast?_reverse, hc]; rfl)
    show spanR b (Rs.bent (kAt k l.length) (l.reverse.map neg2)).pcs = _
    rw [e]
    simp only [List.length_map, List.length_reverse, kAt_add, kAt_two, across_neg, negO]
    generalize kAt k l.length = m
    cases k <;> cases m <;> cases b <;> rfl
theorem span_tran {b : Bool} {B : Int} {r : Rs} (h : r.Ok B) : spanR b r.tran.pcs = spanR (!b) r.pcs := by
  cases r with
  | level v => cases b <;> simp [spanR, Rs.tran, Rs.pcs]
  | plumb v => cases b <;> simp [spanR, Rs.tran, Rs.pcs]
  | bent k l =>
    obtain ⟨c, hc⟩ : ∃ c, l.head? = some c := by cases l with | nil => exact absurd rfl h.1 | cons c l => exact ⟨c, rfl⟩
    obtain ⟨z, hz⟩ : ∃ z, l.getLast? = some z := ⟨_, List.getLast?_eq_some_getLast h.1⟩
    rw [spanR_bent hc hz]
    have e := spanR_bent (b := b) (k := !k) (l := l.map tr2) (c := tr2 c) (z := tr2 z) (by rw [List.head?_map, hc]; rfl) (by rw [List.getLast?_map, hz]; rfl)
    show spanR b (Rs.bent (!k) (l.map tr2)).pcs = _
    rw [e]
    simp only [List.length_map, kAt_not, across_tr]
    cases b <;> cases k <;> cases kAt _ l.length <;> rfl
@[simp] theorem tT_pt {is : List Nat} {p : P2} {e : En} : tT is (pt p) e = setAll is [.int p.1, .int p.2] e := (rfl)
def gPt (F : P2 → PV) : PV → Option PV
  | .tup [.int a, .int b] => some (F (a, b))
  | _ => none
theorem gPt_pt {F : P2 → PV} {p : P2} : gPt F (pt p) = some (F p) := rfl
theorem lc_pts {own : List Nat} {f : PV → En → Option En} {me : Mo PV} {e : En} (F : P2 → PV) {l : List P2} (hl : l.length ≤ 16777216)
    (h : ∀ p ∈ l, ∃ e1 e3, f (pt p) (wipeE e own) = some e1 ∧ me e1 = .ok (F p) e3 ∧ restE own e e3 = e) : lcLoop own f mYes me (l.map pt) [] e = .ok (.lst (l.map F)) e := by
  rw [lcLoop_map (gPt F) (by simpa using hl)]
  · congr 2
    rw [List.nil_append]
    clear h hl
    induction l with
    | nil => rfl
    | cons p l ih => rw [List.map_cons, List.filterMap_cons_some gPt_pt, ih]; rfl
  · intro q hq
    obtain ⟨p, hp, rfl⟩ := List.mem_map.1 hq
    obtain ⟨e1, e3, h1, h2, h3⟩ := h p hp
    exact ⟨e1, h1, .inr ⟨_, gPt_pt, e1, e3, rfl, h2, h3⟩⟩
@[simp] theorem pRev_tup {l : List PV} : pRev (.tup l) = some (.tup l.reverse) := (rfl)
@[simp] theorem pRev_lst {l : List PV} : pRev (.lst l) = some (.lst l.reverse) := (rfl)
@[simp] theorem mRev_ap {m : Mo PV} {e : En} : mRev m e = (m e).bind fun p e1 => lift (pRev p) e1 := (rfl)
theorem gMax_le {l : List Int} {B : Int} (hn : l ≠ []) (h : ∀ i ∈ l, i ≤ B) : ∃ s, gMax [.lst (l.map .int)] = some (.int s) ∧ s ≤ B := by
  cases l with
  | nil => exact absurd rfl hn
  | cons n l =>
    have e : gMax [.lst ((n :: l).map .int)] = some (.int (maxI n l)) := by
      show (match toIs ((n :: l).map .int) with
        | some (n :: ns) => some (PV.int (maxI n ns))
        | _ => none) = _
      rw [toIs_map]
    refine ⟨_, e, ?_⟩
    rcases (maxI_spec l n).1 with h1 | h1
    · rw [h1]; exact h n (by simp)
    · exact h _ (by simp [h1])
theorem pl_row {l : List P2} : pl 2 (.tup (l.map pt)) = true := by
  show (l.map pt).all (pl 1) = true
  simp [pl_pt]
theorem strOks : PyData.strOk "level" = true ∧ PyData.strOk "plumb" = true := by constructor <;> decide +kernel
theorem pl_rs {r : Rs} : pl 3 r.pv = true := by
  have h : ∀ (n : Nat) (x : Str), pl n (.str x) = PyData.strOk x := fun n x => by cases n <;> rfl
  cases r with
  | level v =>
    show ([PV.str "level", .int v].all (pl 2)) = true
    simp [h, strOks, pl]
  | plumb v =>
    show ([PV.str "plumb", .int v].all (pl 2)) = true
    simp [h, strOks, pl]
  | bent k l =>
    show ([kd k, .tup (l.map pt)].all (pl 2)) = true
    simp only [List.all_cons, List.all_nil, pl_kd, pl_row, Bool.and_self]
end M

namespace M
open PySem PySem.Spec PyProof.Rows L2
/-! ### areas -/
def clampH (hi : Option Int) (x : Int) : Int := match hi with
  | none => x
  | some h => if h < x then h else x
def clampO (lo hi : Option Int) (x : Int) : Int := match lo with
  | none => clampH hi x
  | some l => if x < l then l else clampH hi x
def WS (w : Pc → Int) (k : Bool) : List Pc → Int → Int
  | [], _ => 0
  | c :: L, x => (if c.k = k then w c * clampO c.lo c.hi x else 0) + WS w k L x
abbrev FS (k : Bool) (L : List Pc) (x : Int) : Int := WS Pc.a k L x
abbrev SS (k : Bool) (L : List Pc) (x : Int) : Int := WS (fun _ => 1) k L x
def phi (L : List Pc) (p : P2) : Int := FS true L p.1 + FS false L p.2 - p.1 * p.2
theorem phi_k (k : Bool) {L : List Pc} {p : P2} : phi L p = FS k L (along k p) + FS (!k) L (across k p) - along k p * across k p := by
  cases k
  · show FS true L p.1 + FS false L p.2 - p.1 * p.2 = FS false L p.2 + FS true L p.1 - p.2 * p.1
    rw [Int.mul_comm p.2]; omega
  · rfl
@[simp] theorem not_eq_self {k : Bool} : ((!k) = k) = False := by cases k <;> simp
@[simp] theorem self_eq_not {k : Bool} : (k = (!k)) = False := by cases k <;> simp
theorem WS_cons {w : Pc → Int} {k : Bool} {c : Pc} {L : List Pc} {x : Int} : WS w k (c :: L) x = (if c.k = k then w c * clampO c.lo c.hi x else 0) + WS w k L x := rfl
theorem cl_in {lo hi : Option Int} {x : Int} (h1 : ∀ l, lo = some l → l ≤ x) (h2 : ∀ h, hi = some h → x ≤ h) : clampO lo hi x = x := by
  cases lo with
  | none =>
    cases hi with
    | none => rfl
    | some h => have := h2 h rfl; show (if h < x then h else x) = x; rw [if_neg (by omega)]
  | some l =>
    have := h1 l rfl
    show (if x < l then l else clampH hi x) = x
    rw [if_neg (by omega)]
    cases hi with
    | none => rfl
    | some h => have := h2 h rfl; show (if h < x then h else x) = x; rw [if_neg (by omega)]
theorem cl_low {l : Int} {hi : Option Int} {x : Int} (h : x ≤ l) (h2 : ∀ h, hi = some h → l ≤ h) : clampO (some l) hi x = l := by
  by_cases q : x = l
  · subst q; exact cl_in (fun _ e => by cases e; exact Int.le_refl _) h2
  · show (if x < l then l else clampH hi x) = l
    rw [if_pos (by omega)]
theorem cl_high {lo : Option Int} {h x : Int} (h1 : h ≤ x) (h2 : ∀ l, lo = some l → l ≤ h) : clampO lo (some h) x = h := by
  by_cases q : x = h
  · subst q; exact cl_in h2 (fun _ e => by cases e; exact Int.le_refl _)
  · cases lo with
    | none => show (if h < x then h else x) = h; rw [if_pos (by omega)]
    | some l =>
      have := h2 l rfl
      show (if x < l then l else if h < x then h else x) = h
      rw [if_neg (by omega), if_pos (by omega)]
/-- the chain's conditions -/
def Ch (k : Bool) (low : Option P2) (l : List P2) : Prop := Alt k l ∧ (l ≠ [] ∨ low ≠ none) ∧ ∀ c d, low = some c → l.head? = some d → Go k c d
theorem Ch.tail {k : Bool} {low : Option P2} {d : P2} {l : List P2} (h : Ch k low (d :: l)) : Ch (!k) (some d) l := by
  refine ⟨?_, .inr (by simp), fun a b h1 h2 => ?_⟩
  · cases l with
    | nil => trivial
    | cons e l => exact h.1.2
  · cases h1
    cases l with
    | nil => cases h2
    | cons e l => simp at h2; subst h2; exact h.1.1
theorem Ch.go {k : Bool} {c d : P2} {l : List P2} (h : Ch k (some c) (d :: l)) : across k c = across k d ∧ along k c < along k d := Go.iff.1 (h.2.2 c d rfl rfl)
theorem Ch.first {k : Bool} {c : P2} {l : List P2} (h : Ch k (some c) l) : ((pcsL k (some c) l).any fun z => z.on c) = true := first_on fun d e => h.2.2 c d rfl e
theorem along_le {k m : Bool} {c d : P2} (h : across k c = across k d ∧ along k c < along k d) : along m c ≤ along m d := by
  cases k <;> cases m <;> simp at * <;> omega
theorem WS_low {w : Pc → Int} : ∀ {l : List P2} {k m : Bool} {c : P2} {s : Int}, Ch k (some c) l → s ≤ along m c → WS w m (pcsL k (some c) l) s = WS w m (pcsL k (some c) l) (along m c)
  | [], k, m, c, s, _, hs => by
    have e : pcsL k (some c) [] = [⟨k, across k c, some (along k c), none⟩] := rfl
    rw [e, WS_cons, WS_cons]
    by_cases q : k = m
    · subst q
      simp only [if_true]
      rw [cl_low hs (fun _ e => by cases e), cl_low (Int.le_refl _) (fun _ e => by cases e)]
      rfl
    · simp only [if_neg q]; rfl
  | d :: l, k, m, c, s, h, hs => by
    have g := h.go
    have hd := along_le (m := m) g
    rw [pcsL_cons, WS_cons, WS_cons, WS_low (m := m) (s := s) h.tail (by omega), WS_low (m := m) (s := along m c) h.tail hd]
    congr 1
    by_cases q : k = m
    · subst q
      simp only [if_true, Option.map_some]
      rw [cl_low hs (fun _ e => by cases e; omega), cl_low (Int.le_refl _) (fun _ e => by cases e; omega)]
    · simp only [if_neg q]
theorem on_ge : ∀ {l : List P2} {k m : Bool} {c p : P2}, Ch k (some c) l → ((pcsL k (some c) l).any fun z => z.on p) = true → along m c ≤ along m p
  | [], k, m, c, p, _, hp => by
    have e : pcsL k (some c) [] = [⟨k, across k c, some (along k c), none⟩] := rfl
    rw [e, List.any_cons, List.any_nil, Bool.or_false, pc_on] at hp
    have h2 := hp.2.1 _ rfl
    have h1 := hp.1
    cases k <;> cases m <;> simp at * <;> omega
  | d :: l, k, m, c, p, h, hp => by
    have g := h.go
    rw [pcsL_cons, List.any_cons, Bool.or_eq_true, pc_on] at hp
    rcases hp with ⟨h1, h2, -⟩ | hp
    · have h3 := h2 (along k c) rfl
      cases k <;> cases m <;> simp at * <;> omega
    · have := on_ge (m := m) h.tail hp
      have := along_le (m := m) g
      omega
def refOf (low : Option P2) (l : List P2) : P2 := match l.head? with
  | some e => e
  | none => low.getD (0, 0)
theorem phi_cons {k : Bool} {a : Int} {lo hi : Option Int} {R : List Pc} {p : P2} : phi (⟨k, a, lo, hi⟩ :: R) p = a * clampO lo hi (along k p) + phi R p := by
  rw [phi_k k, phi_k k]
  show ((if k = k then a * clampO lo hi (along k p) else 0) + FS k R (along k p)) + ((if k = !k then a * clampO lo hi (across k p) else 0) + FS (!k) R (across k p)) - _ = _
  rw [if_pos rfl, if_neg (by cases k <;> decide)]
  omega
theorem phi_on : ∀ {l : List P2} {k : Bool} {low : Option P2} {p : P2}, Ch k low l → ((pcsL k low l).any fun z => z.on p) = true → phi (pcsL k low l) p = phi (pcsL k low l) (refOf low l)
  | [], k, low, p, h, hp => by
    cases low with
    | none => have := h.2.1; simp at this
    | some c =>
      have e : pcsL k (some c) [] = [⟨k, across k c, some (along k c), none⟩] := rfl
      have er : refOf (some c) [] = c := rfl
      rw [er, e]
      rw [e, List.any_cons, List.any_nil, Bool.or_false, pc_on] at hp
      have h2 := hp.2.1 _ rfl
      have h1 := hp.1
      have z : ∀ q : P2, phi [] q = - (along k q * across k q) := fun q => by rw [phi_k k]; show 0 + 0 - _ = _; omega
      rw [phi_cons, phi_cons, z, z, cl_in (fun _ e => by cases e; exact h2) (fun _ e => by cases e), cl_in (fun _ e => by cases e; exact Int.le_refl _) (fun _ e => by cases e), h1, Int.mul_comm (along k p), Int.mul_comm (along k c)]
      omega
  | d :: l, k, low, p, h, hp => by
    have ht := h.tail
    have er : refOf low (d :: l) = d := rfl
    have ed := phi_on ht ht.first
    rw [er]
    rw [pcsL_cons] at hp ⊢
    rw [phi_cons, phi_cons]
    have hlo : ∀ x, low.map (along k) = some x → x < along k d := fun x e => by
      rw [Option.map_eq_some_iff] at e
      obtain ⟨c, rfl, rfl⟩ := e
      exact (h.go).2
    have cd : clampO (low.map (along k)) (some (along k d)) (along k d) = along k d := cl_in (fun x e => by have := hlo x e; omega) (fun _ e => by cases e; exact Int.le_refl _)
    rw [List.any_cons, Bool.or_eq_true, pc_on] at hp
    rcases hp with ⟨h1, h2, h3⟩ | hp
    · have h4 := h3 _ rfl
      rw [cl_in h2 (fun _ e => by cases e; exact h4), cd]
      rw [phi_k k, phi_k k (p := d)]
      have e1 : FS k (pcsL (!k) (some d) l) (along k p) = FS k (pcsL (!k) (some d) l) (along k d) := WS_low ht h4
      rw [e1, h1, Int.mul_comm (along k p), Int.mul_comm (along k d)]
      omega
    · have h4 := on_ge (m := k) ht hp
      rw [cl_high h4 (fun x e => by have := hlo x e; omega), cd, phi_on ht hp, ed]
/-- the last piece of a chain is not below its start -/
theorem last_ge : ∀ {l : List P2} {k : Bool} {c : P2} {z : Pc}, Ch k (some c) l → (pcsL k (some c) l).getLast? = some z → across z.k c ≤ z.a
  | [], k, c, z, _, hz => by
    have e : pcsL k (some c) [] = [⟨k, across k c, some (along k c), none⟩] := rfl
    rw [e] at hz
    simp at hz
    subst hz
    exact Int.le_refl _
  | d :: l, k, c, z, h, hz => by
    rw [pcsL_cons] at hz
    have hne : pcsL (!k) (some d) l ≠ [] := by cases l <;> simp [pcsL, pcsL_cons]
    rw [List.getLast?_cons_of_ne_nil hne] at hz
    have := last_ge h.tail hz
    have := along_le (m := !z.k) h.go
    rw [along_not, along_not] at this
    omega
theorem pcsL_ne {k : Bool} {c : P2} {l : List P2} : pcsL k (some c) l ≠ [] := by cases l <;> simp [pcsL, pcsL_cons]
theorem mk_pt (k : Bool) (s t : Int) : ∃ p : P2, along k p = s ∧ across k p = t := by
  cases k
  · exact ⟨(t, s), rfl, rfl⟩
  · exact ⟨(s, t), rfl, rfl⟩
theorem mul_nonneg' {a b : Int} (h1 : 0 ≤ a) (h2 : 0 ≤ b) : 0 ≤ a * b := Int.mul_nonneg h1 h2
theorem phi_ge : ∀ {l : List P2} {k : Bool} {low : Option P2} {p : P2}, Ch k low l → (∀ c, low = some c → along k c ≤ along k p ∧ across k c ≤ across k p) → (∀ e, l.head? = some e → across k e ≤ across k p) →
    (∀ z, (pcsL k low l).getLast? = some z → across z.k p ≤ z.a) →
    phi (pcsL k low l) (refOf low l) ≤ phi (pcsL k low l) p ∧ (phi (pcsL k low l) p = phi (pcsL k low l) (refOf low l) → ((pcsL k low l).any fun z => z.on p) = true)
  | [], k, low, p, h, h1, h2, h3 => by
    cases low with
    | none => have := h.2.1; simp at this
    | some c =>
      have e : pcsL k (some c) [] = [⟨k, across k c, some (along k c), none⟩] := rfl
      have ht : across k p ≤ across k c := h3 ⟨k, across k c, some (along k c), none⟩ (by rw [e]; rfl)
      obtain ⟨h4, h5⟩ := h1 c rfl
      have on : ((pcsL k (some c) []).any fun z => z.on p) = true := by
        rw [e, List.any_cons, List.any_nil, Bool.or_false, pc_on]
        exact ⟨by omega, fun _ e => by cases e; exact h4, fun _ e => by cases e⟩
      rw [phi_on h on]
      exact ⟨Int.le_refl _, fun _ => on⟩
  | e :: l, k, low, p, h, h1, h2, h3 => by
    have ht := h.tail
    have er : refOf low (e :: l) = e := rfl
    have ed := phi_on ht ht.first
    have ha := h2 e rfl
    rw [er]
    have hlo : ∀ x, low.map (along k) = some x → x < along k e := fun x q => by
      rw [Option.map_eq_some_iff] at q
      obtain ⟨c, rfl, rfl⟩ := q
      exact (h.go).2
    have hlp : ∀ x, low.map (along k) = some x → x ≤ along k p := fun x q => by
      rw [Option.map_eq_some_iff] at q
      obtain ⟨c, q, rfl⟩ := q
      exact (h1 c q).1
    have cd : clampO (low.map (along k)) (some (along k e)) (along k e) = along k e := cl_in (fun x q => by have := hlo x q; omega) (fun _ q => by cases q; exact Int.le_refl _)
    have h3' : ∀ z, (pcsL (!k) (some e) l).getLast? = some z → across z.k p ≤ z.a := fun z q => h3 z (by rw [pcsL_cons, List.getLast?_cons_of_ne_nil pcsL_ne]; exact q)
    rw [pcsL_cons, phi_cons, phi_cons, cd, List.any_cons, Bool.or_eq_true]
    by_cases hs : along k e ≤ along k p
    · obtain ⟨i1, i2⟩ := phi_ge (p := p) ht (fun c q => by cases q; rw [along_not, along_not, across_not, across_not]; exact ⟨ha, hs⟩) (fun f q => by
        have g := Go.iff.1 (ht.2.2 e f rfl q)
        rw [across_not, across_not] at g
        rw [across_not, across_not]; omega) h3'
      rw [cl_high hs (fun x q => by have := hlo x q; omega)]
      exact ⟨by omega, fun q => .inr (i2 (by omega))⟩
    · obtain ⟨p', q1, q2⟩ := mk_pt k (along k e) (across k p)
      obtain ⟨i1, -⟩ := phi_ge (p := p') ht (fun c q => by cases q; rw [along_not, along_not, across_not, across_not, q1, q2]; exact ⟨ha, Int.le_refl _⟩) (fun f q => by
        have g := Go.iff.1 (ht.2.2 e f rfl q)
        rw [across_not, across_not] at g
        rw [across_not, across_not, q1]; omega) (fun z q => by
        by_cases zk : z.k = k
        · have := h3' z q
          rw [zk] at this ⊢
          rw [q2]; exact this
        · have zk := ne_not zk
          have := last_ge ht q
          rw [zk, across_not] at this ⊢
          rw [q1]; exact this)
      rw [← ed] at i1
      rw [phi_k k, phi_k k (p := p'), q1, q2] at i1
      rw [cl_in hlp (fun _ q => by cases q; omega)]
      rw [phi_k k, phi_k k (p := p)]
      have e1 : FS k (pcsL (!k) (some e) l) (along k p) = FS k (pcsL (!k) (some e) l) (along k e) := WS_low ht (by omega)
      rw [e1]
      have hm : 0 ≤ (along k e - along k p) * (across k p - across k e) := Int.mul_nonneg (by omega) (by omega)
      rw [Int.mul_sub, Int.sub_mul, Int.sub_mul] at hm
      rw [Int.mul_comm (across k e), Int.mul_comm (across k e)]
      refine ⟨by omega, fun q => .inl (pc_on.2 ⟨?_, hlp, fun _ q => by cases q; omega⟩)⟩
      have hz : (along k e - along k p) * (across k p - across k e) = 0 := by
        rw [Int.mul_sub, Int.sub_mul, Int.sub_mul]; omega
      rcases Int.mul_eq_zero.1 hz with z | z
      · omega
      · omega
/-! ### ranges, and what is on the rise -/
theorem on_le : ∀ {l : List P2} {k : Bool} {low : Option P2} {p : P2} {z : Pc}, Ch k low l → ((pcsL k low l).any fun z => z.on p) = true → (pcsL k low l).getLast? = some z → across z.k p ≤ z.a
  | [], k, low, p, z, h, hp, hz => by
    cases low with
    | none => have := h.2.1; simp at this
    | some c =>
      have e : pcsL k (some c) [] = [⟨k, across k c, some (along k c), none⟩] := rfl
      rw [e] at hz hp
      simp at hz
      subst hz
      rw [List.any_cons, List.any_nil, Bool.or_false, pc_on] at hp
      exact Int.le_of_eq hp.1
  | d :: l, k, low, p, z, h, hp, hz => by
    rw [pcsL_cons] at hz hp
    rw [List.getLast?_cons_of_ne_nil pcsL_ne] at hz
    rw [List.any_cons, Bool.or_eq_true, pc_on] at hp
    rcases hp with ⟨h1, -, h3⟩ | hp
    · have h4 := last_ge h.tail hz
      have h5 := h3 _ rfl
      by_cases zk : z.k = k
      · rw [zk] at h4 ⊢; omega
      · rw [ne_not zk, across_not] at h4 ⊢; omega
    · exact on_le h.tail hp hz
theorem bent_ch {B : Int} {k : Bool} {l : List P2} (h : (Rs.bent k l).Ok B) : Ch k none l := ⟨h.2.2.2, .inl h.1, fun c d e => by cases e⟩
def inB (r : Rs) (b : Bool) (s : Int) : Prop := (∀ i, (spanR b r.pcs).1 = some i → i ≤ s) ∧ ∀ i, (spanR b r.pcs).2 = some i → s ≤ i
theorem inB_iff {r : Rs} {b : Bool} {s : Int} : (leO (spanR b r.pcs).1 s && geO (spanR b r.pcs).2 s) = true ↔ inB r b s := by
  rw [Bool.and_eq_true, leO_iff, geO_iff]; rfl
theorem inB_conv {r : Rs} {b : Bool} {s t u : Int} (h1 : inB r b s) (h2 : inB r b u) (h3 : s ≤ t) (h4 : t ≤ u) : inB r b t := ⟨fun i e => by have := h1.1 i e; omega, fun i e => by have := h2.2 i e; omega⟩
/-- the ends of the ranges of a rise with corners -/
theorem bent_in {B : Int} {k b : Bool} {c : P2} {l : List P2} {s : Int} (h : (Rs.bent k (c :: l)).Ok B) : inB (Rs.bent k (c :: l)) b s ↔ (k ≠ b → across k c ≤ s) ∧ ∀ z, (pcsL k none (c :: l)).getLast? = some z → z.k ≠ b → s ≤ z.a := by
  obtain ⟨z, hz⟩ : ∃ z, (pcsL k none (c :: l)).getLast? = some z := ⟨_, List.getLast?_eq_some_getLast (by rw [pcsL_cons]; simp)⟩
  unfold inB spanR
  have ep : (Rs.bent k (c :: l)).pcs = pcsL k none (c :: l) := rfl
  have hh : (pcsL k none (c :: l)).head? = some ⟨k, across k c, none, some (along k c)⟩ := by rw [pcsL_cons]; rfl
  rw [ep, hz, hh]
  simp only [Option.bind_some]
  constructor
  · rintro ⟨h1, h2⟩
    exact ⟨fun q => h1 _ (if_neg q), fun z' e q => by cases e; exact h2 _ (if_neg q)⟩
  · rintro ⟨h1, h2⟩
    refine ⟨fun i e => ?_, fun i e => ?_⟩
    · by_cases q : k = b
      · rw [if_pos q] at e; cases e
      · rw [if_neg q] at e; cases e; exact h1 q
    · by_cases q : z.k = b
      · rw [if_pos q] at e; cases e
      · rw [if_neg q] at e; cases e; exact h2 z rfl q
theorem on_in {B : Int} {r : Rs} {b : Bool} {p : P2} (h : r.Ok B) (hp : r.on p = true) : inB r b (along b p) := by
  cases r with
  | level v =>
    simp [Rs.on, Rs.pcs, pc_on] at hp
    cases b <;> simp [inB, spanR, Rs.pcs] <;> omega
  | plumb v =>
    simp [Rs.on, Rs.pcs, pc_on] at hp
    cases b <;> simp [inB, spanR, Rs.pcs] <;> omega
  | bent k l =>
    cases l with
    | nil => exact absurd rfl h.1
    | cons c l =>
      have hc := bent_ch h
      refine (bent_in h).2 ⟨fun q => ?_, fun z hz q => ?_⟩
      · have hp : ((pcsL k none (c :: l)).any fun z => z.on p) = true := hp
        rw [pcsL_cons, List.any_cons, Bool.or_eq_true, pc_on] at hp
        have hb : b = !k := ne_not (Ne.symm q)
        subst hb
        rw [along_not]
        rcases hp with ⟨h1, -, -⟩ | hp
        · exact Int.le_of_eq h1.symm
        · have := on_ge (m := !k) hc.tail hp
          rw [along_not, along_not] at this
          exact this
      · have := on_le hc hp hz
        rw [ne_not q, across_not] at this
        exact this
theorem step_chain {b : Bool} : ∀ {l : List P2} {k : Bool} {low : Option P2} {s : Int}, Ch k low l → (∀ c, low = some c → along b c ≤ s) → (low = none → k ≠ b → ∀ e, l.head? = some e → along b e ≤ s) → (∀ z, (pcsL k low l).getLast? = some z → z.k ≠ b → s + 1 ≤ z.a) →
    ∃ p q : P2, along b p = s ∧ along b q = s + 1 ∧ across b p = across b q ∧ ((pcsL k low l).any fun z => z.on p) = true ∧ ((pcsL k low l).any fun z => z.on q) = true
  | [], k, low, s, h, h1, _, h3 => by
    cases low with
    | none => have := h.2.1; simp at this
    | some c =>
      have e : pcsL k (some c) [] = [⟨k, across k c, some (along k c), none⟩] := rfl
      have h4 := h1 c rfl
      by_cases q : k = b
      · subst q
        obtain ⟨p, p1, p2⟩ := mk_pt k s (across k c)
        obtain ⟨p', q1, q2⟩ := mk_pt k (s + 1) (across k c)
        refine ⟨p, p', p1, q1, p2.trans q2.symm, ?_, ?_⟩
        · rw [e, List.any_cons, List.any_nil, Bool.or_false, pc_on]
          exact ⟨p2, fun _ e => by cases e; omega, fun _ e => by cases e⟩
        · rw [e, List.any_cons, List.any_nil, Bool.or_false, pc_on]
          exact ⟨q2, fun _ e => by cases e; omega, fun _ e => by cases e⟩
      · have h5 : s + 1 ≤ across k c := h3 ⟨k, across k c, some (along k c), none⟩ (by rw [e]; rfl) q
        rw [ne_not q, across_not] at h5
        omega
  | e :: l, k, low, s, h, h1, h2, h3 => by
    by_cases hs : along b e ≤ s
    · obtain ⟨p, q, a1, a2, a3, a4, a5⟩ := step_chain (b := b) (s := s) h.tail (fun c x => by cases x; exact hs) (fun x => by cases x) (fun z hz => h3 z (by rw [pcsL_cons, List.getLast?_cons_of_ne_nil pcsL_ne]; exact hz))
      exact ⟨p, q, a1, a2, a3, by rw [pcsL_cons, List.any_cons, a4, Bool.or_true], by rw [pcsL_cons, List.any_cons, a5, Bool.or_true]⟩
    · have kb : k = b := by
        by_cases q : k = b
        · exact q
        · cases low with
          | none => exact absurd (h2 rfl q e rfl) hs
          | some c =>
            have g := h.go.1
            rw [ne_not q, across_not, across_not] at g
            have := h1 c rfl
            omega
      subst kb
      obtain ⟨p, p1, p2⟩ := mk_pt k s (across k e)
      obtain ⟨p', q1, q2⟩ := mk_pt k (s + 1) (across k e)
      have hlow : ∀ x, low.map (along k) = some x → x ≤ s := fun x q => by
        rw [Option.map_eq_some_iff] at q
        obtain ⟨c, q, rfl⟩ := q
        exact h1 c q
      refine ⟨p, p', p1, q1, p2.trans q2.symm, ?_, ?_⟩
      · rw [pcsL_cons, List.any_cons, Bool.or_eq_true, pc_on]
        exact .inl ⟨p2, fun x q => by have := hlow x q; omega, fun x q => by cases q; omega⟩
      · rw [pcsL_cons, List.any_cons, Bool.or_eq_true, pc_on]
        exact .inl ⟨q2, fun x q => by have := hlow x q; omega, fun x q => by cases q; omega⟩
/-- one step within the range goes along a piece -/
theorem step_on {B s : Int} {r : Rs} {b : Bool} (h : r.Ok B) (h1 : inB r b s) (h2 : inB r b (s + 1)) : ∃ p q : P2, along b p = s ∧ along b q = s + 1 ∧ across b p = across b q ∧ r.on p = true ∧ r.on q = true := by
  cases r with
  | level v =>
    cases b with
    | true => exact ⟨(s, v), (s + 1, v), rfl, rfl, rfl, by simp [Rs.on, Rs.pcs, pc_on], by simp [Rs.on, Rs.pcs, pc_on]⟩
    | false =>
      have := h1.1 v (by simp [spanR, Rs.pcs])
      have := h2.2 v (by simp [spanR, Rs.pcs])
      omega
  | plumb v =>
    cases b with
    | false => exact ⟨(v, s), (v, s + 1), rfl, rfl, rfl, by simp [Rs.on, Rs.pcs, pc_on], by simp [Rs.on, Rs.pcs, pc_on]⟩
    | true =>
      have := h1.1 v (by simp [spanR, Rs.pcs])
      have := h2.2 v (by simp [spanR, Rs.pcs])
      omega
  | bent k l =>
    cases l with
    | nil => exact absurd rfl h.1
    | cons c l =>
      obtain ⟨a1, -⟩ := (bent_in h).1 h1
      obtain ⟨-, a2⟩ := (bent_in h).1 h2
      exact step_chain (bent_ch h) (fun c e => by cases e) (fun _ q e he => by
        simp at he; subst he
        have := a1 q
        rw [show k = !b from ne_not q, across_not] at this
        exact this) a2
def anchor : Rs → P2
  | .level v => (0, v)
  | .plumb v => (v, 0)
  | .bent _ l => l.head?.getD (0, 0)
def phiR (r : Rs) (p : P2) : Int := phi r.pcs p
theorem anchor_on {B : Int} {r : Rs} (h : r.Ok B) : r.on (anchor r) = true := by
  cases r with
  | level v => simp [Rs.on, Rs.pcs, pc_on, anchor]
  | plumb v => simp [Rs.on, Rs.pcs, pc_on, anchor]
  | bent k l =>
    cases l with
    | nil => exact absurd rfl h.1
    | cons c l =>
      show ((pcsL k none (c :: l)).any fun z => z.on c) = true
      rw [pcsL_cons, List.any_cons, Bool.or_eq_true, pc_on]
      exact .inl ⟨rfl, fun x q => (by cases q), fun x q => by cases q; exact Int.le_refl _⟩
theorem phiR_on {B : Int} {r : Rs} {p q : P2} (h : r.Ok B) (hp : r.on p = true) (hq : r.on q = true) : phiR r p = phiR r q := by
  cases r with
  | level v =>
    simp [Rs.on, Rs.pcs, pc_on] at hp hq
    simp [phiR, phi, Rs.pcs, WS, clampO, clampH, hp, hq, Int.mul_comm]
  | plumb v =>
    simp [Rs.on, Rs.pcs, pc_on] at hp hq
    simp [phiR, phi, Rs.pcs, WS, clampO, clampH, hp, hq, Int.mul_comm]
  | bent k l => exact (phi_on (bent_ch h) hp).trans (phi_on (bent_ch h) hq).symm
theorem phiR_ge {B : Int} {r : Rs} {p q : P2} (h : r.Ok B) (h1 : inB r true p.1) (h2 : inB r false p.2) (hq : r.on q = true) : phiR r q ≤ phiR r p ∧ (phiR r p = phiR r q → r.on p = true) := by
  cases r with
  | level v =>
    have a := h2.1 v (by simp [spanR, Rs.pcs])
    have b := h2.2 v (by simp [spanR, Rs.pcs])
    have on : (Rs.level v).on p = true := by
      simp [Rs.on, Rs.pcs, pc_on]; omega
    rw [phiR_on h on hq]
    exact ⟨Int.le_refl _, fun _ => on⟩
  | plumb v =>
    have a := h1.1 v (by simp [spanR, Rs.pcs])
    have b := h1.2 v (by simp [spanR, Rs.pcs])
    have on : (Rs.plumb v).on p = true := by
      simp [Rs.on, Rs.pcs, pc_on]; omega
    rw [phiR_on h on hq]
    exact ⟨Int.le_refl _, fun _ => on⟩
  | bent k l =>
    cases l with
    | nil => exact absurd rfl h.1
    | cons c l =>
      have hin : ∀ b, inB (Rs.bent k (c :: l)) b (along b p) := fun b => by cases b <;> assumption
      obtain ⟨a1, -⟩ := (bent_in h).1 (hin (!k))
      have := phi_ge (p := p) (bent_ch h) (fun c e => by cases e) (fun e he => by
        simp at he; subst he
        have := a1 (by cases k <;> decide)
        rw [along_not] at this
        exact this) (fun z hz => by
        obtain ⟨-, a2⟩ := (bent_in h).1 (hin (!z.k))
        have := a2 z hz (by cases z.k <;> decide)
        rw [along_not] at this
        exact this)
      rw [← phi_on (bent_ch h) hq] at this
      exact this
/-! ### work -/
theorem step_val {B : Int} {r : Rs} {b : Bool} {p q : P2} (h : r.Ok B) (hp : r.on p = true) (hq : r.on q = true) (e : along b q = along b p + 1) (ea : across b p = across b q) : FS b r.pcs (along b p + 1) - FS b r.pcs (along b p) = across b p := by
  have := phiR_on h hp hq
  unfold phiR at this
  rw [phi_k b, phi_k b (p := q), e, ← ea, Int.add_mul] at this
  omega
theorem tele {I : Int → Prop} (conv : ∀ s t u, I s → I u → s ≤ t → t ≤ u → I t) {f g : Int → Int} (hs : ∀ s, I s → I (s + 1) → f (s + 1) - f s = g (s + 1) - g s) : ∀ {x o : Int}, I x → I o → f o - f x = g o - g x := by
  have up : ∀ (n : Nat) (x : Int), I x → I (x + n) → f (x + n) - f x = g (x + n) - g x := by
    intro n
    induction n with
    | zero => intro x _ _; simp
    | succ n ih =>
      intro x h1 h2
      have h3 : I (x + n) := conv x (x + n) (x + (n + 1 : Nat)) h1 h2 (by omega) (by omega)
      have e : x + ((n + 1 : Nat) : Int) = x + n + 1 := by omega
      rw [e] at h2 ⊢
      have := ih x h1 h3
      have := hs (x + n) h3 h2
      omega
  intro x o hx ho
  by_cases h : x ≤ o
  · obtain ⟨n, rfl⟩ : ∃ n : Nat, o = x + n := ⟨(o - x).toNat, by omega⟩
    exact up n x hx ho
  · obtain ⟨n, rfl⟩ : ∃ n : Nat, x = o + n := ⟨(x - o).toNat, by omega⟩
    have := up n o ho hx
    omega
theorem on_tran' {B : Int} {r : Rs} {p : P2} (h : r.Ok B) : r.on p = true → r.tran.on (p.2, p.1) = true := fun hp => by
  have : r.tran.on (tr2 p) = r.on p := on_tran h
  rw [← this] at hp; exact hp
theorem in_tran {B : Int} {r : Rs} {b : Bool} {s : Int} (h : r.Ok B) : inB r.tran b s ↔ inB r (!b) s := by
  unfold inB; rw [span_tran h]
theorem work_tran {B : Int} {r : Rs} (h : r.Ok B) {x o : Int} (hx : inB r false x) (ho : inB r false o) : FS true r.tran.pcs o - FS true r.tran.pcs x = FS false r.pcs o - FS false r.pcs x := by
  refine tele (I := inB r false) (fun s t u => inB_conv) (fun s h1 h2 => ?_) hx ho
  obtain ⟨p, q, a1, a2, a3, a4, a5⟩ := step_on h h1 h2
  have e1 := step_val (b := false) h a4 a5 (by omega) a3
  have e2 := step_val (b := true) (ok_tran h) (on_tran' h a4) (on_tran' h a5) (by simp at *; omega) (by simp at *; omega)
  rw [a1] at e1
  simp at a1 a2 a3 e2 e1
  rw [a1] at e2
  omega
theorem in_turn {B : Int} {r : Rs} {b : Bool} {s : Int} (h : r.Ok B) : inB r.turn b (-s) ↔ inB r b s := by
  unfold inB
  rw [span_turn h]
  unfold negO
  cases (spanR b r.pcs).1 <;> cases (spanR b r.pcs).2 <;> simp <;> omega
theorem work_turn {B : Int} {r : Rs} {b : Bool} (h : r.Ok B) {x o : Int} (hx : inB r b x) (ho : inB r b o) : FS b r.turn.pcs (-o) - FS b r.turn.pcs (-x) = FS b r.pcs o - FS b r.pcs x := by
  refine tele (I := inB r b) (fun s t u => inB_conv) (f := fun s => FS b r.turn.pcs (-s)) (fun s h1 h2 => ?_) hx ho
  obtain ⟨p, q, a1, a2, a3, a4, a5⟩ := step_on h h1 h2
  have e1 := step_val (b := b) h a4 a5 (by omega) a3
  have t1 : r.turn.on (neg2 q) = true := by rw [on_turn h]; exact a5
  have t2 : r.turn.on (neg2 p) = true := by rw [on_turn h]; exact a4
  have e2 := step_val (b := b) (ok_turn h) t1 t2 (by simp; omega) (by simp; omega)
  rw [a1] at e1
  simp only [along_neg, across_neg] at e2
  rw [a2, show -(s + 1) + 1 = -s by omega] at e2
  omega
theorem along_mv {b : Bool} {p : P2} {u v : Int} : along b (mv2 u v p) = along b p + along b (u, v) := by cases b <;> rfl
theorem across_mv {b : Bool} {p : P2} {u v : Int} : across b (mv2 u v p) = across b p + across b (u, v) := by cases b <;> rfl
theorem span_move {B : Int} {b : Bool} {r : Rs} {u v : Int} (h : r.Ok B) : spanR b (r.move u v).pcs = ((spanR b r.pcs).1.map fun i => i + along b (u, v), (spanR b r.pcs).2.map fun i => i + along b (u, v)) := by
  cases r with
  | level w => cases b <;> simp [spanR, Rs.move, Rs.pcs]
  | plumb w => cases b <;> simp [spanR, Rs.move, Rs.pcs]
  | bent k l =>
    obtain ⟨c, hc⟩ : ∃ c, l.head? = some c := by cases l with | nil => exact absurd rfl h.1 | cons c l => exact ⟨c, rfl⟩
    obtain ⟨z, hz⟩ : ∃ z, l.getLast? = some z := ⟨_, List.getLast?_eq_some_getLast h.1⟩
    rw [spanR_bent hc hz]
    have e := spanR_bent (b := b) (k := k) (l := l.map (mv2 u v)) (c := mv2 u v c) (z := mv2 u v z) (by rw [List.head?_map, hc]; rfl) (by rw [List.getLast?_map, hz]; rfl)
    show spanR b (Rs.bent k (l.map (mv2 u v))).pcs = _
    rw [e]
    simp only [List.length_map]
    generalize kAt k l.length = m
    cases k <;> cases m <;> cases b <;> rfl
theorem in_move {B : Int} {r : Rs} {b : Bool} {s u v : Int} (h : r.Ok B) : inB (r.move u v) b (s + along b (u, v)) ↔ inB r b s := by
  unfold inB
  rw [span_move h]
  cases (spanR b r.pcs).1 <;> cases (spanR b r.pcs).2 <;> simp
theorem work_move {B : Int} {r : Rs} {b : Bool} {u v : Int} (h : r.Ok B) {x o : Int} (hx : inB r b x) (ho : inB r b o) : FS b (r.move u v).pcs (o + along b (u, v)) - FS b (r.move u v).pcs (x + along b (u, v)) = FS b r.pcs o - FS b r.pcs x + across b (u, v) * (o - x) := by
  have hm : (r.move u v).Ok (B + (u.natAbs + v.natAbs : Nat)) := ok_move h (by omega) (by omega)
  have := tele (I := inB r b) (fun s t u => inB_conv) (f := fun s => FS b (r.move u v).pcs (s + along b (u, v))) (g := fun s => FS b r.pcs s + across b (u, v) * s) (fun s h1 h2 => by
    obtain ⟨p, q, a1, a2, a3, a4, a5⟩ := step_on h h1 h2
    have e1 := step_val (b := b) h a4 a5 (by omega) a3
    have t1 : (r.move u v).on (mv2 u v p) = true := by rw [on_move h]; exact a4
    have t2 : (r.move u v).on (mv2 u v q) = true := by rw [on_move h]; exact a5
    have e2 := step_val (b := b) hm t1 t2 (by rw [along_mv, along_mv]; omega) (by rw [across_mv, across_mv]; omega)
    rw [along_mv, across_mv, a1] at e2
    rw [a1] at e1
    rw [Int.mul_add, Int.mul_one, show s + 1 + along b (u, v) = s + along b (u, v) + 1 by omega]
    omega) hx ho
  rw [Int.mul_sub]
  omega
/-! ### gaps -/
theorem phi_turn {B : Int} {r : Rs} {p q : P2} (h : r.Ok B) (hp1 : inB r true p.1) (hp2 : inB r false p.2) (hq : r.on q = true) : phiR r.turn (neg2 p) - phiR r.turn (neg2 q) = phiR r p - phiR r q := by
  have q1 := on_in (b := true) h hq
  have q2 := on_in (b := false) h hq
  have w1 := work_turn h q1 hp1
  have w2 := work_turn h q2 hp2
  simp at w1 w2
  unfold phiR phi neg2
  dsimp only
  rw [Int.neg_mul_neg, Int.neg_mul_neg]
  omega
theorem phi_tran {B : Int} {r : Rs} {p q : P2} (h : r.Ok B) (hp1 : inB r true p.1) (hp2 : inB r false p.2) (hq : r.on q = true) : phiR r.tran (tr2 p) - phiR r.tran (tr2 q) = phiR r p - phiR r q := by
  have q1 := on_in (b := true) h hq
  have q2 := on_in (b := false) h hq
  have w1 := work_tran h q2 hp2
  have w2 := work_tran (r := r.tran) (ok_tran h) (x := q.1) (o := p.1) ((in_tran h).2 q1) ((in_tran h).2 hp1)
  rw [tran_tran] at w2
  simp at w1
  unfold phiR phi tr2
  dsimp only
  rw [Int.mul_comm p.2, Int.mul_comm q.2]
  omega
theorem phi_move {B u v : Int} {r : Rs} {p q : P2} (h : r.Ok B) (hp1 : inB r true p.1) (hp2 : inB r false p.2) (hq : r.on q = true) : phiR (r.move u v) (mv2 u v p) - phiR (r.move u v) (mv2 u v q) = phiR r p - phiR r q := by
  have q1 := on_in (b := true) h hq
  have q2 := on_in (b := false) h hq
  have w1 := work_move (u := u) (v := v) h q1 hp1
  have w2 := work_move (u := u) (v := v) h q2 hp2
  simp at w1 w2
  unfold phiR phi mv2
  dsimp only
  rw [Int.mul_sub] at w1 w2
  rw [Int.add_mul, Int.add_mul, Int.mul_add, Int.mul_add, Int.mul_add, Int.mul_add, Int.mul_comm p.1 v, Int.mul_comm q.1 v]
  omega
def gapR (r : Rs) (p : P2) : Int := phiR r p - phiR r (anchor r)
theorem gap_turn {B : Int} {r : Rs} {p : P2} (h : r.Ok B) (hp1 : inB r true p.1) (hp2 : inB r false p.2) : gapR r.turn (neg2 p) = gapR r p := by
  have e := phi_turn h hp1 hp2 (anchor_on h)
  have e2 := phiR_on (ok_turn h) (p := anchor r.turn) (q := neg2 (anchor r)) (anchor_on (ok_turn h)) (by rw [on_turn h]; exact anchor_on h)
  unfold gapR
  rw [e2]; exact e
theorem gap_tran {B : Int} {r : Rs} {p : P2} (h : r.Ok B) (hp1 : inB r true p.1) (hp2 : inB r false p.2) : gapR r.tran (tr2 p) = gapR r p := by
  have e := phi_tran h hp1 hp2 (anchor_on h)
  have e2 := phiR_on (ok_tran h) (p := anchor r.tran) (q := tr2 (anchor r)) (anchor_on (ok_tran h)) (by rw [on_tran h]; exact anchor_on h)
  unfold gapR
  rw [e2]; exact e
theorem gap_move {B u v : Int} {r : Rs} {p : P2} (h : r.Ok B) (hp1 : inB r true p.1) (hp2 : inB r false p.2) : gapR (r.move u v) (mv2 u v p) = gapR r p := by
  have hm : (r.move u v).Ok (B + (u.natAbs + v.natAbs : Nat)) := ok_move h (by omega) (by omega)
  have e := phi_move (u := u) (v := v) h hp1 hp2 (anchor_on h)
  have e2 := phiR_on hm (p := anchor (r.move u v)) (q := mv2 u v (anchor r)) (anchor_on hm) (by rw [on_move h]; exact anchor_on h)
  unfold gapR
  rw [e2]; exact e
theorem gap_ge {B : Int} {r : Rs} {p : P2} (h : r.Ok B) (hp1 : inB r true p.1) (hp2 : inB r false p.2) : 0 ≤ gapR r p ∧ (gapR r p = 0 → r.on p = true) := by
  obtain ⟨a, b⟩ := phiR_ge h hp1 hp2 (anchor_on h)
  unfold gapR
  exact ⟨by omega, fun q => b (by omega)⟩
theorem gap_on {B : Int} {r : Rs} {p : P2} (h : r.Ok B) (hp : r.on p = true) : gapR r p = 0 := by
  have := phiR_on h hp (anchor_on h)
  unfold gapR; omega
end M

namespace M
open PySem PySem.Spec PyProof.Rows L2
/-! ### pieces told by axes; all that goes with a number -/
def ax (k : Bool) : Int := if k = true then 0 else 1
@[simp] theorem ax_true : ax true = 0 := (rfl)
@[simp] theorem ax_false : ax false = 1 := (rfl)
@[simp] theorem ax_eq {a b : Bool} : (ax a = ax b) = (a = b) := by cases a <;> cases b <;> simp
def Pc.pvA (c : Pc) : PV := .tup [.int (ax c.k), .int c.a, optP c.lo, optP c.hi]
theorem in_on {B s : Int} {r : Rs} {b : Bool} (h : r.Ok B) (hs : inB r b s) : ∃ p : P2, along b p = s ∧ r.on p = true := by
  by_cases h1 : inB r b (s + 1)
  · obtain ⟨p, q, a1, -, -, a4, -⟩ := step_on h hs h1
    exact ⟨p, a1, a4⟩
  by_cases h2 : inB r b (s - 1)
  · obtain ⟨p, q, -, a2, -, -, a5⟩ := step_on h h2 (by rw [Int.sub_add_cancel]; exact hs)
    exact ⟨q, by omega, a5⟩
  refine ⟨anchor r, ?_, anchor_on h⟩
  have ha := on_in (b := b) h (anchor_on h)
  rcases Int.lt_trichotomy (along b (anchor r)) s with q | q | q
  · exact absurd (inB_conv ha hs (t := s - 1) (by omega) (by omega)) h2
  · exact q
  · exact absurd (inB_conv hs ha (t := s + 1) (by omega) (by omega)) h1
theorem pcsL_wide : ∀ {l : List P2} {k : Bool} {low : Option P2}, Ch k low l → ∀ c ∈ pcsL k low l, ∀ u v, c.lo = some u → c.hi = some v → u ≤ v
  | [], k, low, h, c, hc, u, v, e1, e2 => by
    cases low with
    | none => simp [pcsL] at hc
    | some d => simp [pcsL] at hc; subst hc; cases e2
  | d :: l, k, low, h, c, hc, u, v, e1, e2 => by
    rw [pcsL_cons] at hc
    rcases List.mem_cons.1 hc with rfl | hc
    · cases e2
      cases low with
      | none => cases e1
      | some a => cases e1; have := h.go.2; omega
    · exact pcsL_wide h.tail c hc u v e1 e2
theorem pcs_wide {B : Int} {r : Rs} (h : r.Ok B) : ∀ c ∈ r.pcs, ∀ u v, c.lo = some u → c.hi = some v → u ≤ v := by
  cases r with
  | level v => simp [Rs.pcs]
  | plumb v => simp [Rs.pcs]
  | bent k l => exact pcsL_wide (bent_ch h)
theorem pcsL_in {B : Int} : ∀ {l : List P2} {k : Bool} {low : Option P2}, (∀ p ∈ l, Inb B p) → (∀ p, low = some p → Inb B p) → ∀ c ∈ pcsL k low l, -B ≤ c.a ∧ c.a ≤ B
  | [], k, low, h, h2, c, hc => by
    cases low with
    | none => simp [pcsL] at hc
    | some d =>
      have := h2 d rfl
      unfold Inb at this
      simp [pcsL] at hc; subst hc
      cases k <;> simp <;> omega
  | d :: l, k, low, h, h2, c, hc => by
    have hd := h d (by simp)
    rw [pcsL_cons] at hc
    rcases List.mem_cons.1 hc with rfl | hc
    · unfold Inb at hd
      cases k <;> simp <;> omega
    · exact pcsL_in (fun p hp => h p (List.mem_cons_of_mem _ hp)) (fun p e => by cases e; exact hd) c hc
theorem pcs_in {B : Int} {r : Rs} (h : r.Ok B) : ∀ c ∈ r.pcs, -B ≤ c.a ∧ c.a ≤ B := by
  cases r with
  | level v => intro c hc; simp [Rs.pcs] at hc; subst hc; exact h
  | plumb v => intro c hc; simp [Rs.pcs] at hc; subst hc; exact h
  | bent k l => exact pcsL_in h.2.2.1 (fun p e => by cases e)
theorem mid {lo hi : Option Int} (h : ∀ u v, lo = some u → hi = some v → u ≤ v) : ∃ t, leO lo t = true ∧ geO hi t = true := by
  cases lo with
  | none =>
    cases hi with
    | none => exact ⟨0, rfl, rfl⟩
    | some v => exact ⟨v, rfl, by simp⟩
  | some u =>
    refine ⟨u, by simp, ?_⟩
    cases hi with
    | none => rfl
    | some v => simpa using h u v rfl rfl
/-- what a hit tells is on -/
theorem hit_on {B s : Int} {b : Bool} {r : Rs} (h : r.Ok B) {t : Option Int × Option Int} (ht : t ∈ hits b s r.pcs) :
    (∀ u v, t.1 = some u → t.2 = some v → u ≤ v) ∧ ∀ p : P2, along b p = s → leO t.1 (across b p) = true → geO t.2 (across b p) = true → r.on p = true := by
  unfold hits at ht
  obtain ⟨c, hc, e⟩ := List.mem_filterMap.1 ht
  have hw := pcs_wide h c hc
  unfold hit at e
  split at e
  · rename_i q
    split at e
    · rename_i q2
      cases e
      refine ⟨fun u v e1 e2 => by cases e1; cases e2; exact Int.le_refl _, fun p hp h1 h2 => ?_⟩
      unfold Rs.on
      refine List.any_eq_true.2 ⟨c, hc, ?_⟩
      simp at h1 h2
      unfold Pc.on
      rw [q, hp, q2]
      simp; omega
    · cases e
  · rename_i q
    split at e
    · rename_i q2
      cases e
      refine ⟨hw, fun p hp h1 h2 => ?_⟩
      unfold Rs.on
      refine List.any_eq_true.2 ⟨c, hc, ?_⟩
      have q3 : c.k = !b := ne_not q
      unfold Pc.on
      rw [q3, across_not, along_not, hp, q2, h1, h2]
      simp
    · cases e
theorem hits_ne {B s : Int} {b : Bool} {r : Rs} (h : r.Ok B) : hits b s r.pcs ≠ [] ↔ inB r b s := by
  constructor
  · intro hn
    obtain ⟨t, ht⟩ := List.exists_mem_of_ne_nil _ hn
    obtain ⟨w, o⟩ := hit_on h ht
    obtain ⟨y, y1, y2⟩ := mid w
    obtain ⟨p, p1, p2⟩ := mk_pt b s y
    have := on_in (b := b) h (o p p1 (by rw [p2]; exact y1) (by rw [p2]; exact y2))
    rw [p1] at this
    exact this
  · intro hi hn
    obtain ⟨p, p1, p2⟩ := in_on h hi
    have := (rs_hits h).1 hn p p1
    rw [this] at p2; cases p2
/-- the first one has the least of all, the last one the most -/
theorem hits_ends {B s : Int} {b : Bool} {r : Rs} (h : r.Ok B) {t0 t1 : Option Int × Option Int} (h0 : (hits b s r.pcs).head? = some t0) (h1 : (hits b s r.pcs).getLast? = some t1) :
    (∀ v, t0.1 = some v → ∀ t ∈ hits b s r.pcs, ∃ w, t.1 = some w ∧ v ≤ w) ∧ (∀ v, t1.2 = some v → ∀ t ∈ hits b s r.pcs, ∃ w, t.2 = some w ∧ w ≤ v) ∧ ∀ u v, t0.1 = some u → t1.2 = some v → u ≤ v := by
  have A := (rs_hits (b := b) (x := s) h).2 t0 t1 h0 h1
  have key : ∀ t ∈ hits b s r.pcs, ∀ y, leO t.1 y = true → geO t.2 y = true → leO t0.1 y = true ∧ geO t1.2 y = true := fun t ht y y1 y2 => by
    obtain ⟨p, p1, p2⟩ := mk_pt b s y
    have o := (hit_on h ht).2 p p1 (by rw [p2]; exact y1) (by rw [p2]; exact y2)
    have := (A p p1).1 o
    rw [p2] at this
    exact this
  refine ⟨fun v e t ht => ?_, fun v e t ht => ?_, fun u v e1 e2 => ?_⟩
  · obtain ⟨w, -⟩ := hit_on h ht
    obtain ⟨lo, hi⟩ := t
    cases lo with
    | some u =>
      refine ⟨u, rfl, ?_⟩
      have := (key _ ht u (by simp) (by cases hi with | none => rfl | some z => simpa using w u z rfl rfl)).1
      rw [e] at this
      simpa using this
    | none =>
      exfalso
      cases hi with
      | none =>
        have := (key _ ht (v - 1) rfl rfl).1
        rw [e] at this; simp at this; omega
      | some z =>
        have := (key _ ht (min (v - 1) z) rfl (by simp; omega)).1
        rw [e] at this; simp at this; omega
  · obtain ⟨w, -⟩ := hit_on h ht
    obtain ⟨lo, hi⟩ := t
    cases hi with
    | some u =>
      refine ⟨u, rfl, ?_⟩
      have := (key _ ht u (by cases lo with | none => rfl | some z => simpa using w z u rfl rfl) (by simp)).2
      rw [e] at this
      simpa using this
    | none =>
      exfalso
      cases lo with
      | none =>
        have := (key _ ht (v + 1) rfl rfl).2
        rw [e] at this; simp at this; omega
      | some z =>
        have := (key _ ht (max (v + 1) z) (by simp; omega) rfl).2
        rw [e] at this; simp at this; omega
  · have ht : t0 ∈ hits b s r.pcs := List.mem_of_mem_head? h0
    obtain ⟨w, -⟩ := hit_on h ht
    obtain ⟨y, y1, y2⟩ := mid w
    obtain ⟨z1, z2⟩ := key _ ht y y1 y2
    rw [e1] at z1; rw [e2] at z2
    simp at z1 z2; omega
theorem hits_two {B s : Int} {b : Bool} {r : Rs} (hn : hits b s r.pcs ≠ []) : ∃ t0 t1, (hits b s r.pcs).head? = some t0 ∧ (hits b s r.pcs).getLast? = some t1 := by
  refine ⟨_, _, List.head?_eq_some_head hn, List.getLast?_eq_some_getLast hn⟩
/-- the range across a number -/
def accO (b : Bool) (s : Int) (r : Rs) : Option (Option Int × Option Int) := match (hits b s r.pcs).head?, (hits b s r.pcs).getLast? with
  | some h, some z => some (h.1, z.2)
  | _, _ => none
def optS : Option (Option Int × Option Int) → PV
  | none => .non
  | some s => spanP s
@[simp] theorem optS_none : optS none = .non := (rfl)
@[simp] theorem optS_some {s : Option Int × Option Int} : optS (some s) = spanP s := (rfl)
theorem accO_none {B s : Int} {b : Bool} {r : Rs} (h : r.Ok B) : accO b s r = none ↔ ¬ inB r b s := by
  rw [← hits_ne h]
  unfold accO
  cases hits b s r.pcs with
  | nil => simp
  | cons a l => simp [List.getLast?_cons]
theorem accO_on {B s : Int} {b : Bool} {r : Rs} (h : r.Ok B) {t : Option Int × Option Int} (e : accO b s r = some t) :
    (∀ p, along b p = s → (r.on p = true ↔ leO t.1 (across b p) = true ∧ geO t.2 (across b p) = true)) ∧ ∀ u v, t.1 = some u → t.2 = some v → u ≤ v := by
  unfold accO at e
  cases h0 : (hits b s r.pcs).head? with
  | none => rw [h0] at e; cases e
  | some t0 =>
    cases h1 : (hits b s r.pcs).getLast? with
    | none => rw [h0, h1] at e; cases e
    | some t1 =>
      rw [h0, h1] at e; cases e
      exact ⟨(rs_hits h).2 t0 t1 h0 h1, (hits_ends h h0 h1).2.2⟩
/-! ### areas -/
def areaR (r : Rs) (b : Bool) (s : Int) : Int := FS b r.pcs s - FS b r.pcs (along b (anchor r))
open Classical in
noncomputable def areaO (r : Rs) (b : Bool) (s : Int) : Option Int := if inB r b s then some (areaR r b s) else none
theorem areaO_in {r : Rs} {b : Bool} {s : Int} (h : inB r b s) : areaO r b s = some (areaR r b s) := by unfold areaO; rw [if_pos h]
theorem areaO_out {r : Rs} {b : Bool} {s : Int} (h : ¬ inB r b s) : areaO r b s = none := by unfold areaO; rw [if_neg h]
theorem anchor_tran {r : Rs} : anchor r.tran = tr2 (anchor r) := by
  cases r with
  | level v => rfl
  | plumb v => rfl
  | bent k l => cases l <;> rfl
theorem areaO_tran {B : Int} {r : Rs} {s : Int} (h : r.Ok B) : areaO r.tran true s = areaO r false s := by
  by_cases q : inB r false s
  · have q2 : inB r.tran true s := (in_tran h).2 q
    rw [areaO_in q, areaO_in q2]
    unfold areaR
    rw [anchor_tran]
    have := work_tran h (x := (anchor r).2) (o := s) (on_in (b := false) h (anchor_on h)) q
    exact congrArg some this
  · rw [areaO_out q, areaO_out (fun z => q ((in_tran (b := true) h).1 z))]
theorem gapR_eq {r : Rs} {p : P2} : gapR r p = areaR r true p.1 + areaR r false p.2 + (anchor r).1 * (anchor r).2 - p.1 * p.2 := by
  unfold gapR phiR phi areaR
  simp
  omega
/-- sums over pieces -/
def sumP (l : List PV) : Option Int := (toIs l).map fun ns => ns.sum
theorem gSum_eq {l : List PV} : gSum [.lst l] = (sumP l).map .int := by
  unfold sumP
  show (toIs l).map _ = _
  cases toIs l <;> rfl
theorem sumP_FS {k : Bool} {u v : Int} : ∀ {L : List Pc}, sumP (L.filterMap fun c => if c.k = k then some (.int (c.a * (clampO c.lo c.hi u - clampO c.lo c.hi v))) else none) = some (FS k L u - FS k L v)
  | [] => by simp [sumP, WS]
  | c :: L => by
    have ih := sumP_FS (k := k) (u := u) (v := v) (L := L)
    by_cases q : c.k = k
    · rw [List.filterMap_cons_some (by rw [if_pos q])]
      unfold sumP at *
      rw [toIs_cons]
      cases e : toIs (L.filterMap fun c => if c.k = k then some (.int (c.a * (clampO c.lo c.hi u - clampO c.lo c.hi v))) else none) with
      | none => rw [e] at ih; cases ih
      | some ns =>
        rw [e] at ih
        have ih : ns.sum = FS k L u - FS k L v := by simpa using ih
        show some ((c.a * (clampO c.lo c.hi u - clampO c.lo c.hi v) :: ns).sum) = _
        rw [List.sum_cons, ih]
        unfold FS
        rw [WS_cons, WS_cons, if_pos q, if_pos q, Int.mul_sub]
        congr 1
        omega
    · rw [List.filterMap_cons_none (by rw [if_neg q])]
      rw [ih]
      unfold FS
      rw [WS_cons, WS_cons, if_neg q, if_neg q]
      congr 1
      omega
theorem clamp_len {lo hi : Option Int} {u v : Int} (h : ∀ a b, lo = some a → hi = some b → a ≤ b) (huv : v ≤ u) :
    max 0 ((match hi with | none => u | some b => min u b) - (match lo with | none => v | some a => max v a)) = clampO lo hi u - clampO lo hi v := by
  unfold clampO clampH
  cases lo with
  | none =>
    cases hi with
    | none => dsimp only; omega
    | some b => dsimp only; split <;> split <;> omega
  | some a =>
    cases hi with
    | none => dsimp only; split <;> split <;> omega
    | some b =>
      have := h a b rfl rfl
      dsimp only
      split <;> split <;> (try split) <;> (try split) <;> omega
theorem clamp_in {lo hi : Option Int} {u C : Int} (h1 : ∀ a, lo = some a → -C ≤ a ∧ a ≤ C) (h2 : ∀ a, hi = some a → -C ≤ a ∧ a ≤ C) (h : -C ≤ u ∧ u ≤ C) : -C ≤ clampO lo hi u ∧ clampO lo hi u ≤ C := by
  unfold clampO clampH
  cases lo with
  | none =>
    cases hi with
    | none => exact h
    | some b => have := h2 b rfl; dsimp only; split <;> omega
  | some a =>
    have := h1 a rfl
    cases hi with
    | none => dsimp only; split <;> omega
    | some b => have := h2 b rfl; dsimp only; split <;> (try split) <;> omega
theorem pcsL_rim {B : Int} : ∀ {l : List P2} {k : Bool} {low : Option P2}, (∀ p ∈ l, Inb B p) → (∀ p, low = some p → Inb B p) → ∀ c ∈ pcsL k low l, (∀ a, c.lo = some a → -B ≤ a ∧ a ≤ B) ∧ ∀ a, c.hi = some a → -B ≤ a ∧ a ≤ B
  | [], k, low, h, h2, c, hc => by
    cases low with
    | none => simp [pcsL] at hc
    | some d =>
      have := h2 d rfl
      unfold Inb at this
      simp [pcsL] at hc; subst hc
      refine ⟨fun a e => ?_, fun a e => by cases e⟩
      cases e
      cases k <;> simp <;> omega
  | d :: l, k, low, h, h2, c, hc => by
    have hd := h d (by simp)
    rw [pcsL_cons] at hc
    rcases List.mem_cons.1 hc with rfl | hc
    · refine ⟨fun a e => ?_, fun a e => ?_⟩
      · rw [Option.map_eq_some_iff] at e
        obtain ⟨p, e, rfl⟩ := e
        have := h2 p e
        unfold Inb at this
        cases k <;> simp <;> omega
      · cases e
        unfold Inb at hd
        cases k <;> simp <;> omega
    · exact pcsL_rim (fun p hp => h p (List.mem_cons_of_mem _ hp)) (fun p e => by cases e; exact hd) c hc
theorem pcs_rim {B : Int} {r : Rs} (h : r.Ok B) : ∀ c ∈ r.pcs, (∀ a, c.lo = some a → -B ≤ a ∧ a ≤ B) ∧ ∀ a, c.hi = some a → -B ≤ a ∧ a ≤ B := by
  cases r with
  | level v => intro c hc; simp [Rs.pcs] at hc; subst hc; exact ⟨fun a e => (by cases e), fun a e => by cases e⟩
  | plumb v => intro c hc; simp [Rs.pcs] at hc; subst hc; exact ⟨fun a e => (by cases e), fun a e => by cases e⟩
  | bent k l => exact pcsL_rim h.2.2.1 (fun p e => by cases e)
theorem mulB {i j : Int} (h1 : -(2 ^ 250) < i) (h2 : i < 2 ^ 250) (h3 : -(2 ^ 250) < j) (h4 : j < 2 ^ 250) : CMulW i j := by
  have e : ((2 ^ 250 : Nat) : Int) = (2 : Int) ^ 250 := by simp
  exact CMulW_of (a := 250) (b := 250) (by omega) (by omega) (by decide) (by decide) (by decide)
/-! ### comprehensions over told things -/
theorem lcG {α : Type} {own : List Nat} {f : PV → En → Option En} {mt : Mo Bool} {me : Mo PV} {e : En} (G : α → PV) (F : α → Option PV) : ∀ {l : List α} {acc : List PV}, acc.length + l.length ≤ 16777216 →
    (∀ a ∈ l, ∃ e1, f (G a) (wipeE e own) = some e1 ∧ ((F a = none ∧ ∃ e2, mt e1 = .ok false e2 ∧ restE own e e2 = e) ∨ (∃ q, F a = some q ∧ ∃ e2 e3, mt e1 = .ok true e2 ∧ me e2 = .ok q e3 ∧ restE own e e3 = e))) →
    lcLoop own f mt me (l.map G) acc e = .ok (.lst (acc ++ l.filterMap F)) e
  | [], acc, _, _ => by simp [lcLoop]
  | a :: l, acc, hl, h => by
    obtain ⟨e1, h1, h2⟩ := h a List.mem_cons_self
    have ih : ∀ {acc : List PV}, acc.length + l.length ≤ 16777216 → lcLoop own f mt me (l.map G) acc e = .ok (.lst (acc ++ l.filterMap F)) e := fun hl => lcG G F hl fun q hq => h q (List.mem_cons_of_mem _ hq)
    simp only [List.length_cons] at hl
    rw [List.map_cons]
    unfold lcLoop
    simp only [h1]
    rcases h2 with ⟨h2, e2, h3, h4⟩ | ⟨q, h2, e2, e3, h3, h4, h5⟩
    · simp only [h3, h4]
      rw [ih (by omega), List.filterMap_cons_none h2]
    · simp only [h3, h4, h5]
      rw [if_pos (line_gt (by omega)), ih (by simp; omega), List.filterMap_cons_some h2]
      simp
theorem lc_fil {α : Type} {own : List Nat} {f : PV → En → Option En} {mt : Mo Bool} {me : Mo PV} {e : En} (G : α → PV) (F : α → Option PV) {l : List α} (hl : l.length ≤ 16777216)
    (h : ∀ a ∈ l, ∃ e1, f (G a) (wipeE e own) = some e1 ∧ ((F a = none ∧ ∃ e2, mt e1 = .ok false e2 ∧ restE own e e2 = e) ∨ (∃ q, F a = some q ∧ ∃ e2 e3, mt e1 = .ok true e2 ∧ me e2 = .ok q e3 ∧ restE own e e3 = e))) :
    lcLoop own f mt me (l.map G) [] e = .ok (.lst (l.filterMap F)) e := by
  rw [lcG G F (by simpa using hl) h]; rfl
theorem lc_all {α : Type} {own : List Nat} {f : PV → En → Option En} {me : Mo PV} {e : En} (G : α → PV) (F : α → PV) {l : List α} (hl : l.length ≤ 16777216)
    (h : ∀ a ∈ l, ∃ e1 e3, f (G a) (wipeE e own) = some e1 ∧ me e1 = .ok (F a) e3 ∧ restE own e e3 = e) :
    lcLoop own f mYes me (l.map G) [] e = .ok (.lst (l.map F)) e := by
  rw [lc_fil G (fun a => some (F a)) hl fun a ha => by
    obtain ⟨e1, e3, h1, h2, h3⟩ := h a ha
    exact ⟨e1, h1, .inr ⟨_, rfl, e1, e3, rfl, h2, h3⟩⟩]
  congr 2
  exact List.filterMap_eq_map ▸ rfl
/-! ### least and greatest of told ends -/
theorem inD_none {l : List (Option Int)} : inD .non (.lst (l.map optP)) = some (decide (none ∈ l)) := by
  have ht : ∀ l : List (Option Int), toDs (l.map optP) = some (l.map fun o => match o with | none => .none | some i => .int i) := by
    intro l
    induction l with
    | nil => rfl
    | cons o l ih => cases o <;> simp [toDs, toD, ih]
  have hs : ∀ l : List (Option Int), PyData.canLayAll0 (l.map fun o => match o with | none => PyData.none | some i => .int i) = true ∧ PyData.depthAll (l.map fun o => match o with | none => PyData.none | some i => .int i) = 0 := by
    intro l
    induction l with
    | nil => exact ⟨rfl, rfl⟩
    | cons o l ih => cases o <;> simp [PyData.canLayAll0, PyData.canLay0, PyData.depthAll, PyData.depth, ih]
  unfold inD
  have e1 : toD .non = some .none := by simp [toD]
  have e2 : toD (.lst (l.map optP)) = some (.list (l.map fun o => match o with | none => PyData.none | some i => .int i)) := by simp [toD, ht]
  simp only [e1, e2]
  have s1 : SeqAt.shaped PyData.none = true := by decide +kernel
  have s2 : SeqAt.shaped (.list (l.map fun o => match o with | none => PyData.none | some i => .int i)) = true := by
    unfold SeqAt.shaped
    simp [PyData.canLay0, PyData.depth, hs]
  rw [s1, s2]
  simp only [Bool.and_self, if_true, Option.some.injEq]
  clear e1 e2 s1 s2 ht hs
  induction l with
  | nil => rfl
  | cons o l ih =>
    rw [List.map_cons, List.any_cons, ih]
    cases o <;> simp [PyData.eqv]
end M

namespace M
open PySem PySem.Spec PyProof.Rows L2
section
variable {X : Cx} {F : Fm} {ow ow' ow1 ow2 ob : List Nat} {σ σ1 σ2 : L2.St} {H H1 H2 : Hp}
/-- x.extend(e), e a list -/
def mExt (i : Nat) (m : Mo PV) : Mo PV := fun e => match e[i]? with
  | some (some (.lst _)) => (m e).bind fun p e1 => match p with
    | .lst k => match e1[i]? with
      | some (some (.lst l)) => if l.length + k.length ≤ sizeLine then .ok .non (e1.set i (some (.lst (l ++ k)))) else .bad
      | _ => .bad
    | _ => .bad
  | _ => .bad
theorem pm_ext (i : Nat) {x : Str} {a : Expr} {m : Mo PV} {p apos cpos : Pos} (ha : PE X a (rd F ow m)) (hi : i ∈ ow := by decide) (hN : X.N[i]? = some x := by rfl) (hv : Vis X.env.scope x := by first | exact .inl rfl | exact .inr (.inl rfl) | exact .inr (.inr rfl))
    (hd : (x == ("__debug__" : Str)) = false := by decide) (hcd : (x == ("__classdict__" : Str)) = false := by decide)
    (h1 : attributeBase (.Name x p) "extend" X.env (eval (.Name x p) X.env) = eval (.Name x p) X.env := by rfl)
    (h2 : (((backTo cpos (starEach [a] X.env)).all fun x => !x.1) && (backToKw cpos (keywordEach [] X.env)).all (fun x => x.1.isSome) && decide ((([a] : List Expr).length + ([] : List Keyword).length + if ([] : List Keyword).isEmpty = true then 0 else 1) < 30)) = true := by rfl)
    (h3 : (apos.endLine == cpos.line) = true := by rfl) (h4 : starEach [a] X.env = (false, eval a X.env) :: starEach [] X.env := by rfl) (h5 : ((backTo cpos (starEach [] X.env)).any fun x => x.1) = false := by rfl) : PE X (.Call (.Attribute (.Name x p) "extend" apos) [a] [] cpos) (rd F ow (mExt i m)) :=
  (pe_bm PySem.F.plainAttrs_list PySem.F.slot_list_extend PySem.F.type_list_extend mt_extend (pe_var hN hv hd hcd) (pa_cons ha pa_nil h4) h1 h2 h3 h4 h5).imp fun σ H Q ⟨e, R, p⟩ => by
    unfold mExt at p
    split at p
    · rename_i l0 he
      obtain ⟨v, g1, b, ws, g2, g3, g4⟩ := R.own i _ he hi
      subst g2
      refine ⟨_, g1, .inl ⟨rfl, _, .inl (.inl g3)⟩, e, R, (Post.unbind p).mono fun q e1 H1 k1 R1 p1 y ry => ?_⟩
      split at p1
      · rename_i k0
        obtain ⟨a2, vs2, rfl, z2, z3⟩ := ry.isL
        split at p1
        · rename_i l he1
          obtain ⟨v', g5, a', vs, g6, g7, g8⟩ := R1.own i _ he1 hi
          rw [g1] at g5; cases g5
          cases g6
          split at p1
          · rename_i hl
            refine ⟨_, a2, vs, vs2, rfl, rfl, g7, z2, by rw [g8.length, z3.length]; exact hl, ?_⟩
            have ob : Own ow σ b := ⟨i, hi, g1⟩
            have kk : Keep (Own ow σ) H1 (upd H1 b (.lst (vs ++ vs2))) := Keep.own g7 ob
            obtain ⟨k, R2⟩ := R1.upd g7 hi g1 (List.getElem?_eq_some_iff.mp he1).1 (o := .lst (vs ++ vs2)) (p := .lst (l ++ k0)) ⟨b, vs ++ vs2, rfl, upd_same, (g8.append z3).mono kk.gd Less.refl⟩
            exact p1 _ k R2 .non .non
          · exact p1.elim
        · exact p1.elim
      · exact p1.elim
    · exact p.elim
def extO (p q : PV) (i : Nat) (e : En) : Out PV := match p, q with
  | .lst l, .lst k => if l.length + k.length ≤ sizeLine then .ok .non (e.set i (some (.lst (l ++ k)))) else .bad
  | _, _ => .bad
@[simp] theorem extO_lst {l k : List PV} {i : Nat} {e : En} : extO (.lst l) (.lst k) i e = if l.length + k.length ≤ sizeLine then .ok .non (e.set i (some (.lst (l ++ k)))) else .bad := (rfl)
@[simp] theorem mExt_ap {i : Nat} {m : Mo PV} {e : En} : mExt i m e = getE e[i]? fun p0 => isLst p0 ((m e).bind fun p e1 => getE e1[i]? fun q => extO q p i e1) := by
  unfold mExt getE isLst
  cases h : e[i]? with
  | none => rfl
  | some o =>
    cases o with
    | none => rfl
    | some p0 =>
      cases p0 <;> first | rfl | skip
      dsimp only
      congr 1
      funext p e1
      cases p <;> (cases h2 : e1[i]? with
        | none => rfl
        | some o2 => cases o2 with
          | none => rfl
          | some q => cases q <;> rfl)
end
theorem gMax_is {l : List Int} {v : Int} (h : v ∈ l) (hm : ∀ i ∈ l, i ≤ v) : gMax [.lst (l.map .int)] = some (.int v) := by
  cases l with
  | nil => cases h
  | cons n l =>
    have e : gMax [.lst ((n :: l).map .int)] = some (.int (maxI n l)) := by
      show (match toIs ((n :: l).map .int) with | some (n :: ns) => some (PV.int (maxI n ns)) | _ => none) = _
      rw [toIs_map]
    rw [e]
    obtain ⟨h1, h2, h3⟩ := maxI_spec l n
    congr 2
    have a : maxI n l ≤ v := by
      rcases h1 with h1 | h1
      · rw [h1]; exact hm n (by simp)
      · exact hm _ (List.mem_cons_of_mem _ h1)
    have b : v ≤ maxI n l := by
      rcases List.mem_cons.1 h with rfl | h
      · exact h2
      · exact h3 v h
    omega
theorem gMin_is {l : List Int} {v : Int} (h : v ∈ l) (hm : ∀ i ∈ l, v ≤ i) : gMin [.lst (l.map .int)] = some (.int v) := by
  cases l with
  | nil => cases h
  | cons n l =>
    have e : gMin [.lst ((n :: l).map .int)] = some (.int (minI n l)) := by
      show (match toIs ((n :: l).map .int) with | some (n :: ns) => some (PV.int (minI n ns)) | _ => none) = _
      rw [toIs_map]
    rw [e]
    obtain ⟨h1, h2, h3⟩ := minI_spec l n
    congr 2
    have a : v ≤ minI n l := by
      rcases h1 with h1 | h1
      · rw [h1]; exact hm n (by simp)
      · exact hm _ (List.mem_cons_of_mem _ h1)
    have b : minI n l ≤ v := by
      rcases List.mem_cons.1 h with rfl | h
      · exact h2
      · exact h3 v h
    omega
theorem pcs_len {r : Rs} {B : Int} (h : r.Ok B) : r.pcs.length ≤ 401 := by
  have key : ∀ (l : List P2) (k : Bool) (low : Option P2), (pcsL k low l).length ≤ l.length + 1 := by
    intro l
    induction l with
    | nil => intro k low; cases low <;> simp [pcsL]
    | cons c l ih => intro k low; rw [pcsL_cons]; simp; exact ih _ _
  cases r with
  | level v => simp [Rs.pcs]
  | plumb v => simp [Rs.pcs]
  | bent k l =>
    have := key l k none
    have := h.2.1
    show (pcsL k none l).length ≤ 401
    omega
def loM (lo : Option Int) (x : Int) : Int := match lo with
  | none => x
  | some a => max x a
def hiM (hi : Option Int) (x : Int) : Int := match hi with
  | none => x
  | some a => min x a
theorem clampLen {lo hi : Option Int} {u v : Int} (h : ∀ a b, lo = some a → hi = some b → a ≤ b) (huv : v ≤ u) : max 0 (hiM hi u - loM lo v) = clampO lo hi u - clampO lo hi v := by
  have := clamp_len h huv
  cases lo <;> cases hi <;> exact this
@[simp] theorem dcallO_5 {mf : List PV → Out PV} {e : En} {i : Nat} {a b d g : PV} : dcallO 5 mf [.o i, .v a, .v b, .v d, .v g] e = getE e[i]? fun c => putI (out0 mf [c, a, b, d, g]) i e := (rfl)
@[simp] theorem dcallO_6 {mf : List PV → Out PV} {e : En} {i : Nat} {a b d g h : PV} : dcallO 6 mf [.o i, .v a, .v b, .v d, .v g, .v h] e = getE e[i]? fun c => putI (out0 mf [c, a, b, d, g, h]) i e := (rfl)
@[simp] theorem dcall5 {mf : List PV → Out PV} {e : En} {a b c d g : PV} : dcall 5 mf [.v a, .v b, .v c, .v d, .v g] e = lift (outV mf [a, b, c, d, g]) e := (rfl)
end M

namespace M
open PySem PySem.Spec PyProof.Rows L2
/-! ### l[::k] -/
def ixs (n : Nat) (k : Int) : List Nat := sliceRange (sliceBounds none none (some k) n).1 (sliceBounds none none (some k) n).2.1 (sliceBounds none none (some k) n).2.2
def stepL {α : Type} (k : Int) (l : List α) : List α := (ixs l.length k).filterMap (l[·]?)
theorem RVs.pick {S : Se} {H : Hp} {O : Addr → Prop} {vs : List V} {l : List PV} (r : RVs S H O vs l) : ∀ is : List Nat, RVs S H O (is.filterMap (vs[·]?)) (is.filterMap (l[·]?))
  | [] => .nil
  | i :: is => by
    cases h : l[i]? with
    | none =>
      have h2 : vs[i]? = none := by
        rw [List.getElem?_eq_none_iff] at *
        rw [r.length]; exact h
      rw [List.filterMap_cons_none (f := (vs[·]?)) h2, List.filterMap_cons_none (f := (l[·]?)) h]
      exact RVs.pick r is
    | some p =>
      obtain ⟨v, h2, rv⟩ := r.get h
      rw [List.filterMap_cons_some (f := (vs[·]?)) h2, List.filterMap_cons_some (f := (l[·]?)) h]
      exact .cons rv (RVs.pick r is)
theorem RVs.step {S : Se} {H : Hp} {O : Addr → Prop} {vs : List V} {l : List PV} (r : RVs S H O vs l) (k : Int) : RVs S H O (stepL k vs) (stepL k l) := by
  unfold stepL
  rw [r.length]
  exact r.pick _
theorem valsGet2 : ∀ {xs : List V} {its : List Value} {i : Nat}, Vals xs its → (∀ x, xs[i]? = some x → ∃ u, its[i]? = some u ∧ RelV x u) ∧ (xs[i]? = none → its[i]? = none)
  | _, _, i, .nil => by simp
  | _, _, 0, .cons r t => by
    refine ⟨fun x e => ?_, fun e => by simp at e⟩
    simp at e; subst e
    exact ⟨_, rfl, r⟩
  | _, _, i + 1, .cons r t => by
    have := valsGet2 (i := i) t
    simpa using this
theorem vals_pick {xs : List V} {its : List Value} (r : Vals xs its) : ∀ is : List Nat, Vals (is.filterMap (xs[·]?)) (is.filterMap (its[·]?))
  | [] => .nil
  | i :: is => by
    obtain ⟨h1, h2⟩ := valsGet2 (i := i) r
    cases h : xs[i]? with
    | none =>
      rw [List.filterMap_cons_none (f := (xs[·]?)) h, List.filterMap_cons_none (f := (its[·]?)) (h2 h)]
      exact vals_pick r is
    | some x =>
      obtain ⟨u, e, ru⟩ := h1 x h
      rw [List.filterMap_cons_some (f := (xs[·]?)) h, List.filterMap_cons_some (f := (its[·]?)) e]
      exact .cons ru (vals_pick r is)
theorem slice_step {its : List Value} {n : Nat} {k : Int} (h : its.length = n) : slicePick its.toArray none none (some k) = ((ixs n k).filterMap (its[·]?)).toArray := by
  subst h
  unfold slicePick ixs
  rw [List.size_toArray]
  congr 2
  funext x
  simp
section
variable {X : Cx} {F : Fm} {ow ow' ow1 ow2 ob : List Nat}
def tStp (K : PySem.W.Frag) (k : Int) (te : TE) : TE := fun σ H Q => te σ H fun x H1 => ∃ a xs, x = .ref a ∧ SqL K H1 a xs ∧ (stepL k xs).length ≤ sizeLine ∧ ∀ p, H1 p = none → Q (.ref p) (upd H1 p (.lst (stepL k xs)))
theorem pe_stp {e : Expr} {te : TE} {i : Int} {k : Nat} {p1 p3 pos : Pos} (hi : i ≠ 0) (he : PE X e te) : PE X (.Subscript e (.Slice none none (some (.Constant (.int i) k p1)) p3) pos) (tStp X.K i te) := by
  refine ⟨fun pins s σ H Q I h => ?_⟩
  refine Subscript_ (thn (he.run pins s σ H _ I h) fun v s1 ⟨x, H1, I1, r1, q1⟩ => ?_)
  obtain ⟨a, xs, ex, hx, hlen, q⟩ := q1
  subst ex
  cases r1
  have hst : PO X (some (.Constant (.int i) k p1)) (tPart (tC (.int i))) := po_some pe_int
  refine wpAny_Slice (thn (po_none.run pins s1 σ H1 (fun o H2 => o = none ∧ H2 = H1) I1 ⟨rfl, rfl⟩) fun vl s2 ⟨l, H2, I2, pl, el, e2⟩ => ?_)
  subst el e2
  refine thn (po_none.run pins s2 σ H2 (fun o H3 => o = none ∧ H3 = H2) I2 ⟨rfl, rfl⟩) fun vu s3 ⟨u, H3, I3, pu, eu, e3⟩ => ?_
  subst eu e3
  refine thn (hst.run pins s3 σ H3 (fun o H4 => o = some i ∧ H4 = H3) I3 ⟨i, rfl, rfl, rfl⟩) fun vs s4 ⟨o, H4, I4, ps, eo, e4⟩ => ?_
  subst eo e4
  have I5 : Inv X pins σ H4 { s4 with heap := s4.heap.push { cls := .type "slice", data := .fields #[vl, vu, vs] } } := I4.kept (t' := s4.toks) fun b ob q => Heap.get?_push_of_some _ q
  obtain ⟨its, r, ht, hz⟩ := I5.list hx
  have hl2 := r.length
  show wpAny (model X.prog X.w) X.A (subscriptTail e (.Slice none none (some (.Constant (.int i) k p1)) p3) (.ref a) (.ref s4.heap.objs.size)) (EP X pins σ Q) X.xe { s4 with heap := s4.heap.push { cls := .type "slice", data := .fields #[vl, vu, vs] } }
  refine tail_any (ops := [.ref a, .ref s4.heap.objs.size]) ht.isList.typeIs (PySem.slot_list_getitem.lookup) ?_ (by with_unfolding_all rfl)
  refine wpAny_getItem_list_slice ht.isList (Heap.IsSliceOf.new _ vl vu vs) pl pu ps (by simpa using hi) ?_ (by rw [List.size_toArray]; omega)
  rw [slice_step (n := xs.length) (by omega)]
  refine ⟨.ref _, _, I5.laid (t' := s4.toks) (o := .lst (stepL i xs)) (fun b ob q => Heap.get?_push_of_some _ q) (Nat.le_refl _) ?_, rfl, q _ (I5.hok.fresh (Nat.le_refl _))⟩
  exact ⟨hlen, _, 0, vals_pick r _, Heap.get?_push_size _ rfl⟩
def pStp (k : Int) : PV → Option PV
  | .lst l => if (stepL k l).length ≤ sizeLine then some (.lst (stepL k l)) else none
  | .fz l => if (stepL k l).length ≤ sizeLine then some (.lst (stepL k l)) else none
  | _ => none
def mStp (k : Int) (m : Mo PV) : Mo PV := fun e => (m e).bind fun p e1 => lift (pStp k p) e1
theorem pm_stp {a : Expr} {m : Mo PV} {i : Int} {k : Nat} {p1 p3 pos : Pos} (ha : PE X a (rd F ow m)) (hi : i ≠ 0 := by decide) (hS : F.S = ⟨X.K, X.mg, F.S.T⟩ := by rfl) : PE X (.Subscript a (.Slice none none (some (.Constant (.int i) k p1)) p3) pos) (rd F ow (mStp i m)) :=
  (pe_stp hi ha).imp fun σ H Q ⟨e, R, p⟩ => by
    refine ⟨e, R, (Post.unbind p).mono fun p1 e1 H1 k1 R1 q1 v rv => ?_⟩
    obtain ⟨c, hc, q⟩ := q1.of_lift R1
    have hK : F.S.K = X.K := by rw [hS]
    have kp : ∀ {b : Addr} {o : HO}, H1 b = none → ∀ z u, H1 z = some u → upd H1 b o z = some u := fun hn z u e => by rw [upd_ne (ne_of_none e hn)]; exact e
    unfold pStp at hc
    split at hc
    · split at hc
      · rename_i hl
        cases hc
        obtain ⟨b, vs, rfl, h1, r1⟩ := rv.isL
        have r2 := r1.step i
        exact ⟨b, vs, rfl, .inl (.inl h1), by rw [r2.length]; exact hl, fun z hz => q _ (kp hz) _ (r2.newL hz R1.tracked)⟩
      · cases hc
    · split at hc
      · rename_i hl
        cases hc
        obtain ⟨b, vs, rfl, h1, r1⟩ := rv.isF
        have r2 := r1.step i
        exact ⟨b, vs, rfl, hK ▸ h1, by rw [r2.length]; exact hl, fun z hz => q _ (kp hz) _ (r2.newL hz R1.tracked)⟩
      · cases hc
    · cases hc
end
@[simp] theorem mStp_ap {k : Int} {m : Mo PV} {e : En} : mStp k m e = (m e).bind fun p e1 => lift (pStp k p) e1 := (rfl)
theorem pStp_3 {a b c : PV} : pStp 2 (.lst [a, b, c]) = some (.lst [a, c]) := by
  have : stepL 2 [a, b, c] = [a, c] := by
    unfold stepL
    rw [show ixs [a, b, c].length 2 = [0, 2] from (by decide +kernel : ixs 3 2 = [0, 2])]
    rfl
  simp [pStp, this]
/-! ### own defs as values -/
section
variable {X : Cx} {F : Fm} {ow : List Nat}
theorem pm_gl {CX : CXT} {x : Str} {k n : Nat} {io : List Nat} {mf : List PV → Out PV} {pos : Pos} (D : Dn X.prog X.w X.K X.mg F.S.T X.base CX x k n io mf) (hg : Gl X x) (hd : (x == ("__debug__" : Str)) = false := by decide) (hS : F.S = ⟨X.K, X.mg, F.S.T⟩ := by rfl) : PE X (.Name x pos) (rd F ow (mC (.gl x))) := by
  obtain ⟨f, fd, ps, G, hm, hk, hb⟩ := D.ex
  exact (pe_glob (v := .ref f) hg hm rfl hd).imp fun σ H Q h => rd_C h fun H O => .gl (by rw [hS]; exact hm) rfl
/-- a table of own defs of n arguments, none of which is changed -/
structure DnT (P : Program) (w : World) (K : PySem.W.Frag) (mg : Str → Option Value) (T : List (Addr × Str)) (base : Heap) (CX : CXT) (k n : Nat) (tb : Str → Option (List PV → Out PV)) : Prop where
  at_ : ∀ x mf, tb x = some mf → ∃ j, j ≤ k ∧ Dn P w K mg T base CX x j n [] mf
def tbNil : Str → Option (List PV → Out PV) := fun _ => none
def tbCons (y : Str) (mf : List PV → Out PV) (tb : Str → Option (List PV → Out PV)) : Str → Option (List PV → Out PV) := fun x => if x = y then some mf else tb x
theorem dnt_nil {P : Program} {w : World} {K : PySem.W.Frag} {mg : Str → Option Value} {T : List (Addr × Str)} {base : Heap} {CX : CXT} {k n : Nat} : DnT P w K mg T base CX k n tbNil := ⟨fun x mf h => by cases h⟩
theorem dnt_cons {P : Program} {w : World} {K : PySem.W.Frag} {mg : Str → Option Value} {T : List (Addr × Str)} {base : Heap} {CX : CXT} {k n j : Nat} {y : Str} {mf : List PV → Out PV} {tb : Str → Option (List PV → Out PV)} (D : Dn P w K mg T base CX y j n [] mf) (h : DnT P w K mg T base CX k n tb) (hj : j ≤ k := by decide) : DnT P w K mg T base CX k n (tbCons y mf tb) := ⟨fun x mf' e => by
  unfold tbCons at e
  split at e
  · rename_i q
    cases e; subst q
    exact ⟨j, hj, D⟩
  · exact h.at_ x mf' e⟩
@[simp] theorem tbCons_ap {x y : Str} {mf : List PV → Out PV} {tb : Str → Option (List PV → Out PV)} : tbCons y mf tb x = if x = y then some mf else tb x := (rfl)
@[simp] theorem tbNil_ap {x : Str} : tbNil x = none := (rfl)
/-- f(e, ..), f a local name that holds one of them -/
def mDefV (i n : Nat) (tb : Str → Option (List PV → Out PV)) (ml : Mo (List Ar)) : Mo PV := fun e => match e[i]? with
  | some (some (.gl x)) => match tb x with
    | some mf => mDef n [] mf ml e
    | none => .bad
  | _ => .bad
theorem pe_some {ι : Sort _} {e : Expr} {t : ι → TE} (h : ∀ j, PE X e (t j)) : PE X e (fun σ H Q => ∃ j, t j σ H Q) := ⟨fun pins s σ H Q I ⟨j, q⟩ => (h j).run pins s σ H Q I q⟩
theorem pm_callV {CX : CXT} (i : Nat) {x : Str} {k n : Nat} {tb : Str → Option (List PV → Out PV)} {ml : Mo (List Ar)} {E : XK} {p pos : Pos} {a : Expr} {es : List Expr} (D : DnT X.prog X.w X.K X.mg F.S.T X.base CX k n tb) (hr : Room k X.A) (hx : Passes CX X E) (hW : ∀ cls d σ H, F.W cls d σ H → E cls d H)
    (ha : PA X (a :: es) (rdR F ow ml)) (hi : i ∉ ow := by decide) (hN : X.N[i]? = some x := by rfl) (hv : Vis X.env.scope x := by first | exact .inl rfl | exact .inr (.inl rfl) | exact .inr (.inr rfl)) (hS : F.S = ⟨X.K, X.mg, F.S.T⟩ := by rfl)
    (hd : (x == ("__debug__" : Str)) = false := by decide) (hcd : (x == ("__classdict__" : Str)) = false := by decide) (hs : starEach (a :: es) X.env = (false, eval a X.env) :: starEach es X.env := by rfl)
    (hs2 : ((backTo pos (starEach es X.env)).any fun x => x.1) = false := by rfl) : PE X (.Call (.Name x p) (a :: es) [] pos) (rd F ow (mDefV i n tb ml)) := by
  have key : ∀ j : { z : (Addr × Str × (List PV → Out PV)) // X.mg z.2.1 = some (.ref z.1) ∧ tb z.2.1 = some z.2.2 }, PE X (.Call (.Name x p) (a :: es) [] pos) (tCallL i j.1.1 (spM F.S n [] j.1.2.2) [] E (rdR F ow ml)) := fun ⟨⟨f, y, mf⟩, h1, h2⟩ => by
    obtain ⟨m, hm, D⟩ := D.at_ y mf h2
    obtain ⟨f', fd, ps, G, hmg, hk, hb⟩ := D.ex
    have h1' : X.mg y = some (.ref f) := h1
    rw [h1'] at hmg
    cases hmg
    rw [hS]
    exact pe_callL G (hr.mono hm) hN hv hk hb .nil hx ha hd hcd hs hs2
  refine (pe_some key).imp fun σ H Q h => ?_
  obtain ⟨e, R, q⟩ := h
  unfold mDefV at q
  split at q
  · rename_i y he
    split at q
    · rename_i mf ht
      obtain ⟨v, h1, h2⟩ := R.val i _ he hi
      cases h2 with
      | gl hm rv =>
        obtain ⟨m, hm2, D2⟩ := D.at_ y mf ht
        obtain ⟨f', fd, ps, G, hmg, hk, hb⟩ := D2.ex
        rw [hS] at hm
        have hm' := hmg.symm.trans hm
        cases hm'
        have hv2 : v = .ref f' := by
          cases v <;> first | (cases rv; done) | skip
          all_goals first
            | (obtain ⟨_, h⟩ := rv; cases h; done)
            | (cases rv; rfl)
        subst hv2
        refine ⟨⟨⟨f', y, mf⟩, hmg, ht⟩, h1, ?_⟩
        exact def_go hW ⟨e, R, q⟩
    · exact q.elim
  · exact q.elim
def getF (p : PV) (tb : Str → Option (List PV → Out PV)) (f : (List PV → Out PV) → Out PV) : Out PV := match p with
  | .gl x => match tb x with
    | some mf => f mf
    | none => .bad
  | _ => .bad
theorem getF_gl {x : Str} {tb : Str → Option (List PV → Out PV)} {f : (List PV → Out PV) → Out PV} {mf : List PV → Out PV} (h : tb x = some mf) : getF (.gl x) tb f = f mf := by
  unfold getF; simp only [h]
@[simp] theorem mDefV_ap {i n : Nat} {tb : Str → Option (List PV → Out PV)} {ml : Mo (List Ar)} {e : En} : mDefV i n tb ml e = getE e[i]? fun p => getF p tb fun mf => mDef n [] mf ml e := by
  unfold mDefV getE getF
  cases e[i]? with
  | none => rfl
  | some o =>
    cases o with
    | none => rfl
    | some p => cases p <;> rfl
end
/-! ### a, b, .. = a tuple or a list -/
def gSeq (K : PySem.W.Frag) (n : Nat) (t : TGs) : TG := fun v σ H Q => gTup K n t v σ H Q ∨ gUnl K n t v σ H Q
theorem pg_seq {X : Cx} {pos : Pos} {es : List Expr} {k : Nat} {t : TGs} {n : Nat} (hc : X.calm = true) (h : PGs X es t)
    (hn : (assignEach es X.env).length = n := by rfl) (hst : (assignEach es X.env).findIdx? (·.1) = none := by rfl) : PG X (.Tuple es k pos) (gSeq X.K n t) :=
  ⟨fun pins s σ H v u Q I r hw => hw.elim ((pg_tup hc h hn hst).run pins s σ H v u Q I r) ((pg_unl hc h hn hst).run pins s σ H v u Q I r)⟩
def seqOf : PV → Option (List PV)
  | .tup l => some l
  | .lst l => some l
  | .fz l => some l
  | _ => none
theorem RV.isSeq {S : Se} {H : Hp} {O : Addr → Prop} {v : V} {p : PV} {l : List PV} (r : RV S H O v p) (h : seqOf p = some l) : ∃ a vs, v = .ref a ∧ (SqT S.K H a vs ∨ SqL S.K H a vs) ∧ RVs S H O vs l := by
  cases p with
  | tup l' =>
    cases h
    obtain ⟨a, vs, e, h1, h2⟩ := r.isT
    exact ⟨a, vs, e, .inl h1, h2⟩
  | lst l' =>
    cases h
    obtain ⟨a, vs, e, h1, h2⟩ := r.isL
    exact ⟨a, vs, e, .inr (.inl (.inl h1)), h2⟩
  | fz l' =>
    cases h
    obtain ⟨a, vs, e, h1, h2⟩ := r.isF
    exact ⟨a, vs, e, .inr h1, h2⟩
  | _ => cases h
section
variable {X : Cx} {F : Fm} {ow ow' ow1 ow2 ob : List Nat}
def tS (is : List Nat) : PV → En → Option En := fun p e => (seqOf p).bind fun l => setAll is l e
theorem tg_seq (is : List Nat) {K : PySem.W.Frag} (hi : ∀ i ∈ is, i ∉ ow := by decide) (hio : ∀ i ∈ is, i ∉ F.io := by first | decide | exact of_decide_eq_true rfl) (hK : F.S.K = K := by rfl) : TgOk F ow is (gSeq K is.length (gNms is)) (tS is) := fun {σ H e e' v p} R rv h Q q => by
  unfold tS at h
  cases hs : seqOf p with
  | none => rw [hs] at h; cases h
  | some l =>
    rw [hs] at h
    have h' : setAll is l e = some e' := h
    obtain ⟨a, vs, rfl, h3, t⟩ := rv.isSeq hs
    rcases h3 with h3 | h3
    · exact .inl ⟨a, vs, rfl, hK ▸ h3, by rw [t.length, setAll_len h'], setAll_goO h' hi hio t R _ q⟩
    · exact .inr ⟨a, vs, rfl, hK ▸ h3, by rw [t.length, setAll_len h'], setAll_goO h' hi hio t R _ q⟩
def mUnpS (is : List Nat) (m : Mo PV) : Ms := fun e => SOut.of (m e) fun p e1 => match tS is p e1 with
  | some e2 => .nxt e2
  | none => .bad
theorem pmt_unpS (is : List Nat) {es : List Expr} {a : Expr} {m : Mo PV} {k : Nat} {pos pos' : Pos} (ha : PE X a (rd F ow m)) (hg : PGs X es (gNms is)) (hi : ∀ i ∈ is, i ∉ ow := by decide) (hio : ∀ i ∈ is, i ∉ F.io := by first | decide | exact of_decide_eq_true rfl) (hS : F.S = ⟨X.K, X.mg, F.S.T⟩ := by rfl) (hc : X.calm = true := by rfl)
    (hn : (assignEach es X.env).length = is.length := by rfl) (hst : (assignEach es X.env).findIdx? (·.1) = none := by rfl)
    (hs : swapsWithSole [.Tuple es k pos'] a pos.line X.env = pure false := by rfl) (hw : swappedStores [.Tuple es k pos'] a X.env = pure none := by rfl)
    (h1 : (assignEach [.Tuple es k pos'] X.env).map (·.2) = [assign (.Tuple es k pos') X.env] := by rfl) : PS X (.Assign [.Tuple es k pos'] a pos) (rdS F ow ow ob (mUnpS is m)) :=
  (ps_asg ha (pg_seq (n := is.length) hc hg hn hst) hs hw h1).imp fun D σ H ⟨e, R, p⟩ => ⟨e, R, (Post.stmt p).mono fun a e1 H1 k1 R1 p1 v rv => by
    have hK : F.S.K = X.K := by rw [hS]
    unfold tS at p1
    cases hs : seqOf a with
    | none => rw [hs] at p1; exact p1.elim
    | some l =>
      rw [hs] at p1
      simp only [Option.bind_some] at p1
      cases q : setAll is l e1 with
      | none => simp only [q] at p1; exact p1.elim
      | some e2 =>
        simp only [q] at p1
        obtain ⟨a, vs, rfl, h3, t⟩ := rv.isSeq hs
        rcases h3 with h3 | h3
        · exact .inl ⟨a, vs, rfl, hK ▸ h3, by rw [t.length, setAll_len q], setAll_go q hi hio t R1 _ fun σ' k s R' => p1 σ' H1 k s R'⟩
        · exact .inr ⟨a, vs, rfl, hK ▸ h3, by rw [t.length, setAll_len q], setAll_go q hi hio t R1 _ fun σ' k s R' => p1 σ' H1 k s R'⟩⟩
@[simp] theorem tS_tup {is : List Nat} {l : List PV} {e : En} : tS is (.tup l) e = setAll is l e := (rfl)
@[simp] theorem tS_lst {is : List Nat} {l : List PV} {e : En} : tS is (.lst l) e = setAll is l e := (rfl)
@[simp] theorem mUnpS_ap {is : List Nat} {m : Mo PV} {e : En} : mUnpS is m e = SOut.of (m e) fun p e1 => nxtO (tS is p e1) := by
  unfold mUnpS nxtO; rfl
end
end M

namespace M
open PySem PySem.Spec PyProof.Rows L2
/-! ### ranges by pieces -/
theorem piece_on {r : Rs} {c : Pc} {p : P2} (hc : c ∈ r.pcs) (h1 : across c.k p = c.a) (h2 : leO c.lo (along c.k p) = true) (h3 : geO c.hi (along c.k p) = true) : r.on p = true := by
  unfold Rs.on
  refine List.any_eq_true.2 ⟨c, hc, ?_⟩
  unfold Pc.on
  rw [h1, h2, h3]; simp
def endOf (b : Bool) (c : Pc) : Option Int × Option Int := if c.k = b then (c.lo, c.hi) else (some c.a, some c.a)
theorem end_on {B : Int} {r : Rs} {b : Bool} {c : Pc} (h : r.Ok B) (hc : c ∈ r.pcs) : (∀ u v, (endOf b c).1 = some u → (endOf b c).2 = some v → u ≤ v) ∧ ∀ y, leO (endOf b c).1 y = true → geO (endOf b c).2 y = true → inB r b y := by
  have w := pcs_wide h c hc
  unfold endOf
  by_cases q : c.k = b
  · rw [if_pos q]
    refine ⟨w, fun y h1 h2 => ?_⟩
    obtain ⟨p, p1, p2⟩ := mk_pt b y c.a
    have := on_in (b := b) h (piece_on (p := p) hc (by rw [q]; exact p2) (by rw [q, p1]; exact h1) (by rw [q, p1]; exact h2))
    rw [p1] at this; exact this
  · rw [if_neg q]
    refine ⟨fun u v e1 e2 => by cases e1; cases e2; exact Int.le_refl _, fun y h1 h2 => ?_⟩
    obtain ⟨t, t1, t2⟩ := mid w
    obtain ⟨p, p1, p2⟩ := mk_pt c.k t c.a
    have := on_in (b := b) h (piece_on (p := p) hc p2 (by rw [p1]; exact t1) (by rw [p1]; exact t2))
    have e : along b p = y := by
      have q2 : b = !c.k := ne_not (fun z => q z.symm)
      rw [q2, along_not, p2]
      simp at h1 h2; omega
    rw [e] at this; exact this
theorem pcs_head {B : Int} {r : Rs} (h : r.Ok B) : ∃ c L, r.pcs = c :: L ∧ c.lo = none := by
  cases r with
  | level v => exact ⟨_, _, rfl, rfl⟩
  | plumb v => exact ⟨_, _, rfl, rfl⟩
  | bent k l =>
    cases l with
    | nil => exact absurd rfl h.1
    | cons d l => exact ⟨_, _, pcsL_cons, rfl⟩
theorem pcs_last {B : Int} {r : Rs} (h : r.Ok B) : ∃ L c, r.pcs = L ++ [c] ∧ c.hi = none := by
  cases r with
  | level v => exact ⟨[], _, rfl, rfl⟩
  | plumb v => exact ⟨[], _, rfl, rfl⟩
  | bent k l =>
    have hz := pcsL_end (k := k) (low := none) (List.getLast?_eq_some_getLast h.1)
    obtain ⟨L, e⟩ := List.getLast?_eq_some_iff.1 hz
    exact ⟨L, _, e, rfl⟩
theorem ends_spec {B : Int} {r : Rs} {b : Bool} (h : r.Ok B) :
    (∃ t ∈ r.pcs.map (endOf b), t.1 = (spanR b r.pcs).1) ∧ (∀ v, (spanR b r.pcs).1 = some v → ∀ t ∈ r.pcs.map (endOf b), ∃ w, t.1 = some w ∧ v ≤ w) ∧
    (∃ t ∈ r.pcs.map (endOf b), t.2 = (spanR b r.pcs).2) ∧ (∀ v, (spanR b r.pcs).2 = some v → ∀ t ∈ r.pcs.map (endOf b), ∃ w, t.2 = some w ∧ w ≤ v) := by
  refine ⟨?_, fun v e t ht => ?_, ?_, fun v e t ht => ?_⟩
  · obtain ⟨c, L, e, hlo⟩ := pcs_head h
    refine ⟨endOf b c, List.mem_map.2 ⟨c, by rw [e]; simp, rfl⟩, ?_⟩
    unfold spanR endOf
    rw [e]
    by_cases q : c.k = b <;> simp [q, hlo]
  · obtain ⟨c, hc, rfl⟩ := List.mem_map.1 ht
    obtain ⟨w, o⟩ := end_on (b := b) h hc
    generalize endOf b c = t at *
    obtain ⟨lo, hi⟩ := t
    cases lo with
    | some u =>
      refine ⟨u, rfl, ?_⟩
      exact (o u (by simp) (by cases hi with | none => rfl | some z => simpa using w u z rfl rfl)).1 v e
    | none =>
      exfalso
      cases hi with
      | none => have := (o (v - 1) rfl rfl).1 v e; omega
      | some z => have := (o (min (v - 1) z) rfl (by simp; omega)).1 v e; omega
  · obtain ⟨L, c, e, hhi⟩ := pcs_last h
    refine ⟨endOf b c, List.mem_map.2 ⟨c, by rw [e]; simp, rfl⟩, ?_⟩
    unfold spanR endOf
    rw [e]
    by_cases q : c.k = b <;> simp [q, hhi]
  · obtain ⟨c, hc, rfl⟩ := List.mem_map.1 ht
    obtain ⟨w, o⟩ := end_on (b := b) h hc
    generalize endOf b c = t at *
    obtain ⟨lo, hi⟩ := t
    cases hi with
    | some u =>
      refine ⟨u, rfl, ?_⟩
      exact (o u (by cases lo with | none => rfl | some z => simpa using w z u rfl rfl) (by simp)).2 v e
    | none =>
      exfalso
      cases lo with
      | none => have := (o (v + 1) rfl rfl).2 v e; omega
      | some z => have := (o (max (v + 1) z) (by simp; omega) rfl).2 v e; omega
/-! ### how areas grow -/
theorem grow_ge {B : Int} {r : Rs} {b : Bool} {c : Int} (h : r.Ok B) (hc : ∀ p, r.on p = true → c ≤ across b p) : ∀ (n : Nat) {x : Int}, inB r b x → inB r b (x + n) → c * n ≤ FS b r.pcs (x + n) - FS b r.pcs x
  | 0, x, _, _ => by simp
  | n + 1, x, h1, h2 => by
    have h3 : inB r b (x + n) := inB_conv h1 h2 (by omega) (by omega)
    have ih := grow_ge h hc n h1 h3
    rw [show x + ((n + 1 : Nat) : Int) = x + n + 1 by omega] at h2 ⊢
    obtain ⟨p, q, a1, a2, a3, a4, a5⟩ := step_on h h3 h2
    have e1 := step_val (b := b) h a4 a5 (by omega) a3
    rw [a1] at e1
    have := hc p a4
    rw [show ((n + 1 : Nat) : Int) = (n : Int) + 1 by omega, Int.mul_add, Int.mul_one]
    omega
theorem grow_le {B : Int} {r : Rs} {b : Bool} {c : Int} (h : r.Ok B) (hc : ∀ p, r.on p = true → across b p ≤ c) : ∀ (n : Nat) {x : Int}, inB r b x → inB r b (x + n) → FS b r.pcs (x + n) - FS b r.pcs x ≤ c * n
  | 0, x, _, _ => by simp
  | n + 1, x, h1, h2 => by
    have h3 : inB r b (x + n) := inB_conv h1 h2 (by omega) (by omega)
    have ih := grow_le h hc n h1 h3
    rw [show x + ((n + 1 : Nat) : Int) = x + n + 1 by omega] at h2 ⊢
    obtain ⟨p, q, a1, a2, a3, a4, a5⟩ := step_on h h3 h2
    have e1 := step_val (b := b) h a4 a5 (by omega) a3
    rw [a1] at e1
    have := hc p a4
    rw [show ((n + 1 : Nat) : Int) = (n : Int) + 1 by omega, Int.mul_add, Int.mul_one]
    omega
/-- an end on one side alone bounds the other kind there not -/
theorem span_one {B : Int} {r : Rs} (h : r.Ok B) : ((spanR false r.pcs).1 ≠ none → (spanR true r.pcs).1 = none) ∧ ((spanR false r.pcs).2 ≠ none → (spanR true r.pcs).2 = none) := by
  obtain ⟨c, L, e, -⟩ := pcs_head h
  obtain ⟨L2, d, e2, -⟩ := pcs_last h
  constructor
  · intro hn
    unfold spanR at *
    rw [e] at hn ⊢
    cases q : c.k <;> simp [q] at hn ⊢
  · intro hn
    unfold spanR at *
    rw [e2] at hn ⊢
    cases q : d.k <;> simp [q] at hn ⊢
def wayOf (r : Rs) : Int := match (spanR false r.pcs).1 with
  | some l => if 0 < l then -1 else 1
  | none => 1
theorem falls {B : Int} {r : Rs} (h : r.Ok B) (h0 : ¬ inB r false 0) {i j : Int} (hi : 0 ≤ i) (hij : i ≤ j) : inB r true ((anchor r).1 + wayOf r * j) ∧ areaR r true ((anchor r).1 + wayOf r * j) ≤ areaR r true ((anchor r).1 + wayOf r * i) - (j - i) := by
  have ha := on_in (b := true) h (anchor_on h)
  have ha : inB r true (anchor r).1 := ha
  obtain ⟨s1, s2⟩ := span_one h
  have cases_ : (∃ l, (spanR false r.pcs).1 = some l ∧ 0 < l) ∨ (wayOf r = 1 ∧ ∃ l, (spanR false r.pcs).2 = some l ∧ l < 0) := by
    unfold wayOf
    cases e : (spanR false r.pcs).1 with
    | some l =>
      by_cases q : 0 < l
      · exact .inl ⟨l, rfl, q⟩
      · refine .inr ⟨by simp [q], ?_⟩
        cases e2 : (spanR false r.pcs).2 with
        | none => exact absurd ⟨fun z ez => (by rw [e] at ez; cases ez; omega), fun z ez => by rw [e2] at ez; cases ez⟩ h0
        | some m =>
          refine ⟨m, rfl, ?_⟩
          by_cases q2 : m < 0
          · exact q2
          · exact absurd ⟨fun z ez => (by rw [e] at ez; cases ez; omega), fun z ez => by rw [e2] at ez; cases ez; omega⟩ h0
    | none =>
      refine .inr ⟨rfl, ?_⟩
      cases e2 : (spanR false r.pcs).2 with
      | none => exact absurd ⟨fun z ez => (by rw [e] at ez; cases ez), fun z ez => by rw [e2] at ez; cases ez⟩ h0
      | some m =>
        refine ⟨m, rfl, ?_⟩
        by_cases q2 : m < 0
        · exact q2
        · exact absurd ⟨fun z ez => (by rw [e] at ez; cases ez), fun z ez => by rw [e2] at ez; cases ez; omega⟩ h0
  obtain ⟨n, hn⟩ : ∃ n : Nat, j = i + n := ⟨(j - i).toNat, by omega⟩
  rcases cases_ with ⟨l, e, hl⟩ | ⟨e1, l, e, hl⟩
  · have e1 : wayOf r = -1 := by unfold wayOf; rw [e]; simp [hl]
    have t1 := s1 (by rw [e]; simp)
    have inn : ∀ s, s ≤ (anchor r).1 → inB r true s := fun s hs => ⟨fun z ez => (by rw [t1] at ez; cases ez), fun z ez => by have := ha.2 z ez; omega⟩
    rw [e1]
    have g := grow_ge (c := 1) (b := true) h (fun p hp => by
      have := (on_in (b := false) h hp).1 l e
      have : l ≤ p.2 := this
      show (1 : Int) ≤ p.2
      omega) n (inn ((anchor r).1 + -1 * j) (by omega)) (inn ((anchor r).1 + -1 * j + n) (by omega))
    refine ⟨inn _ (by omega), ?_⟩
    unfold areaR
    rw [show (anchor r).1 + -1 * j + (n : Int) = (anchor r).1 + -1 * i by omega] at g
    omega
  · have t1 := s2 (by rw [e]; simp)
    have inn : ∀ s, (anchor r).1 ≤ s → inB r true s := fun s hs => ⟨fun z ez => (by have := ha.1 z ez; omega), fun z ez => by rw [t1] at ez; cases ez⟩
    rw [e1]
    have g := grow_le (c := -1) (b := true) h (fun p hp => by
      have := (on_in (b := false) h hp).2 l e
      have : p.2 ≤ l := this
      show p.2 ≤ (-1 : Int)
      omega) n (inn ((anchor r).1 + 1 * i) (by omega)) (inn ((anchor r).1 + 1 * i + n) (by omega))
    refine ⟨inn _ (by omega), ?_⟩
    unfold areaR
    rw [show (anchor r).1 + 1 * i + (n : Int) = (anchor r).1 + 1 * j by omega] at g
    omega
/-! ### the lowest area -/
theorem clamp_at {lo hi : Option Int} {x : Int} (h : ∀ u v, lo = some u → hi = some v → u ≤ v) : leO lo (clampO lo hi x) = true ∧ geO hi (clampO lo hi x) = true := by
  unfold clampO clampH
  cases lo with
  | none =>
    cases hi with
    | none => exact ⟨rfl, rfl⟩
    | some v => refine ⟨rfl, ?_⟩; dsimp only; split <;> simp <;> omega
  | some u =>
    cases hi with
    | none => refine ⟨?_, rfl⟩; dsimp only; split <;> simp <;> omega
    | some v =>
      have := h u v rfl rfl
      dsimp only
      split
      · simp; omega
      · split <;> simp <;> omega
theorem low_at {B : Int} {r : Rs} {t : Option Int × Option Int} (h : r.Ok B) (e : accO false 0 r = some t) :
    inB r true (clampO t.1 t.2 0) ∧ inB r false 0 ∧ (∀ x, leO t.1 x = true → geO t.2 x = true → inB r true x) ∧ ∀ x, inB r true x → areaR r true (clampO t.1 t.2 0) ≤ areaR r true x ∧ ((areaR r true x = areaR r true (clampO t.1 t.2 0)) ↔ (leO t.1 x = true ∧ geO t.2 x = true)) := by
  obtain ⟨A, W⟩ := accO_on h e
  have on : ∀ x, (r.on (x, 0) = true ↔ leO t.1 x = true ∧ geO t.2 x = true) := fun x => A (x, 0) rfl
  have c := (on _).2 (clamp_at (x := 0) W)
  have i1 : inB r true (clampO t.1 t.2 0) := on_in (b := true) h c
  have i2 : inB r false 0 := on_in (b := false) h c
  refine ⟨i1, i2, fun x a1 a2 => on_in (b := true) h ((on x).2 ⟨a1, a2⟩), fun x hx => ?_⟩
  have g0 := gap_on h c
  obtain ⟨g1, g2⟩ := gap_ge (p := (x, 0)) h hx i2
  rw [gapR_eq] at g0 g1 g2
  dsimp only at g0 g1 g2
  refine ⟨by omega, ⟨fun q => (on x).1 (g2 (by omega)), fun q => ?_⟩⟩
  have g3 := gap_on h ((on x).2 q)
  rw [gapR_eq] at g3
  dsimp only at g3
  omega
theorem inD_noneT {l : List (Option Int)} : inD .non (.tup (l.map optP)) = some (decide (none ∈ l)) := by
  have := inD_none (l := l)
  unfold inD at *
  have e1 : toD .non = some .none := by simp [toD]
  have ht : ∃ ds, toDs (l.map optP) = some ds := by
    cases z : toDs (l.map optP) with
    | some ds => exact ⟨ds, rfl⟩
    | none =>
      have e2 : toD (.lst (l.map optP)) = none := by simp [toD, z]
      rw [e1, e2] at this; cases this
  obtain ⟨ds, z⟩ := ht
  have e2 : toD (.lst (l.map optP)) = some (.list ds) := by simp [toD, z]
  have e3 : toD (.tup (l.map optP)) = some (.tuple ds) := by simp [toD, z]
  rw [e1, e2] at this
  rw [e1, e3]
  simp only at this ⊢
  have s : SeqAt.shaped (.tuple ds) = SeqAt.shaped (.list ds) := by
    unfold SeqAt.shaped
    simp [PyData.canLay0, PyData.depth]
  rw [s]; exact this
@[simp] theorem eqD_bl {a b : Bool} : eqD (.bl a) (.bl b) = some (decide (a = b)) := by cases a <;> cases b <;> decide +kernel
@[simp] theorem eqD_blN {a : Bool} : eqD (.bl a) .non = some false := by cases a <;> decide +kernel
@[simp] theorem eqD_Nbl {a : Bool} : eqD .non (.bl a) = some false := by cases a <;> decide +kernel
end M

namespace M
open PySem PySem.Spec PyProof.Rows L2
/-- no two points on a rise cross -/
theorem no_cross {B : Int} {r : Rs} {p q : P2} (h : r.Ok B) (hp : r.on p = true) (hq : r.on q = true) : 0 ≤ (p.1 - q.1) * (p.2 - q.2) := by
  have ip := on_in (b := true) h hp
  have jp := on_in (b := false) h hp
  have iq := on_in (b := true) h hq
  have jq := on_in (b := false) h hq
  have g1 := (gap_ge (p := (p.1, q.2)) h ip jq).1
  have g2 := (gap_ge (p := (q.1, p.2)) h iq jp).1
  have g3 := gap_on h hp
  have g4 := gap_on h hq
  rw [gapR_eq] at g1 g2 g3 g4
  dsimp only at g1 g2
  rw [Int.sub_mul, Int.mul_sub, Int.mul_sub]
  omega
theorem no_crossB {B : Int} {r : Rs} {p q : P2} {b : Bool} (h : r.Ok B) (hp : r.on p = true) (hq : r.on q = true) (h1 : along b p < along b q) : across b p ≤ across b q := by
  have := no_cross h hp hq
  cases b
  · have h1 : p.2 < q.2 := h1
    show p.1 ≤ q.1
    have : ¬ q.1 < p.1 := fun z => by
      have := Int.mul_pos (a := p.1 - q.1) (b := q.2 - p.2) (by omega) (by omega)
      rw [show q.2 - p.2 = -(p.2 - q.2) by omega, Int.mul_neg] at this
      omega
    omega
  · have h1 : p.1 < q.1 := h1
    show p.2 ≤ q.2
    have : ¬ q.2 < p.2 := fun z => by
      have := Int.mul_pos (a := q.1 - p.1) (b := p.2 - q.2) (by omega) (by omega)
      rw [show q.1 - p.1 = -(p.1 - q.1) by omega, Int.neg_mul] at this
      omega
    omega
theorem slope_lo {B s : Int} {r : Rs} {b : Bool} {t : Option Int × Option Int} (h : r.Ok B) (e : accO b s r = some t) : (inB r b (s - 1) → t.1 = some (FS b r.pcs s - FS b r.pcs (s - 1))) ∧ (¬ inB r b (s - 1) → t.1 = none) := by
  have hs : inB r b s := by
    by_cases q : inB r b s
    · exact q
    · rw [(accO_none h).2 q] at e; cases e
  obtain ⟨A, W⟩ := accO_on h e
  constructor
  · intro h1
    obtain ⟨p, q, a1, a2, a3, a4, a5⟩ := step_on h h1 (by rw [Int.sub_add_cancel]; exact hs)
    have v := step_val (b := b) h a4 a5 (by omega) a3
    rw [a1, Int.sub_add_cancel] at v
    rw [v]
    have aq : along b q = s := by omega
    obtain ⟨l1, l2⟩ := (A q aq).1 a5
    rw [← a3] at l1 l2
    obtain ⟨u, w⟩ := t
    have key : ∀ y, leO u y = true → geO w y = true → across b p ≤ y := fun y y1 y2 => by
      obtain ⟨z, z1, z2⟩ := mk_pt b s y
      have := no_crossB (b := b) h a4 ((A z z1).2 ⟨by rw [z2]; exact y1, by rw [z2]; exact y2⟩) (by omega)
      rw [z2] at this; exact this
    cases u with
    | none =>
      exfalso
      have := key (across b p - 1) rfl (by
        cases w with
        | none => rfl
        | some w => simp at l2 ⊢; omega)
      omega
    | some u =>
      have := key u (by simp) (by
        cases w with
        | none => rfl
        | some w => simpa using W u w rfl rfl)
      simp at l1
      show some u = _
      congr 1; omega
  · intro h1
    obtain ⟨c, L, ec, hlo⟩ := pcs_head h
    have hk : c.k ≠ b ∧ c.a = s := by
      have e1 : (spanR b r.pcs).1 = if c.k = b then none else some c.a := by unfold spanR; rw [ec]; rfl
      by_cases q : c.k = b
      · exact absurd ⟨fun i ei => (by rw [e1, if_pos q] at ei; cases ei), fun i ei => by have := hs.2 i ei; omega⟩ h1
      · rw [if_neg q] at e1
        refine ⟨q, ?_⟩
        have := hs.1 c.a e1
        by_cases z : c.a = s
        · exact z
        · exact absurd ⟨fun i ei => (by rw [e1] at ei; cases ei; omega), fun i ei => by have := hs.2 i ei; omega⟩ h1
    have mem : (c.lo, c.hi) ∈ hits b s r.pcs := by
      unfold hits
      exact List.mem_filterMap.2 ⟨c, by rw [ec]; simp, by unfold hit; rw [if_neg hk.1, if_pos hk.2]⟩
    unfold accO at e
    cases h0 : (hits b s r.pcs).head? with
    | none => rw [h0] at e; cases e
    | some t0 =>
      cases h2 : (hits b s r.pcs).getLast? with
      | none => rw [h0, h2] at e; cases e
      | some t1 =>
        rw [h0, h2] at e; cases e
        show t0.1 = none
        cases z : t0.1 with
        | none => rfl
        | some v =>
          obtain ⟨w, ew, -⟩ := (hits_ends h h0 h2).1 v z _ mem
          rw [hlo] at ew; cases ew
theorem slope_hi {B s : Int} {r : Rs} {b : Bool} {t : Option Int × Option Int} (h : r.Ok B) (e : accO b s r = some t) : (inB r b (s + 1) → t.2 = some (FS b r.pcs (s + 1) - FS b r.pcs s)) ∧ (¬ inB r b (s + 1) → t.2 = none) := by
  have hs : inB r b s := by
    by_cases q : inB r b s
    · exact q
    · rw [(accO_none h).2 q] at e; cases e
  obtain ⟨A, W⟩ := accO_on h e
  constructor
  · intro h1
    obtain ⟨p, q, a1, a2, a3, a4, a5⟩ := step_on h hs h1
    have v := step_val (b := b) h a4 a5 (by omega) a3
    rw [a1] at v
    rw [v]
    obtain ⟨l1, l2⟩ := (A p a1).1 a4
    obtain ⟨u, w⟩ := t
    have key : ∀ y, leO u y = true → geO w y = true → y ≤ across b p := fun y y1 y2 => by
      obtain ⟨z, z1, z2⟩ := mk_pt b s y
      have := no_crossB (b := b) h ((A z z1).2 ⟨by rw [z2]; exact y1, by rw [z2]; exact y2⟩) a5 (by omega)
      rw [z2, ← a3] at this; exact this
    cases w with
    | none =>
      exfalso
      have := key (across b p + 1) (by
        cases u with
        | none => rfl
        | some w => simp at l1 ⊢; omega) rfl
      omega
    | some w =>
      have := key w (by
        cases u with
        | none => rfl
        | some u => simpa using W u w rfl rfl) (by simp)
      simp at l2
      show some w = _
      congr 1; omega
  · intro h1
    obtain ⟨L, c, ec, hhi⟩ := pcs_last h
    have hk : c.k ≠ b ∧ c.a = s := by
      have e1 : (spanR b r.pcs).2 = if c.k = b then none else some c.a := by unfold spanR; rw [ec]; simp
      by_cases q : c.k = b
      · exact absurd ⟨fun i ei => (by have := hs.1 i ei; omega), fun i ei => by rw [e1, if_pos q] at ei; cases ei⟩ h1
      · rw [if_neg q] at e1
        refine ⟨q, ?_⟩
        have := hs.2 c.a e1
        by_cases z : c.a = s
        · exact z
        · exact absurd ⟨fun i ei => (by have := hs.1 i ei; omega), fun i ei => by rw [e1] at ei; cases ei; omega⟩ h1
    have mem : (c.lo, c.hi) ∈ hits b s r.pcs := by
      unfold hits
      exact List.mem_filterMap.2 ⟨c, by rw [ec]; simp, by unfold hit; rw [if_neg hk.1, if_pos hk.2]⟩
    unfold accO at e
    cases h0 : (hits b s r.pcs).head? with
    | none => rw [h0] at e; cases e
    | some t0 =>
      cases h2 : (hits b s r.pcs).getLast? with
      | none => rw [h0, h2] at e; cases e
      | some t1 =>
        rw [h0, h2] at e; cases e
        show t1.2 = none
        cases z : t1.2 with
        | none => rfl
        | some v =>
          obtain ⟨w, ew, -⟩ := (hits_ends h h0 h2).2.1 v z _ mem
          rw [hhi] at ew; cases ew
end M

namespace M
open PySem PySem.Spec PyProof.Rows L2

/-! ### defs that are only called while no repr is under way -/
structure FnG (P : Program) (w : World) (K : PySem.W.Frag) (mg : Str → Option Value) (base : Heap) (CX : CXT) (k : Nat) (f : Addr) (fd : FuncData) (ps : List Str) (sp : Sp) : Prop where
  len : ∀ vs H Q E, sp vs H Q E → vs.length = ps.length
  go : ∀ (A : Around) (outer : List Env) (s : Shared) (H : Hp) (args : Args) (us : List Value) (vs : List V) (Q : VK) (E : XK), Room k A → A.guards = some [] → Env0 P w K mg base A outer s H → BindsTo s fd args (ps.zip us) →
    Vals vs us → sp vs H Q E → codeAny (model P w) A (.call (.ref f) args) (CR CX outer P w H s Q E) s
theorem FnG.of {P : Program} {w : World} {K : PySem.W.Frag} {mg : Str → Option Value} {base : Heap} {CX : CXT} {k : Nat} {f : Addr} {fd : FuncData} {ps : List Str} {sp : Sp} (F : FnOk P w K mg base CX k f fd ps sp) : FnG P w K mg base CX k f fd ps sp :=
  ⟨F.len, fun A outer s H args us vs Q E hr _ => F.run A outer s H args us vs Q E hr⟩
theorem okG {P : Program} {w : World} {K : PySem.W.Frag} {mg : Str → Option Value} {base : Heap} {CX : CXT} {x qual : Str} {params : Arguments} {body : List Stmt} {scope : Scope} {dvs : List V} {kws : List (Str × V)} {f : Addr} {fd : FuncData} {N ps : List Str} {k : Nat} {sp : Sp}
    (Fd : FunD K x qual params body scope dvs kws f fd) (sc : FnScope N ps scope) (len : ∀ vs H Q E, sp vs H Q E → vs.length = ps.length)
    (hb : ∀ (cdv : Value) (A : Around) (outer : List Env) (s : Shared) (H : Hp) (vs : List V) (Q : VK) (E : XK), Room k (A.deeper (PyProof.Rows.envOfC qual scope s.heap.objs.size f cdv)) → A.guards = some [] → sp vs H Q E →
      ∃ t, PSs (cxOf CX P w K mg base N qual scope f cdv A outer s H E) body t ∧ t { nx := fun _ H' => Q .non H', rt := Q } (L2.start N vs) H) : FnG P w K mg base CX (k + 1) f fd ps sp := by
  obtain ⟨oc, od, dV, kV, doc, pm, an, cdv, ct, osl, rfl, lk, hcd, _, _⟩ := Fd.ex
  exact ⟨len, fun A outer s H args us vs Q E hr hg e0 hbi r hsp => LamX.run_ofS lk hcd sc hr e0 hbi r (len _ _ _ _ hsp) fun hr2 => hb cdv A outer s H vs Q E hr2 hg hsp⟩
section
variable {X : Cx} {F : Fm} {ow : List Nat}
theorem pe_callG {CX : CXT} {k : Nat} {f : Addr} {fd : FuncData} {ps : List Str} {sp : Sp} {E : XK} {x : Str} {p pos : Pos} {e : Expr} {es : List Expr} {t : TA} (G : FnG X.prog X.w X.K X.mg X.base CX k f fd ps sp) (hr : Room k X.A) (hgd : X.A.guards = some []) (hg : Gl X x) (hm : X.mg x = some (.ref f))
    (hk : PySem.W.keepIn X.K (.ref f) = true) (hb : Binds X.K fd ps []) (hx : Passes CX X E) (ha : PA X (e :: es) t) (hdb : (x == ("__debug__" : Str)) = false := by decide) (he : starEach (e :: es) X.env = (false, eval e X.env) :: starEach es X.env := by rfl)
    (hpl : ((backTo pos (starEach es X.env)).any fun x => x.1) = false := by rfl) : PE X (.Call (.Name x p) (e :: es) [] pos) (fun σ H Q => t σ H fun vs H1 => sp vs H1 Q E) := by
  constructor
  intro pins s σ H Q I h
  refine wpAny_Call_Name_kw (ld_glob I hg hm ?_ hdb)
  refine PySem.W.callWith_K (h₀ := X.base) I.ok.mod.kin hk ?_ he hpl
  refine thn (ha.run pos pins s σ H _ I h) ?_
  rintro us s1 ⟨vs, H1, I1, r, q⟩
  refine ⟨I1.kIn, ?_⟩
  have hl : (us ++ []).length = ps.length := by rw [List.append_nil, ← r.length]; exact G.len _ _ _ _ q
  have bi := hb s1 us I1.kIn hl
  rw [List.append_nil] at bi
  have go := G.go X.A X.stack s1 H1 ⟨us, []⟩ us vs Q E hr hgd I1.env0 bi r q
  refine wpAny_call (codeAny_mono go ?_)
  rintro (er | fl) s2 hq
  · exact hx pins σ H1 s1 er s2 I1 hq
  · match fl, hq with
    | .ret u, hq => exact I1.after hq
    | .next, hq => exact hq.elim
    | .brk, hq => exact hq.elim
    | .cont, hq => exact hq.elim
structure DnG (P : Program) (w : World) (K : PySem.W.Frag) (mg : Str → Option Value) (T : List (Addr × Str)) (base : Heap) (CX : CXT) (x : Str) (k n : Nat) (io : List Nat) (mf : List PV → Out PV) : Prop where
  ex : ∃ f fd ps, FnG P w K mg base CX k f fd ps (spM ⟨K, mg, T⟩ n io mf) ∧ mg x = some (.ref f) ∧ PySem.W.keepIn K (.ref f) = true ∧ Binds K fd ps []
theorem pm_defG {CX : CXT} {x : Str} {k n : Nat} {io : List Nat} {mf : List PV → Out PV} {ml : Mo (List Ar)} {E : XK} {p pos : Pos} {a : Expr} {es : List Expr} (D : DnG X.prog X.w X.K X.mg F.S.T X.base CX x k n io mf) (hr : Room k X.A) (hgd : X.A.guards = some []) (hg : Gl X x) (hx : Passes CX X E)
    (hW : ∀ cls d σ H, F.W cls d σ H → E cls d H)
    (ha : PA X (a :: es) (rdR F ow ml)) (hS : F.S = ⟨X.K, X.mg, F.S.T⟩ := by rfl) (hd : (x == ("__debug__" : Str)) = false := by decide) (hs : starEach (a :: es) X.env = (false, eval a X.env) :: starEach es X.env := by rfl)
    (hs2 : ((backTo pos (starEach es X.env)).any fun x => x.1) = false := by rfl) : PE X (.Call (.Name x p) (a :: es) [] pos) (rd F ow (mDef n io mf ml)) := by
  obtain ⟨f, fd, ps, G, hm, hk, hb⟩ := D.ex
  refine (pe_callG G hr hgd hg hm hk hb hx ha hd hs hs2).imp fun σ H Q h => ?_
  obtain ⟨e, R, z⟩ := def_go hW h
  refine ⟨e, R, z.mono fun l e1 H1 k1 R1 z2 vs A => ?_⟩
  have z3 : spM F.S n io mf (vs ++ []) H1 Q E := z2 vs A
  rw [List.append_nil, hS] at z3
  exact z3

/-! ### repr, str of data -/
mutual
theorem toD_nodict : ∀ {p : PV} {d : PyData}, toD p = some d → d.hasDict = false
  | .non, d, h => by simp only [toD] at h; cases h; rfl
  | .bl b, d, h => by simp only [toD] at h; cases h; rfl
  | .int i, d, h => by simp only [toD] at h; cases h; rfl
  | .str x, d, h => by simp only [toD] at h; cases h; rfl
  | .tup l, d, h => by
    simp only [toD] at h
    cases q : toDs l with
    | none => rw [q] at h; cases h
    | some ds => rw [q] at h; cases h; simp only [PyData.hasDict]; exact toDs_nodict q
  | .lst l, d, h => by
    simp only [toD] at h
    cases q : toDs l with
    | none => rw [q] at h; cases h
    | some ds => rw [q] at h; cases h; simp only [PyData.hasDict]; exact toDs_nodict q
  | .ty _, d, h => by simp [toD] at h
  | .gl _, d, h => by simp [toD] at h
  | .fz _, d, h => by simp [toD] at h
  | .dK _, d, h => by simp [toD] at h
  | .fK _, d, h => by simp [toD] at h
  | .ins _ _, d, h => by simp [toD] at h
  | .exn _ _ _ _, d, h => by simp [toD] at h
theorem toDs_nodict : ∀ {l : List PV} {ds : List PyData}, toDs l = some ds → PyData.hasDictAll ds = false
  | [], ds, h => by simp only [toDs] at h; cases h; rfl
  | p :: l, ds, h => by
    simp only [toDs] at h
    cases q1 : toD p with
    | none => rw [q1] at h; cases h
    | some d =>
      rw [q1] at h
      cases q2 : toDs l with
      | none => rw [q2] at h; cases h
      | some es => rw [q2] at h; cases h; simp only [PyData.hasDictAll, toD_nodict q1, toDs_nodict q2]; rfl
end
/-- the text that repr tells -/
def shw (p : PV) : Option Str := match p with
  | .dK [] => some "{}"
  | _ => (toD p).bind fun d => if d.showable = true ∧ d.depth ≤ 60 ∧ d.shown.length ≤ sizeLine then some d.shown else none
def gRepr : List PV → Option PV
  | [p] => (shw p).map .str
  | _ => none
/-- what is read of a value that can be shown -/
theorem shw_reads {pins : List (Addr × Obj)} {σ : L2.St} {H : Hp} {s : Shared} {O : Addr → Prop} {T : List (Addr × Str)} {v : V} {u : Value} {p : PV} {x : Str} (I : Inv X pins σ H s) (rv : RV ⟨X.K, X.mg, T⟩ H O v p) (ru : RelV v u) (h : shw p = some x) :
    ∃ d as, Reads s.heap u d as ∧ d.showable = true ∧ (d.hasDict = true → sysModules ∉ as) ∧ d.depth ≤ 60 ∧ d.shown.length ≤ sizeLine ∧ x = d.shown := by
  unfold shw at h
  split at h
  · cases h
    cases rv with
    | dK no ha hk =>
      cases hk
      cases ru
      obtain ⟨_, hs, vs, kv, o, es, ep, ho, hx, hd, _, hp, _⟩ := dk_of I.hok ha
      cases kv
      have he : es.toList = [] := by
        cases hz : es.toList with
        | nil => rfl
        | cons a l => rw [hz] at hp; cases hp
      refine ⟨.dict [], _, Reads.dict (kvs := []) ho hx.1 hd (by rw [he]; exact .nil) (by rw [he]; exact .nil), by decide, fun _ z => ?_, by decide, by decide +kernel, by decide +kernel⟩
      simp at z
      rw [← z] at hs
      exact absurd rfl (beq_eq_false_iff_ne.mp hs)
  · cases q : toD p with
    | none => rw [q] at h; cases h
    | some d =>
      rw [q] at h
      simp only [Option.bind] at h
      split at h
      · rename_i hc
        cases h
        obtain ⟨as, hr⟩ := Dp.reads I d v u (RV.dp (S := ⟨X.K, X.mg, T⟩) rv q) ru
        exact ⟨d, as, hr, hc.1, fun z => by rw [toD_nodict q] at z; (cases z), hc.2.1, hc.2.2, rfl⟩
      · cases h
theorem WV.rvx {S : Se} {H : Hp} {O : Addr → Prop} {v : V} {p : PV} (h : WV S H O v p) : RV S H (fun _ => False) v p := by
  rcases h with h | h
  · exact h.mono Keep.refl fun _ _ z => z.elim
  · exact h.rv (fun _ _ z => z.elim) fun _ _ z => z
theorem call_repr_data (hgd : X.A.guards = some []) (hu : X.A.units + 64 < cLine) {T : List (Addr × Str)} : CallR X (.builtin "repr") fun xs H Q => ∃ (v : V) (p : PV) (x : Str), xs = [v] ∧ RV ⟨X.K, X.mg, T⟩ H (fun _ => False) v p ∧ shw p = some x ∧ Q (.str x) H := by
  intro pins s σ H xs us Q I r ⟨v, p, x, e, rv, hx, q⟩
  subst e
  cases r with
  | cons ru rn =>
    cases rn
    obtain ⟨d, as, hr, hs, hn, hd, hl, rfl⟩ := shw_reads I rv ru hx
    have fin : ∀ (h' : Heap) (tk u : Nat), (∀ b o, s.heap.get? b = some o → h'.get? b = some o) → EP X pins σ Q (.str d.shown u) { s with heap := h', toks := tk } := fun h' tk u k => ⟨.str _, H, I.kept k, ⟨u, rfl⟩, q⟩
    have fin0 : ∀ (tk u : Nat), EP X pins σ Q (.str d.shown u) { s with toks := tk } := fun tk u => ⟨.str _, H, I.tok _, ⟨u, rfl⟩, q⟩
    cases hr with
    | none => exact P.repr_of_none (fin0 _ _)
    | bool b => exact P.repr_of_bool (fin0 _ _)
    | int i t => exact P.repr_of_int (by simpa [PyData.showable] using hs) (fin0 _ _)
    | str y t => exact P.repr_of_str (fin0 _ _) (by simpa only [PyData.shown] using hl)
    | list h1 h2 h3 h4 => exact repr_of_reads' (.list h1 h2 h3 h4) hs hn hgd (by omega) (fun _ _ e => e) (fun h' u tk k => fin h' tk u k) hl
    | tuple h1 h2 h3 h4 => exact repr_of_reads' (.tuple h1 h2 h3 h4) hs hn hgd (by omega) (fun _ _ e => e) (fun h' u tk k => fin h' tk u k) hl
    | dict h1 h2 h3 h4 h5 => exact repr_of_reads' (.dict h1 h2 h3 h4 h5) hs hn hgd (by omega) (fun _ _ e => e) (fun h' u tk k => fin h' tk u k) hl
theorem co_repr (hgd : X.A.guards = some []) (hu : X.A.units + 64 < cLine) (hS : F.S = ⟨X.K, X.mg, F.S.T⟩ := by rfl) : CallOk X F (.builtin "repr") gRepr := by
  intro O
  refine ⟨_, call_repr_data (T := F.S.T) hgd hu, fun H xs ps c Q hp r e q => ?_⟩
  unfold gRepr at e
  split at e
  · rename_i p
    cases h : shw p with
    | none => rw [h] at e; cases e
    | some x =>
      rw [h] at e
      cases e
      obtain ⟨v, rfl, rx⟩ := r.one
      rw [hS] at rx
      exact ⟨v, p, x, rfl, rx.rvx, h, q _ H (fun _ _ z => z) (.str _)⟩
  · cases e
/-- str of an int, a tuple, a list, of a text -/
def gStrD : List PV → Option PV
  | [.int i] => (shw (.int i)).map .str
  | [.tup l] => (shw (.tup l)).map .str
  | [.lst l] => (shw (.lst l)).map .str
  | [.str x] => some (.str x)
  | _ => none
theorem call_str_data (hgd : X.A.guards = some []) (hu : X.A.units + 64 < cLine) {T : List (Addr × Str)} : CallR X (.type "str") fun xs H Q => ∃ (v : V) (p : PV) (x : Str), xs = [v] ∧ RV ⟨X.K, X.mg, T⟩ H (fun _ => False) v p ∧ gStrD [p] = some (.str x) ∧ Q (.str x) H := by
  intro pins s σ H xs us Q I r ⟨v, p, x, e, rv, hx, q⟩
  subst e
  have key : (∃ y, p = .str y ∧ x = y) ∨ (shw p = some x ∧ ((∃ i, p = .int i) ∨ (∃ l, p = .tup l) ∨ ∃ l, p = .lst l)) := by
    unfold gStrD at hx
    split at hx
    · rename_i i e
      cases e
      cases h : shw (.int i) with
      | none => rw [h] at hx; cases hx
      | some z => rw [h] at hx; cases hx; exact .inr ⟨rfl, .inl ⟨_, rfl⟩⟩
    · rename_i l e
      cases e
      cases h : shw (.tup l) with
      | none => rw [h] at hx; cases hx
      | some z => rw [h] at hx; cases hx; exact .inr ⟨rfl, .inr (.inl ⟨_, rfl⟩)⟩
    · rename_i l e
      cases e
      cases h : shw (.lst l) with
      | none => rw [h] at hx; cases hx
      | some z => rw [h] at hx; cases hx; exact .inr ⟨rfl, .inr (.inr ⟨_, rfl⟩)⟩
    · rename_i y e
      cases e
      cases hx
      exact .inl ⟨_, rfl, rfl⟩
    · cases hx
  rcases key with ⟨y, rfl, rfl⟩ | ⟨hs, sh⟩
  · cases rv
    exact SkE.call_str_str pins s σ H _ us Q I r ⟨_, rfl, q⟩
  · cases r with
    | cons ru rn =>
      cases rn
      obtain ⟨d, as, hr, hw, hn, hd, hl, rfl⟩ := shw_reads I rv ru hs
      have fin : ∀ (h' : Heap) (tk u : Nat), (∀ b o, s.heap.get? b = some o → h'.get? b = some o) → EP X pins σ Q (.str d.shown u) { s with heap := h', toks := tk } := fun h' tk u k => ⟨.str _, H, I.kept k, ⟨u, rfl⟩, q⟩
      rcases sh with ⟨i, rfl⟩ | ⟨l, rfl⟩ | ⟨l, rfl⟩
      · cases rv
        obtain ⟨t, rfl⟩ := ru
        cases hr
        exact call_str_int pins s σ H [.int i] _ Q I (.cons ⟨t, rfl⟩ .nil) ⟨i, rfl, by simpa [PyData.showable] using hw, by simpa only [PyData.shown] using q⟩
      · obtain ⟨a, vs, rfl, _⟩ := rv.isT
        cases ru
        exact str_of_reads hr hw hn hgd (by omega) (fun _ _ e => e) (fun h' u tk k => fin h' tk u k) hl
      · obtain ⟨a, vs, rfl, _⟩ := rv.isL
        cases ru
        exact str_of_reads hr hw hn hgd (by omega) (fun _ _ e => e) (fun h' u tk k => fin h' tk u k) hl
theorem co_strD (hgd : X.A.guards = some []) (hu : X.A.units + 64 < cLine) (hS : F.S = ⟨X.K, X.mg, F.S.T⟩ := by rfl) : CallOk X F (.type "str") gStrD := by
  intro O
  refine ⟨_, call_str_data (T := F.S.T) hgd hu, fun H xs ps c Q hp r e q => ?_⟩
  have one : ∃ p, ps = [p] := by
    unfold gStrD at e
    split at e <;> first | exact ⟨_, rfl⟩ | cases e
  obtain ⟨p, rfl⟩ := one
  have str : ∃ x, c = .str x := by
    unfold gStrD at e
    split at e
    · cases h : shw (.int ‹_›) with
      | none => rw [h] at e; cases e
      | some z => rw [h] at e; cases e; exact ⟨_, rfl⟩
    · cases h : shw (.tup ‹_›) with
      | none => rw [h] at e; cases e
      | some z => rw [h] at e; cases e; exact ⟨_, rfl⟩
    · cases h : shw (.lst ‹_›) with
      | none => rw [h] at e; cases e
      | some z => rw [h] at e; cases e; exact ⟨_, rfl⟩
    · cases e; exact ⟨_, rfl⟩
    · cases e
  obtain ⟨x, rfl⟩ := str
  obtain ⟨v, rfl, rx⟩ := r.one
  rw [hS] at rx
  exact ⟨v, p, x, rfl, rx.rvx, e, q _ H (fun _ _ z => z) (.str _)⟩

/-! ### {} -/
def mDict0 : Mo PV := fun e => .ok (.dK []) e
@[simp] theorem mDict0_ap {e : En} : mDict0 e = .ok (.dK []) e := (rfl)
theorem pm_dict0 {pos : Pos} : PE X (.Dict [] [] pos) (rd F ow mDict0) :=
  pe_dnewK.imp fun σ H Q ⟨e, R, p⟩ q hq => p _ (Keep.upd hq) (R.new hq) _ (.dK (fun z => (R.tracked q z).ne hq) upd_same .nil)
end
end M

namespace M
open PySem PySem.Spec PyProof.Rows L2

theorem fnNG {P : Program} {w : World} {K : PySem.W.Frag} {mg : Str → Option Value} {T : List (Addr × Str)} {base : Heap} {x qual : Str} {params : Arguments} {body : List Stmt} {scope : Scope} {f : Addr} {fd : FuncData} {N ps : List Str} {k n : Nat} {io oz : List Nat} {ms : Ms}
    (Fd : FunD K x qual params body scope [] [] f fd) (sc : FnScope N ps scope)
    (hb : ∀ (G : Addr → Prop) (cdv : Value) (A : Around) (outer : List Env) (s : Shared) (H : Hp) (E : XK), Room k (A.deeper (PyProof.Rows.envOfC qual scope s.heap.objs.size f cdv)) → A.guards = some [] → PSs (cxOf CX0 P w K mg base N qual scope f cdv A outer s H E).nox body (rdS ⟨⟨K, mg, T⟩, G, io, fun _ _ _ _ => False⟩ io oz [] ms))
    (hn : ps.length = n := by rfl) (hN : n ≤ N.length := by decide) (hoz : ∀ i ∈ io, i ∈ oz := by decide) : FnG P w K mg base CX0 (k + 1) f fd ps (spM ⟨K, mg, T⟩ n io (runN N.length ms)) := by
  refine okG Fd sc (fun vs H Q E h => ?_) (fun cdv A outer s H vs Q E hr hgd h => ?_)
  · obtain ⟨O, ps', hv, _⟩ := h
    rw [hv, hn]
  · obtain ⟨O, pv, hv, hp, pre, htb, h1, h2, h3, h4⟩ := h
    refine ⟨_, PSs.nox (hb (fun a => O a ∧ ∀ k, k ∈ io → vs[k]? ≠ some (.ref a)) cdv A outer s H E hr hgd), startE N.length pv, er_start hv hp hN pre htb h1 h2 h3, ?_⟩
    have ioO : ∀ a, O a → Gd (fun a => O a ∧ ∀ k, k ∈ io → vs[k]? ≠ some (.ref a)) io (L2.start N vs) a := fun a oa => by
      by_cases q : ∃ k, k ∈ io ∧ vs[k]? = some (.ref a)
      · obtain ⟨k, hk, e⟩ := q
        exact .inr ⟨k, hk, start_of e⟩
      · exact .inl ⟨oa, fun k hk e => q ⟨k, hk, e⟩⟩
    have nown : ∀ a, (¬ ∃ k, k ∈ io ∧ vs[k]? = some (.ref a)) → ¬ Own io (L2.start N vs) a := fun a q ⟨i, hi, e⟩ => q ⟨i, hi, start_get e⟩
    unfold runN at h4
    cases q : ms (startE N.length pv) with
    | nxt e =>
      simp only [q] at h4
      intro σ' H' ks st R
      refine h4 .non H' ⟨fun a o e1 n nt => (ks.kp a o e1 (nown a n) nt).1⟩ R.tb .non fun k p' hk he => ?_
      obtain ⟨v, e1, r⟩ := R.own k p' he (hoz k hk)
      refine ⟨v, start_get (by rw [← st k hk]; exact e1), r.mono Keep.refl (fun a _ oa => ?_) fun _ _ => rfl⟩
      rcases ioO a oa with g | ⟨i, hi, z⟩
      · exact .inl g
      · exact .inr ⟨i, hoz i hi, (st i hi).trans z⟩
    | ret p e =>
      simp only [q] at h4
      intro v H' kk tbs ioat rv
      refine h4 v H' ⟨fun a o e1 n nt => kk.kp a o e1 (nown a n) nt⟩ tbs (rv.mono Keep.refl fun a _ oa => ioO a oa) fun k p' hk he => ?_
      obtain ⟨v, e1, r⟩ := ioat k p' hk he
      exact ⟨v, start_get e1, r.mono Keep.refl (fun a _ oa => ioO a oa) fun _ _ => rfl⟩
    | brk e => simp only [q] at h4
    | cnt e => simp only [q] at h4
    | exc z e => simp only [q] at h4
    | bad => simp only [q] at h4
/-! ### the law's call, from the head's heap: what is tracked there is the script and the empty tables -/
structure Top (K : PySem.W.Frag) (T : List Addr) (a : Addr) (oa : Obj) (xs : List V) (H : Hp) : Prop where
  tab : ∀ b ∈ T, H b = some (.tbl #[])
  only : ∀ b u, H b = some u → (b ∈ T ∧ u = .tbl #[]) ∨ (b = a ∧ u = .frz oa (.lst xs))
  scr : SqL K H a xs
  out : H a ≠ none → K.lookup a = none
section
variable {P : Program} {w : World} {K : PySem.W.Frag} {mg mb : Str → Option Value} {a : Addr} {xs : List V} {ws : List Value} {H : Hp} {z : Shared} {T : List Addr} {cs : List (Addr × Addr)}
abbrev scrO (ws : List Value) : Obj := { cls := .type "list", data := .seq ws.toArray }
abbrev tabO : Obj := { cls := .none, data := .fields #[] }
/-- what the top gives of the head's heap -/
structure Base (P : Program) (w : World) (K : PySem.W.Frag) (mg : Str → Option Value) (T : List Addr) (a : Addr) (ws : List Value) (z : Shared) : Prop where
  kin : K.In z.heap
  ns : z.heap.Ns mainGlobals mg
  bl : ∃ mb, z.heap.Ns builtinsNs mb ∧ ∀ x : Str, x ≠ "__name__" → mb x = bootBuiltins x
  lim : z.heap.NoLimit
  gens : z.gens = #[]
  scr : z.heap.get? a = some (scrO ws)
  tabs : ∀ b ∈ T, z.heap.get? b = some tabO
  nK : ∀ b ∈ T, K.lookup b = none
theorem Top.untracked (t : Top K T a (scrO ws) xs H) (B : Base P w K mg T a ws z) {b : Addr} {o : Obj} (e : z.heap.get? b = some o) (h1 : ∀ vs n, o.data ≠ .seq vs n) (h2 : o.data ≠ .fields #[]) : H b = none := by
  cases q : H b with
  | none => rfl
  | some u =>
    rcases t.only b u q with ⟨hb, -⟩ | ⟨hb, -⟩
    · have := B.tabs b hb
      rw [e] at this
      exact absurd (congrArg Obj.data (Option.some.inj this)) h2
    · subst hb
      have := B.scr
      rw [e] at this
      exact absurd (congrArg Obj.data (Option.some.inj this)) (h1 _ _)
theorem Top.nsT (t : Top K T a (scrO ws) xs H) (B : Base P w K mg T a ws z) {b : Addr} {m : Str → Option Value} (h : z.heap.Ns b m) : (hidT z.heap H).Ns b m := by
  obtain ⟨o, es, ep, e, d, r⟩ := h
  refine ⟨o, es, ep, hidT_get e (t.untracked B e (fun vs n q => ?_) fun q => ?_), d, r⟩
  · rw [d] at q; cases q
  · rw [d] at q; cases q
theorem Top.kinT (t : Top K T a (scrO ws) xs H) (B : Base P w K mg T a ws z) : K.In (hidT z.heap H) := fun b o e => by
  refine hidT_get (B.kin b o e) ?_
  cases q : H b with
  | none => rfl
  | some u =>
    rcases t.only b u q with ⟨hb, -⟩ | ⟨hb, -⟩
    · have := B.nK b hb
      rw [e] at this; cases this
    · subst hb
      have := t.out (by rw [q]; simp)
      rw [e] at this; cases this
theorem Top.hok (t : Top K T a (scrO ws) xs H) (B : Base P w K mg T a ws z) (rv : Vals xs ws) (hl : xs.length ≤ sizeLine) : HOk P w H z.heap := fun b u e => by
  rcases t.only b u e with ⟨hb, rfl⟩ | ⟨rfl, rfl⟩
  · exact B.tabs b hb
  · exact ⟨B.scr, hl, ws, _, rv, B.scr⟩
theorem Top.env (t : Top K T a (scrO ws) xs H) (B : Base P w K mg T a ws z) (rv : Vals xs ws) (hl : xs.length ≤ sizeLine) : Env0 P w K mg (hidT z.heap H) callerA [] z H := by
  obtain ⟨mb, b1, b2⟩ := B.bl
  obtain ⟨mc, c1, c2⟩ := B.lim
  exact { frames := rfl, mod := ⟨t.kinT B, t.nsT B B.ns, ⟨mb, t.nsT B b1, b2⟩, ⟨mc, t.nsT B c1, c2⟩⟩, bs := fun b o e => of_hidT e, bsz := Nat.le_of_eq (hidT_size _ _), funs := trivial, frf := fun b hb => (by cases hb), hok := t.hok B rv hl, bare := .of_eq B.gens }
/-- the maker's table, over the base -/
theorem Top.tabB (t : Top K T a (scrO ws) xs H) (B : Base P w K mg T a ws z) {c b : Addr} (hb : b ∈ T) (C : PySem.W.CodeHd z.heap c b)
    (bm : ∃ (m : Addr) (om : Obj), mg "__builtins__" = some (.ref m) ∧ m ≠ builtinsNs ∧ z.heap.get? m = some om ∧ om.cls = .type "module" ∧ om.dict = some builtinsNs ∧ om.data = .plain) : LamX.TabB (hidT z.heap H) mg c b := by
  have hT := B.tabs b hb
  have cd : PySem.W.CodeHd (hidT z.heap H) c b := by
    obtain ⟨o, us, file, tf, flags, tg, inF, text, tt, e1, r1, r2, r3, r⟩ := C
    refine ⟨o, us, file, tf, flags, tg, inF, text, tt, hidT_get e1 (t.untracked B e1 (fun vs n q => ?_) fun q => ?_), r1, r2, r3, r⟩
    · rw [r2] at q; cases q
    · rw [r2] at q; cases q; simp at r3
  have nG : mainGlobals ≠ b := fun q => by
    obtain ⟨o, es, ep, e, d, _⟩ := B.ns
    rw [q, hT] at e
    cases e
    cases d
  refine ⟨cd, ?_, nG⟩
  obtain ⟨m, om, b1, b2, b3, b4, b5, b6⟩ := bm
  refine ⟨m, om, b1, b2, fun q => ?_, fun q => ?_, hidT_get b3 (t.untracked B b3 (fun vs n q => ?_) fun q => ?_), b4, b5, b6⟩
  · obtain ⟨o, es, ep, e, d, _⟩ := B.ns
    rw [← q, b3] at e
    cases e
    rw [b6] at d
    cases d
  · rw [q, hT] at b3
    cases b3
    cases b6
  · rw [b6] at q; cases q
  · rw [b6] at q; cases q
/-- behind the call: what stood, stands; the tables may have grown -/
theorem Top.old (t : Top K T a (scrO ws) xs H) (B : Base P w K mg T a ws z) (ct : ∀ b ∈ T, isCodeTable z.heap b) {H' : Hp} {z' : Shared} (un : Un (frs []) [] H H' z.heap z'.heap) (hok : HOk P w H' z'.heap) : OldK z.heap z'.heap := by
  have grown : ∀ b ∈ T, ∃ more : Array Value, z'.heap.get? b = some { cls := .none, data := .fields more } := fun b hb => by
    obtain ⟨more, q⟩ := un.tbls b #[] (t.tab b hb)
    exact ⟨_, hok b _ q⟩
  have key : ∀ b o, b ∉ T → z.heap.get? b = some o → z'.heap.get? b = some o := fun b o nb e => by
    cases q : H b with
    | none => exact un.keep b o e q (by intro y; cases y) (by simp)
    | some u =>
      rcases t.only b u q with ⟨y, -⟩ | ⟨rfl, rfl⟩
      · exact absurd y nb
      · obtain ⟨e1, _⟩ := hok b _ (un.frzs b _ _ q)
        have := B.scr
        rw [e] at this
        cases this
        exact e1
  constructor
  · intro b o e
    by_cases hb : b ∈ T
    · obtain ⟨more, hm⟩ := grown b hb
      have e0 := B.tabs b hb
      rw [e] at e0
      cases e0
      refine .inr (.inl ⟨ct b hb, rfl, #[], more, rfl, ?_⟩)
      rw [Array.empty_append]
      exact hm
    · exact .inl (key b o hb e)
  · intro b o e
    by_cases hb : b ∈ T
    · obtain ⟨more, hm⟩ := grown b hb
      exact ⟨_, hm⟩
    · exact ⟨o, key b o hb e⟩
end
/-- the law's promise at the head's heap -/
structure LawG (l : PySem.W.OpenLaw) (w : World) (K : PySem.W.Frag) (k n : Nat) (x : Str) (mg : Str → Option Value) (fa : Addr) (h : Heap) : Prop where
  ex : ∃ (fd : FuncData) (cs : List (Addr × Addr)) (sp : Sp), (∀ p ∈ cs, h.get? p.2 = some tabO) ∧ (∀ p ∈ cs, K.lookup p.2 = none) ∧ (∀ p ∈ cs, PySem.W.CodeHd h p.1 p.2) ∧ (∀ (s : Shared) (u : Value), BindsTo s fd ⟨[u], []⟩ [(x, u)]) ∧
    (∀ (H : Hp) (a : Addr) (ns : List Int), ns.length ≤ n → (∀ p ∈ cs, H p.2 = some (.tbl #[])) → SqL K H a (ns.map V.int) → sp [.ref a] H (fun v _ => v = .bl true) fun _ _ _ => False) ∧
    ∀ base : Heap, K.In base → base.Ns mainGlobals mg → (∀ p ∈ cs, LamX.TabB base mg p.1 p.2) → FnG l.prog w K mg base CX0 k fa fd [x] sp
theorem law_callG {P : Program} {w : World} {K : PySem.W.Frag} {mg : Str → Option Value} {k : Nat} {fa a : Addr} {cs : List (Addr × Addr)} {fd : FuncData} {x : Str} {sp : Sp} {z : Shared} {ws : List Value} {ns : List Int}
    (B : Base P w K mg (cs.map (·.2)) a ws z) (C : ∀ p ∈ cs, PySem.W.CodeHd z.heap p.1 p.2)
    (bm : ∃ (m : Addr) (om : Obj), mg "__builtins__" = some (.ref m) ∧ m ≠ builtinsNs ∧ z.heap.get? m = some om ∧ om.cls = .type "module" ∧ om.dict = some builtinsNs ∧ om.data = .plain)
    (hi : IntsAre ws ns) (hl : ns.length ≤ sizeLine) (hr : Room k callerA)
    (F : ∀ base : Heap, K.In base → base.Ns mainGlobals mg → (∀ p ∈ cs, LamX.TabB base mg p.1 p.2) → FnG P w K mg base CX0 k fa fd [x] sp) (hb : ∀ (s : Shared) (u : Value), BindsTo s fd ⟨[u], []⟩ [(x, u)])
    (hsp : ∀ H : Hp, (∀ p ∈ cs, H p.2 = some (.tbl #[])) → SqL K H a (ns.map V.int) → sp [.ref a] H (fun v _ => v = .bl true) fun _ _ _ => False) :
    codeAny (model P w) callerA (.call (.ref fa) ⟨[.ref a], []⟩) (fun r s' => r = .ok (.ret (.bool true)) ∧ OldK z.heap s'.heap ∧ s'.os = z.os ∧ AllBare s'.gens) z := by
  have rv := vals_ints hi
  have hx : (ns.map V.int).length ≤ sizeLine := by rw [List.length_map]; exact hl
  have mem : ∀ p ∈ cs, p.2 ∈ cs.map (·.2) := fun p hp => List.mem_map.mpr ⟨p, hp, rfl⟩
  have ct : ∀ b ∈ cs.map (·.2), isCodeTable z.heap b := fun b hbm => by
    obtain ⟨p, hp, e⟩ := List.mem_map.mp hbm
    subst e
    exact ((C p hp).tab (B.tabs _ (mem p hp))).isCodeTable
  suffices key : ∃ H, Top K (cs.map (·.2)) a (scrO ws) (ns.map V.int) H by
    obtain ⟨H, t⟩ := key
    have TB : ∀ p ∈ cs, LamX.TabB (hidT z.heap H) mg p.1 p.2 := fun p hp => t.tabB B (mem p hp) (C p hp) bm
    have run := (F _ (t.kinT B) (t.nsT B B.ns) TB).go callerA [] z H ⟨[.ref a], []⟩ [.ref a] [.ref a] _ _ hr rfl (t.env B rv hx) (hb z (.ref a)) (.cons rfl .nil) (hsp H (fun p hp => t.tab _ (mem p hp)) t.scr)
    refine codeAny_mono run ?_
    rintro (er | fl) s' hq
    · exact hq.elim
    · match fl, hq with
      | .next, hq => exact hq.elim
      | .brk, hq => exact hq.elim
      | .cont, hq => exact hq.elim
      | .ret u, hq =>
        obtain ⟨v, H', os, bare, un, hok, ru, q⟩ := hq
        cases (show v = .bl true from q)
        cases (show u = Value.bool true from ru)
        exact ⟨rfl, t.old B ct un hok, os, bare⟩
  have aT : a ∉ cs.map (·.2) := fun q => by
    have := B.tabs a q
    rw [B.scr] at this
    have d : Data.seq ws.toArray _ = Data.fields #[] := congrArg Obj.data (Option.some.inj this)
    cases d
  cases hk : K.lookup a with
  | some o =>
    have e := B.kin a o hk
    rw [B.scr] at e
    cases e
    refine ⟨fun b => if b ∈ cs.map (·.2) then some (.tbl #[]) else none, fun b hb => if_pos hb, fun b u e => ?_, .inr ⟨_, ws.toArray, _, hk, rfl, rfl, rfl, ?_, by simpa using rv⟩, fun q => absurd (if_neg aT) q⟩
    · by_cases hb : b ∈ cs.map (·.2)
      · rw [if_pos hb] at e; cases e; exact .inl ⟨hb, rfl⟩
      · rw [if_neg hb] at e; cases e
    · rw [List.size_toArray, ← rv.length]; exact hx
  | none =>
    refine ⟨fun b => if b ∈ cs.map (·.2) then some (.tbl #[]) else if b = a then some (.frz (scrO ws) (.lst (ns.map V.int))) else none, fun b hb => if_pos hb, fun b u e => ?_, .inl (.inr ⟨scrO ws, ?_⟩), fun _ => hk⟩
    · by_cases hb : b ∈ cs.map (·.2)
      · rw [if_pos hb] at e; cases e; exact .inl ⟨hb, rfl⟩
      · rw [if_neg hb] at e
        by_cases hb2 : b = a
        · rw [if_pos hb2] at e; cases e; exact .inr ⟨hb2, rfl⟩
        · rw [if_neg hb2] at e; cases e
    · show (if a ∈ cs.map (·.2) then _ else if a = a then _ else _) = _
      rw [if_neg aT, if_pos rfl]
theorem walk_ofG {l : PySem.W.OpenLaw} {n k : Nat} {q : Program} {loose : List Str} {XP : (Str → Option Value) → Heap → Prop} {YP : World → Heap → Prop} {d : DefRec} {x : Str} (hn : l.most = some n) (hn2 : n ≤ sizeLine) (hdf : d.params.defaults = []) (hr : Room k callerA)
    (F : ∀ (w : World) (mg : Str → Option Value) (fa : Addr) (h : Heap), YP w h → h.Ns mainGlobals mg → mg d.name = some (.ref fa) → ∃ K : PySem.W.Frag, K.In h ∧ LawG l w K k n x mg fa h) :
    PySem.W.WalkO q loose XP YP l.row.toRowW d [] (fun f vs => PySem.call f vs) := by
  refine Att.attach_callB hn hdf ?_
  intro w z0 z mg mb fa o pm cd doc a vs ns G Y ho hd hcd hmg hobj hints hlen hbits hg
  obtain ⟨K, KX, ⟨fd, cs, sp, hT, nT, C, hb, hsp, hF⟩⟩ := F w mg fa _ Y G.T.g hmg
  have key : ∀ {p : Addr → Prop}, (∀ q ∈ cs, p q.2) → ∀ b ∈ cs.map (·.2), p b := fun {p} hp b hb => by
    obtain ⟨q, hq, e⟩ := List.mem_map.mp hb
    subst e
    exact hp q hq
  have B : Base l.prog w K mg (cs.map (·.2)) a vs z := ⟨KX, G.T.g, ⟨mb, G.T.b, G.T.builtins⟩, G.T.nolimit, hg, hobj, key hT, key nT⟩
  exact law_callG B C G.T.bmain hints (Nat.le_trans hlen hn2) hr hF hb fun H hH hS => hsp H a ns hlen hH hS
end M

namespace PySem.HandNew
/-! ### a class whose __new__ stands with a base of its base -/
structure NewOf (newId : String) (bmB : List Value) : Prop where
  ex : ∃ (O initId : String) (bmO : List Value), ExcBaseFacts O newId initId bmO ∧ bmB.contains (.type O) = true ∧ bmB.contains (.type "AttributeError") = false ∧ bmB.contains (.type "NameError") = false
theorem NewOf.of {B newId initId : String} {bmB : List Value} (F : ExcBaseFacts B newId initId bmB) : NewOf newId bmB := ⟨B, initId, bmB, F, F.hasB, F.noAttr, F.noName⟩
theorem new_Key : NewOf "LookupError.__new__" [.type "KeyError", .type "LookupError", .type "Exception", .type "BaseException", .type "object"] := ⟨_, _, _, PySem.F.excBase_LookupError, by decide +kernel, by decide +kernel, by decide +kernel⟩
section
variable {prog : Program} {w : World} {A : Around} {R : Result → Shared → Prop} {h : Heap} {g : Array GenState} {d : Drawn} {t : Nat} {os : OsState}
variable {nm qn : Str} {C N : Addr} {bs bm bmO : List Value} {hdct : Bool} {sn : List Str} {sub : List Value} {ab : Bool} {col : Option Bool} {dd : Option Addr} {k0 k1 k2 k3 k5 : Option Value} {O newId initId : String}
theorem new_check {M : Model} {E : Value → Shared → Prop} (F : ExcBaseFacts O newId initId bmO) (hO : bm.contains (.type O) = true) {rest : List Value} {Q : Unit → Shared → Prop}
    (hC : h.get? C = some (excClassObj nm qn C N bs bm hdct sn sub ab col dd k0 k1 k2 k3 k5 newId)) (hq : Q () ⟨h, g, d, t, os⟩) : wpAny M A (checkBuiltinCall newId ⟨.ref C :: rest, []⟩) Q E ⟨h, g, d, t, os⟩ := by
  have c1 : (Value.ref C :: bm).contains (.type O) = true := by rw [List.contains_cons, hO, Bool.or_true]
  have c2 := F.noStar
  simp only [checkBuiltinCall, F.newKind, F.newSplit, F.newRow]
  repeat (first | refine wpAny_loadPart_at hC ?_ | (refine wpAny_isSubtype_exc hC ?_; rw [c1]) | refine wpAny_staticBase_exc hC ?_ | refine wpAny_madeBy_exc hC ?_ | simp only [bne_self_eq_false, Bool.false_eq_true, if_false] | wp_step)
  exact hq
theorem new_run (F : ExcBaseFacts O newId initId bmO) (hO : bm.contains (.type O) = true) (hA : bm.contains (.type "AttributeError") = false) (hN : bm.contains (.type "NameError") = false) {rest : List Value}
    (hC : h.get? C = some (excClassObj nm qn C N bs bm hdct sn sub ab col dd k0 k1 k2 k3 k5 newId)) 
    (hq : R (.ok (.ret (.ref (h.objs.size + 1)))) ⟨(h.push { cls := .type "tuple", data := .seq rest.toArray }).push { cls := .ref C, data := .fields #[.ref h.objs.size, .none, .none, .none, .bool false, .none] }, g, d, t, os⟩) (hrest : rest.length ≤ sizeLine) :
    codeAny (model prog w) A (.builtin newId ⟨.ref C :: rest, []⟩) R ⟨h, g, d, t, os⟩ := by
  have c0 := F.ends
  have hsz : ¬ rest.toArray.size > sizeLine := by simpa using hrest
  have c1 : (Value.ref C :: bm).contains (.type O) = true := by rw [List.contains_cons, hO, Bool.or_true]
  have c2 : (Value.ref C :: bm).contains (.type "AttributeError") = false := by rw [List.contains_cons, hA]; rfl
  have c3 : (Value.ref C :: bm).contains (.type "NameError") = false := by rw [List.contains_cons, hN]; rfl
  refine codeAny_builtinAt F.entry ?_
  unfold Builtin.«BaseException.__new__»
  refine wpAt_bind ?_
  show wpAt _ _ _ (stack >>= _) _ _ _
  refine wpAt_bind (wpAt_stack fun p below => wpAt_of_wpAny ?_)
  wp_walk
  refine wpAt_of_wpAny ?_
  rw [F.owner]
  repeat (first | with_reducible refine wpAny_madeHere_exc F.canon hC ?_ | with_reducible refine wpAny_loadPart_at hC ?_ | (with_reducible refine wpAny_isSubtype_exc hC ?_; first | rw [c1] | rw [c2] | rw [c3]) | rw [if_neg hsz] | wp_step)
  show R _ _
  rw [Heap.size_push]
  exact hq
theorem new_type {E : Value → Shared → Prop} (F : ExcBaseFacts O newId initId bmO) (hO : bm.contains (.type O) = true) (hA : bm.contains (.type "AttributeError") = false) (hN : bm.contains (.type "NameError") = false) {rest : List Value} {fI : Addr} {Q : Fin → Shared → Prop}
    (hC : h.get? C = some (excClassObj nm qn C N bs bm hdct sn sub ab col dd k0 k1 k2 k3 k5 newId))
    (hi : PySem.W.Looks (model prog w) h (typeLookup (.ref C) "__init__") (some (.ref fI))) (hb : ∀ self, PySem.W.Looks (model prog w) h (bindSpecial (.ref fI) self) (.ref fI, [self])) (hr : rest.length ≤ sizeLine)
    (hq : codeAny (model prog w) A (.call (.ref fI) ⟨.ref (h.objs.size + 1) :: rest, []⟩)
      (fun r s' => match r with | .ok (.ret v) => v = .none ∧ Q (.done (.ret (.ref (h.objs.size + 1)))) s' | .ok _ => False | .error e => E e s')
      ⟨(h.push (PySem.W.kdv_tup rest)).push (PySem.HandSPX.excO C h.objs.size), g, d, t, os⟩) :
    wpAny (model prog w) A (Builtin.«type.__call__» ⟨.ref C :: rest, []⟩) Q E ⟨h, g, d, t, os⟩ := by
  repeat (first | with_reducible refine wpAny_loadPart_at hC ?_ | with_reducible refine wpAny_madeBy_exc hC ?_ | wp_step)
  refine codeAny_call_builtin_code (Code.quiet_builtin _ F.quiet) (new_check F hO hC ?_)
  refine new_run F hO hA hN hC ?_ hr
  show wpAny _ _ _ _ _ _
  have k : ∀ b o, h.get? b = some o → ((h.push (PySem.W.kdv_tup rest)).push (PySem.HandSPX.excO C h.objs.size)).get? b = some o := fun b o e => Heap.get?_push_of_some _ (Heap.get?_push_of_some _ e)
  have hC1 := k _ _ hC
  have hget : ((h.push (PySem.W.kdv_tup rest)).push (PySem.HandSPX.excO C h.objs.size)).get? (h.objs.size + 1) = some (PySem.HandSPX.excO C h.objs.size) := by heap_get
  have c4 : (Value.ref C :: bm).contains (.ref C) = true := by simp
  unfold isInstance
  repeat (first | with_reducible refine wpAny_loadPart_at hget ?_ | (with_reducible refine wpAny_isSubtype_exc hC1 ?_; rw [c4]) | wp_step)
  show wpAny _ _ (typeLookup (.ref C) _) _ _ _
  refine (hi.keeps k).at ?_
  refine wpAny_holding (wpAny_bind (((hb (.ref (h.objs.size + 1))).keeps k).at ?_))
  refine wpAny_bind (wpAny_call (codeAny_mono hq fun r s' z => ?_))
  rcases r with e | (v | _ | _ | _) <;> first | exact z | exact z.elim | skip
  obtain ⟨rfl, z⟩ := z
  first
    | exact wpAny_pure (wpAny_pure z)
    | (wp_walk; exact z)
theorem new_call {bmB : List Value} (F : NewOf newId bmB) (hT : ∀ X : String, bm.contains (.type X) = bmB.contains (.type X)) {rest : List Value} {fI : Addr}
    (hC : h.get? C = some (excClassObj nm qn C N bs bm hdct sn sub ab col dd k0 k1 k2 k3 k5 newId))
    (hi : PySem.W.Looks (model prog w) h (typeLookup (.ref C) "__init__") (some (.ref fI))) (hb : ∀ self, PySem.W.Looks (model prog w) h (bindSpecial (.ref fI) self) (.ref fI, [self])) (hr : rest.length ≤ sizeLine)
    (hq : codeAny (model prog w) (A.under (.builtin "type.__call__" ⟨.ref C :: rest, []⟩)) (.call (.ref fI) ⟨.ref (h.objs.size + 1) :: rest, []⟩) (PySem.W.InitBack (h.objs.size + 1) R)
      ⟨(h.push (PySem.W.kdv_tup rest)).push (PySem.HandSPX.excO C h.objs.size), g, d, t, os⟩) :
    codeAny (model prog w) A (.call (.ref C) ⟨rest, []⟩) R ⟨h, g, d, t, os⟩ := by
  obtain ⟨O, initId, bmO, F, hO, hA, hN⟩ := F.ex
  have f1 := tc_lookup
  have f2 := tc_bind (.ref C)
  have hTy : (⟨h, g, d, t, os⟩ : Shared).TypeIs (.ref C) "type" := ⟨_, hC, rfl⟩
  refine codeAny_of_tree ?_
  show wpAny _ _ (callAny (.ref C) _) _ _ _
  repeat (any_goals (first | assumption | with_reducible refine wpAny_loadPart_at hC ?_ | wp_step))
  refine ⟨rfl, ?_⟩
  refine codeAny_call_builtin_at (Code.quiet_builtin _ (by decide +kernel)) entry_typeCall (wpAny_check_type_call_sub hC (new_type F (by rw [hT]; exact hO) (by rw [hT]; exact hA) (by rw [hT]; exact hN) hC hi hb hr ?_))
  refine codeAny_mono hq fun r s' z => ?_
  rcases r with e | (v | _ | _ | _) <;> exact z
end
end PySem.HandNew
namespace M
open PySem PySem.Spec PyProof.Rows L2 PySem.HandNew

/-! ### an own exception whose __init__ keeps its one argument -/
structure XG (K : PySem.W.Frag) (C fI : Addr) (f : Str) (newId : String) (bmB : List Value) : Prop where
  init : PySem.W.excInitIn K C bmB newId = true
  over : PySem.W.excOver K C bmB = true
  taker : PySem.W.takerIn K C f = some none
  hasd : PySem.W.hasDictIn K C = true
  sa : PySem.W.findIn K (.ref C) "__setattr__" = some (some (.builtin "object.__setattr__"))
  fi : PySem.W.findIn K (.ref C) "__init__" = some (some (.ref fI))
  ty : PySem.W.typeIn K (.ref fI) = some (.type "function")
  exC : PySem.W.subIn K (.ref C) (.type "BaseException") = some true
  tyC : PySem.W.typeIn K (.ref C) = some (.type "type")
  kC : PySem.W.keepIn K (.ref C) = true
def xgB (K : PySem.W.Frag) (x f : Str) (newId : String) (bmB : List Value) : Bool :=
  PySem.W.excInitIn K (He.ga K x) bmB newId && (PySem.W.excOver K (He.ga K x) bmB && (decide (PySem.W.takerIn K (He.ga K x) f = some none) && (PySem.W.hasDictIn K (He.ga K x) &&
  (decide (PySem.W.findIn K (.ref (He.ga K x)) "__setattr__" = some (some (.builtin "object.__setattr__"))) && (decide (PySem.W.findIn K (.ref (He.ga K x)) "__init__" = some (some (.ref (He.ma K (He.ga K x) "__init__")))) &&
  (decide (PySem.W.typeIn K (.ref (He.ma K (He.ga K x) "__init__")) = some (.type "function")) && (decide (PySem.W.subIn K (.ref (He.ga K x)) (.type "BaseException") = some true) && (decide (PySem.W.typeIn K (.ref (He.ga K x)) = some (.type "type")) && PySem.W.keepIn K (.ref (He.ga K x))))))))))
theorem xgB_ok {K : PySem.W.Frag} {x f : Str} {newId : String} {bmB : List Value} (h : xgB K x f newId bmB = true) : XG K (He.ga K x) (He.ma K (He.ga K x) "__init__") f newId bmB := by
  unfold xgB at h
  simp only [Bool.and_eq_true, decide_eq_true_eq] at h
  obtain ⟨h1, h2, h3, h4, h5, h6, h7, h8, h9, h10⟩ := h
  exact ⟨h1, h2, h3, h4, h5, h6, h7, h8, h9, h10⟩
abbrev keTail : List Value := [.type "KeyError", .type "LookupError", .type "Exception", .type "BaseException", .type "object"]
abbrev ieTail : List Value := [.type "IndexError", .type "LookupError", .type "Exception", .type "BaseException", .type "object"]
abbrev oeTail : List Value := [.type "OverflowError", .type "ArithmeticError", .type "Exception", .type "BaseException", .type "object"]
abbrev aeTail : List Value := [.type "ArithmeticError", .type "Exception", .type "BaseException", .type "object"]
theorem store_Key : StoreFacts "KeyError" keTail "object.__setattr__" "object" where
  mro := by kernel_rfl
  slot := .of (owner := "object") (n := "__setattr__") (by rw [PySem.typeLookup_type, PySem.builtinLookup_eq_fast]; kernel_rfl) (by decide +kernel) (by decide +kernel) (by decide +kernel) (by first | exact .inl (by decide +kernel) | exact .inr (by decide +kernel)) (by rw [PySem.isSubtype_type]; kernel_rfl)
  entry := PySem.F.entry_object_sa
  kind := by decide +kernel
  split := by decide +kernel
  hasOwner := by decide +kernel
  args := fun a b c => by unfold argsOk; kernel_rfl
  passes := fun z => by kernel_rfl
section
variable {X : Cx} {pins : List (Addr × Obj)} {σ : L2.St} {H : Hp} {s : Shared} {A : Around} {E : Value → Shared → Prop} {C fI a : Addr} {f : Str} {B newId initId : String} {bmB : List Value}
abbrev dctO : Obj := { cls := .type "dict", data := .dict #[] }
/-- the store of the first field, on the heap itself -/
theorem osaG {K : PySem.W.Frag} {prog : Program} {w : World} {hp : Heap} {g : Array GenState} {dr : Drawn} {t : Nat} {os : OsState} {R : Result → Shared → Prop} {x t0 : Addr} {tk : Tok} {v : Value} (SF : StoreFacts B bmB "object.__setattr__" "object") (T : XG K C fI f newId bmB) (XK : K.In hp)
    (hx : hp.get? x = some (PySem.W.excObj C t0 none .none))
    (hq : ∀ h' tk', h'.Ns1 hp.objs.size (fun y => if y = f then some v else none) → Heap.SameBut hp.objs.size ((hp.push dctO).update x fun o => { o with dict := some hp.objs.size }) h' → R (.ok (.ret .none)) ⟨h', g, dr, tk', os⟩) :
    codeAny (model prog w) A (.call (.builtin "object.__setattr__") ⟨[.ref x, .str f tk, v], []⟩) R ⟨hp, g, dr, t, os⟩ := by
  refine PySem.W.osa_openX (od := none) SF XK ⟨hx, rfl, rfl, trivial⟩ T.over T.taker fun b => ?_
  obtain ⟨cd, hc, hd⟩ := PySem.W.any_some T.hasd
  refine wpAny_bind (wpAny_pure (wpAny_bind (PySem.W.instanceDict_exc hx (PySem.W.looks_clsIn XK hc) hd ?_)))
  have hxs : hp.objs.size ≠ x := Nat.ne_of_gt (Heap.lt_size hx)
  have hn : ((hp.push dctO).update x fun o => { o with dict := some hp.objs.size }).Ns hp.objs.size fun _ => none :=
    ⟨dctO, #[], _, (Heap.get?_update_ne _ _ _ _ hxs).trans (Heap.get?_push_at rfl rfl), rfl, fun e he => absurd he (by simp), fun _ => rfl⟩
  exact PySem.HandSPX.store_in_new hn hq
theorem stG {fs : List (Str × V)} {y : V} {u : Value} {Q : Unit → Shared → Prop} (SF : StoreFacts B bmB "object.__setattr__" "object") (T : XG X.K C fI f newId bmB) (I : Inv X pins σ H s) (e : H a = some (exo a C none)) (ry : RelV y u)
    (h : ∀ dx s', H dx = none → dx ≠ a → Inv X pins σ (upd (upd (upd H dx (exd dx [])) a (exo a C (some dx))) dx (exd dx [(f, y)])) s' → Q () s') : wpAny (model X.prog X.w) A (setAttr (.ref a) f u) Q E s := by
  obtain ⟨t1, ho⟩ := exo_at I.hok e
  obtain ⟨hp, g, dr, t, os⟩ := s
  have hxs : a < hp.objs.size := Heap.lt_size ho
  have dne : hp.objs.size ≠ a := Nat.ne_of_gt hxs
  have hnd : H hp.objs.size = none := I.hok.fresh (Nat.le_refl _)
  refine PySem.W.set_plain I.kIn (ox := PySem.W.excObj C t1 none .none) (od := none) ⟨ho, rfl, rfl, trivial⟩ T.sa ?_
  refine osaG SF T I.kIn ho fun h' tk' hn hs => ?_
  refine h hp.objs.size _ hnd dne ?_
  -- the dict is laid, the exception is given it, the field is put
  have k1 : ∀ b o, hp.get? b = some o → (hp.push dctO).get? b = some o := fun b o q => Heap.get?_push_of_some _ q
  have hd : (hp.push dctO).get? hp.objs.size = some dctO := Heap.get?_push_at rfl rfl
  have n1 : (hp.push dctO).Ns1 hp.objs.size fun _ => none := Heap.Ns1.of_empty ⟨dctO, #[], _, hd, rfl, fun e he => absurd he (by simp), fun _ => rfl⟩
  have J1 : Inv X pins σ (upd H hp.objs.size (exd hp.objs.size [])) ⟨hp.push dctO, g, dr, t, os⟩ := I.laid (t' := t) (h' := hp.push dctO) (o := exd hp.objs.size []) k1 (Nat.le_refl _) (exd_ok n1 fun _ => True.intro)
  have ha1 : upd H hp.objs.size (exd hp.objs.size []) a = some (exo a C none) := by rw [upd_ne (Ne.symm dne)]; exact e
  have hx2 : ((hp.push dctO).update a fun o => { o with dict := some hp.objs.size }).get? a = some (PySem.W.excObj C t1 (some hp.objs.size) .none) := Heap.get?_update_self _ (k1 _ _ ho) rfl
  have J2 := J1.write (t' := t) (h' := (hp.push dctO).update a fun o => { o with dict := some hp.objs.size }) (x := a) (e := a) (o := exo a C (some hp.objs.size)) (by rw [ha1]; exact True.intro) (.inl rfl)
    (fun b o hb q => (Heap.get?_update_ne _ _ _ _ hb).trans q) ⟨_, hx2⟩ (exo_ok hx2)
  have hd2 : upd (upd H hp.objs.size (exd hp.objs.size [])) a (exo a C (some hp.objs.size)) hp.objs.size = some (exd hp.objs.size []) := by rw [upd_ne dne, upd_same]
  have hd3 : ∃ o, h'.get? hp.objs.size = some o := by obtain ⟨o, _, _, q, _⟩ := hn; exact ⟨o, q⟩
  exact J2.write (t' := tk') (h' := h') (x := hp.objs.size) (e := hp.objs.size) (o := exd hp.objs.size [(f, y)]) (by rw [hd2]; exact True.intro) (.inl rfl) (fun b o hb q => (hs.2 b hb).trans q) hd3
    (exd_ok hn (relO_put (fs := []) ry fun _ => True.intro))
/-- self.f = e -/
theorem ps_stG {o e : Expr} {to te : TE} {p' pos : Pos} (SF : StoreFacts B bmB "object.__setattr__" "object") (T : XG X.K C fI f newId bmB) (ho : PE X o to) (he : PE X e te) (hs : swapsWith e (some (.Attribute o f p')) pos.line X.env = pure false := by rfl) :
    PS X (.Assign [.Attribute o f p'] e pos) fun D σ H => te σ H fun y H1 => to σ H1 fun x H2 => ∃ a, x = .ref a ∧ H2 a = some (exo a C none) ∧ ∀ dx, H2 dx = none → dx ≠ a → D.nx σ (upd (upd (upd H2 dx (exd dx [])) a (exo a C (some dx))) dx (exd dx [(f, y)])) := by
  refine ⟨fun pins s σ H D I h => ?_⟩
  refine plainObj_wpAny_Assign_Attribute (thn (he.run pins s σ H _ I h) fun v s1 hv => ?_) hs
  obtain ⟨y, H1, I1, r1, q1⟩ := hv
  refine thn (ho.run pins s1 σ H1 _ I1 q1) fun u s2 hu => ?_
  obtain ⟨x, H2, I2, r2, a, ex, ea, q⟩ := hu
  subst ex
  cases r2
  exact stG (fs := []) SF T I2 ea r1 fun dx s' n ne J => ⟨σ, _, J, q dx n ne⟩
/-- the one argument of C(e) is kept -/
theorem pmk_G {x : Str} {e : Expr} {es : List Expr} {ta : TA} {p p1 p2 p3 p4 pos : Pos} {fd : FuncData} {params : Arguments} {scope : Scope} {qual self arg : Str} (FB : NewOf newId bmB) (SF : StoreFacts B bmB "object.__setattr__" "object") (T : XG X.K C fI f newId bmB)
    (Fd : FunD X.K "__init__" qual params [.Assign [.Attribute (.Name self p1) f p2] (.Name arg p3) p4] scope [] [] fI fd) (Sc : FnScope [self, arg] [self, arg] scope) (hb : L2.Binds X.K fd [self, arg] []) (hr : Room 2 X.A) (hg : Gl X x) (hm : X.mg x = some (.ref C)) (ha : PA X (e :: es) ta)
    (h1 : (self == ("__debug__" : Str)) = false) (h2 : (self == ("__classdict__" : Str)) = false) (h3 : (arg == ("__debug__" : Str)) = false) (h4 : (arg == ("__classdict__" : Str)) = false) (v1 : Vis scope self) (v2 : Vis scope arg)
    (hsw : ∀ env, swapsWith (.Name arg p3) (some (.Attribute (.Name self p1) f p2)) p4.line env = pure false)
    (hdb : (x == ("__debug__" : Str)) = false := by decide) (he : starEach (e :: es) X.env = (false, eval e X.env) :: starEach es X.env := by rfl) (hpl : (backTo pos (starEach es X.env)).any (·.1) = false := by rfl) :
    PMk X (.Call (.Name x p) (e :: es) [] pos) fun σ H Q => ta σ H fun vs H1 => ∃ v, vs = [v] ∧ ∀ d, H1 d = none → Q (.ref C) (some d) (upd H1 d (.xd [(f, v)])) := by
  intro pins s σ H Q I h
  refine wpAny_Call_Name_kw (ld_glob I hg hm ?_ hdb)
  refine PySem.W.callWith_K (h₀ := X.base) I.ok.mod.kin T.kC (thn (ha.run pos pins s σ H _ I h) fun us s1 hh => ?_) he hpl
  obtain ⟨vs, H1, I1, r1, v, ev, q1⟩ := hh
  refine ⟨I1.kIn, ?_⟩
  show wpAny _ _ (call (.ref C) us) _ _ _
  subst ev
  cases r1 with
  | @cons _ u _ us' ru rn =>
    cases rn
    obtain ⟨nm, N, qn, bs, bm, hdct, sn, sub, ab, col, dd, k0, k1, k2, k3, k5, hC, hT⟩ := PySem.W.excInit_of I1.kIn T.init
    obtain ⟨hp, g, dr, tk, os⟩ := s1
    have hsz : hp.objs.size ≤ hp.objs.size + 1 := Nat.le_succ _
    have hn : H1 (hp.objs.size + 1) = none := I1.hok.fresh hsz
    have kk : ∀ b o, hp.get? b = some o → ((hp.push (PySem.W.kdv_tup [u])).push (PySem.HandSPX.excO C hp.objs.size)).get? b = some o := fun b o q => Heap.get?_push_of_some _ (Heap.get?_push_of_some _ q)
    have hget : ((hp.push (PySem.W.kdv_tup [u])).push (PySem.HandSPX.excO C hp.objs.size)).get? (hp.objs.size + 1) = some (PySem.HandSPX.excO C hp.objs.size) := by heap_get
    have I2 : Inv X pins σ (upd H1 (hp.objs.size + 1) (exo (hp.objs.size + 1) C none)) ⟨(hp.push (PySem.W.kdv_tup [u])).push (PySem.HandSPX.excO C hp.objs.size), g, dr, tk, os⟩ := I1.laid (t' := tk) kk hsz (exo_ok hget)
    have hus : [u].length ≤ sizeLine := by rw [sizeLine_eq]; exact (by decide : (1 : Nat) ≤ 16777216)
    obtain ⟨oc, od, dV, kV, doc, pm, an, cdv, ct, osl, rfl, lk, hcd, _, _⟩ := Fd.ex
    have bi := hb _ [.ref (hp.objs.size + 1), u] I2.kIn rfl
    rw [List.append_nil] at bi
    have run := LamX.run_ofS (CX := C8.CX0) (A := X.A.under (.builtin "type.__call__" ⟨.ref C :: [u], []⟩)) (outer := X.stack) (vs := [.ref (hp.objs.size + 1), v]) (k := 0) (Q := fun z H' => z = .non ∧ ∃ d, H1 d = none ∧ d ≠ hp.objs.size + 1 ∧ H' = upd (upd (upd (upd H1 (hp.objs.size + 1) (exo (hp.objs.size + 1) C none)) d (exd d [])) (hp.objs.size + 1) (exo (hp.objs.size + 1) C (some d))) d (exd d [(f, v)]))
      (E := fun _ _ _ => False) lk hcd Sc (hr.make C [u] []) (I2.env0.make C [u] []) bi (.cons rfl (.cons ru .nil)) rfl fun hr2 => by
        refine ⟨_, pss_one (ps_stG (f := f) (SF := SF) (T := T) (pe_var (i := 0) rfl v1 h1 h2) (pe_var (i := 1) rfl v2 h3 h4) (hsw _)), ?_⟩
        refine ⟨v, rfl, .ref (hp.objs.size + 1), rfl, _, rfl, upd_same, fun dx n ne => ⟨rfl, dx, ?_, ne, rfl⟩⟩
        rw [upd_ne ne] at n
        exact n
    refine wpAny_call (new_call FB hT hC (PySem.W.looks_findIn I1.kIn T.fi) (fun z => PySem.W.bind_fn I1.kIn z T.ty) hus (codeAny_mono run fun r s' hq => ?_))
    cases r with
    | error er => exact hq.elim
    | ok fl =>
      cases fl with
      | next => exact hq.elim
      | brk => exact hq.elim
      | cont => exact hq.elim
      | ret u2 =>
        obtain ⟨z, H2, os2, bare2, un2, hok2, rv, ez, d, nd, nda, eH⟩ := hq
        subst ez eH
        obtain ⟨h2, g2, d2, t2, os'⟩ := s'
        refine ⟨rv, mk_end (raises_own T.exC T.tyC) I1 hsz kk un2 hok2 os2 bare2 (fs := [(f, v)]) (d := d) ?_ upd_same nd ?_⟩
        · rw [upd_ne (Ne.symm nda), upd_same]
        · have e1 : upd (del (upd (upd (upd (upd H1 (hp.objs.size + 1) (exo (hp.objs.size + 1) C none)) d (exd d [])) (hp.objs.size + 1) (exo (hp.objs.size + 1) C (some d))) d (exd d [(f, v)])) (hp.objs.size + 1)) d (.xd [(f, v)]) = upd H1 d (.xd [(f, v)]) := by
            funext b
            by_cases hb : b = d
            · rw [hb, upd_same, upd_same]
            · rw [upd_ne hb, upd_ne hb]
              by_cases hb2 : b = hp.objs.size + 1
              · rw [hb2, del_same, hn]
              · rw [del_ne hb2, upd_ne hb, upd_ne hb2, upd_ne hb, upd_ne hb2]
          rw [e1]
          exact q1 d nd
end
end M

namespace M
open PySem PySem.Spec PyProof.Rows L2

/-! ### try: several clauses, some with a name for the exception -/
abbrev HTS := Addr → Value → Option Addr → TS
/-- the frame's ends, the clause's name unbound -/
def offE (D : Ends) : Option Nat → Ends
  | none => D
  | some i => { nx := fun τ G => D.nx (τ.set i none) G, rt := D.rt, bk := fun τ G => D.bk (τ.set i none) G, ct := fun τ G => D.ct (τ.set i none) G }
def onE (τ : L2.St) (a : Addr) : Option Nat → L2.St
  | none => τ
  | some i => τ.set i (some (.ref a))
def wMix (K : PySem.W.Frag) (Wout : WX) (D : Ends) : List (Value × Option Nat × HTS) → WX
  | [] => Wout
  | (c, i, ts) :: r => fun cls d τ G => ∃ b, PySem.W.exmOne K cls c = some b ∧ (b = true → ∀ a, G a = none → ts a cls d (offE D i) (onE τ a i) G) ∧ (b = false → wMix K Wout D r cls d τ G)
inductive HdMix (X : Cx) : List ExceptHandler → List (Value × Option Nat × HTS) → Prop
  | nil : HdMix X [] []
  | cons {x : Str} {c : Value} {i : Option Nat} {n : Option Str} {ts : HTS} {b : Stmt} {rest : List Stmt} {np hp : Pos} {hds : List ExceptHandler} {l : List (Value × Option Nat × HTS)} (hc : Names X x c)
      (hi : match i, n with | none, none => True | some j, some y => X.N[j]? = some y ∧ X.env.kindOf y = some .local | _, _ => False)
      (hb : ∀ (a : Addr) (oe : Obj) (cls : Value) (d : Option Addr) (pn : List (Addr × Obj)), Zc cls d oe → (∃ fs, oe.data = .fields fs) → PSs (X.suite a ((a, oe) :: pn)) (b :: rest) (ts a cls d)) (r : HdMix X hds l) :
      HdMix X (.ExceptHandler (some (.Name x np)) n (b :: rest) hp :: hds) ((c, i, ts) :: l)
section
variable {X : Cx} {pins : List (Addr × Obj)} {τ : L2.St} {G : Hp} {Wout : WX} {D : Ends} {a : Addr} {B : Heap} {z z1 : Shared} {h3 : Heap} {cls : Value} {d : Option Addr}
/-- the exception flies over the frame, its ground is B -/
structure Flown (X : Cx) (pins : List (Addr × Obj)) (τ : L2.St) (G : Hp) (a : Addr) (B : Heap) (z z1 : Shared) (h3 : Heap) (cls : Value) (d : Option Addr) : Prop where
  inv : Inv X pins τ G z
  nb : ∀ b o, z.heap.get? b = some o → b ∉ frs X.stack → B.get? b = some o
  up : z.heap.UpToSlots h3
  na : G a = none
  os : z1.os = z.os
  ag : AllBare z1.gens
  fl : HandSPX.FlyingZ B (X.env :: X.outer) a (Zc cls d) h3
theorem Flown.off (f : Flown X pins τ G a B z z1 h3 cls d) (hf : X.env.frame = some X.env.locals) : a ≠ X.env.locals ∧ a ∉ X.fs := by
  obtain ⟨oe, vs, he, hz, hd⟩ := f.fl.there
  have key : a ∉ frs (X.env :: X.outer) := fun hm => by
    obtain ⟨_, o2, e2, q⟩ := (f.fl.2.2.1).mem hm
    rw [he] at e2
    cases e2
    exact q _ hd
  refine ⟨fun e => key (List.mem_filterMap.mpr ⟨X.env, List.mem_cons_self, by rw [hf, e]⟩), fun hm => key ?_⟩
  obtain ⟨e, h1, h2⟩ := List.mem_filterMap.mp hm
  exact List.mem_filterMap.mpr ⟨e, List.mem_cons_of_mem _ h1, h2⟩
theorem mix_go (hs : X.stack = X.env :: X.outer) (hf : X.env.frame = some X.env.locals) (hN : X.N.Nodup) (tk : Takes X Wout) {hds : List ExceptHandler} {l : List (Value × Option Nat × HTS)} (hh : HdMix X hds l)
    (f : Flown X pins τ G a B z z1 h3 cls d) (w : wMix X.K Wout D l cls d τ G) : wpAny (model X.prog X.w) X.A (handleBy (.ref a) X.env hds) (SP X pins D) X.xe { z1 with heap := h3 } := by
  have ok := f.inv.ok
  obtain ⟨nL, nF⟩ := f.off hf
  induction hh with
  | nil =>
    refine wpAny_handleBy_nil ?_
    obtain ⟨_, _, _, oe, fs, T, _, _, he, hz, hd, ht, _⟩ := id f.fl
    unfold PySem.passOn
    refine wpAny_bind (wpAny_field he hd ht ?_)
    rw [if_neg (by simp : ¬ ((Value.ref T == Value.none) = true))]
    have fin : wpAny (model X.prog X.w) X.A (setFlight (.ref a) X.env.frame) (fun _ y => wpAny (model X.prog X.w) X.A (throw (.ref a) : Sem Flow) (SP X pins D) X.xe y) X.xe { z1 with heap := h3 } := by
      rw [hf]
      refine HandSPX.setFlight_upZ f.fl fun h4 hh4 up4 => wpAny_throw (tk _ _ ⟨a, B, z, pins, τ, G, cls, d, rfl, f.inv, f.nb, f.up.trans up4, ?_, f.na, f.os, f.ag, w⟩)
      exact .inr (.inr (by rw [hs]; exact hh4))
    first
      | exact wpAny_bind (wpAny_pure (wpAny_bind fin))
      | exact wpAny_bind fin
  | @cons x c i n ts b rest np hp hds2 l2 hc hi hb r ih =>
    obtain ⟨k, w1, w2, w3⟩ := w
    obtain ⟨oe, fs, he, hz, hd⟩ := f.fl.there
    have J : Inv X pins τ G { z1 with heap := h3 } := f.inv.landed f.nb f.fl.1 f.up f.os f.ag
    have S0 := J.suite he hd f.na nL nF
    have LT : PySem.W.Looks (model X.prog X.w) h3 (typeOf (.ref a)) cls := fun A Q E s kp q => wpAny_typeOf_ref (kp _ _ he) (by rw [hz.1]; exact q)
    refine wpAny_handleBy_cons (codeAny_handlers_test ?_) (by intro q; cases q)
    have named : ∀ {Q : Value → Shared → Prop} {E : Value → Shared → Prop}, Q c { z1 with heap := h3 } → wpAny (model X.prog X.w) (X.A.mark (some (.ref a))) (eval (.Name x np) X.env) Q E { z1 with heap := h3 } := fun {Q E} q => by
      rcases hc.2.2 with hm | ⟨hm, hv, hn⟩
      · exact ld_glob (X := X.suite a ((a, oe) :: (X.pn ++ pins))) S0 hc.1 hm q hc.2.1
      · exact ld_blt (X := X.suite a ((a, oe) :: (X.pn ++ pins))) S0 hc.1 hm hv q hn hc.2.1
    refine named ((PySem.W.exm_one (M := model X.prog X.w) J.kIn LT w1).here ?_)
    cases k with
    | false =>
      show wpAny _ X.A (handleBy (.ref a) X.env hds2) _ _ _
      exact ih (w3 rfl)
    | true =>
      have wt := w2 rfl a f.na
      have body : ∀ {h4 : Heap}, HandSPX.FlyingZ B (X.env :: X.outer) a (Zc cls d) h4 → h3.UpToSlots h4 → ∃ oe4, Inv (X.suite a ((a, oe4) :: (X.pn ++ pins))) [] τ G { z1 with heap := h4 } ∧ PSs (X.suite a ((a, oe4) :: (X.pn ++ pins))) (b :: rest) (ts a cls d) := fun {h4} fl4 up4 => by
        obtain ⟨oe4, fs4, he4, hz4, hd4⟩ := fl4.there
        have J4 : Inv X pins τ G { z1 with heap := h4 } := f.inv.landed f.nb fl4.1 (f.up.trans up4) f.os f.ag
        exact ⟨oe4, J4.suite he4 hd4 f.na nL nF, hb a oe4 cls d _ hz4 ⟨_, hd4⟩⟩
      match i, n, hi, wt with
      | none, none, _, wt =>
        refine codeAny_handlers_suite (HandSPX.lands_againZ f.fl fun h4 fl4 up4 => ?_)
        obtain ⟨oe4, S4, P4⟩ := body fl4 up4
        refine wpAny_mono (P4.run [] _ _ G _ S4 wt) (fun fw y hy => ?_) (fun _ _ q => q.elim)
        cases fw with
        | ret u => obtain ⟨v, τ2, G2, S6, r6, q6⟩ := hy; exact ⟨v, τ2, G2, S6.unsuite ok, r6, q6⟩
        | next => obtain ⟨τ2, G2, S6, q6⟩ := hy; exact ⟨τ2, G2, S6.unsuite ok, q6⟩
        | brk => obtain ⟨τ2, G2, S6, q6⟩ := hy; exact ⟨τ2, G2, S6.unsuite ok, q6⟩
        | cont => obtain ⟨τ2, G2, S6, q6⟩ := hy; exact ⟨τ2, G2, S6.unsuite ok, q6⟩
      | some j, some y, hi, wt =>
        obtain ⟨hj, hl⟩ := hi
        refine codeAny_handlers_suite_as (HandSPX.lands_againZ f.fl fun h4 fl4 up4 => ?_)
        obtain ⟨oe4, S4, P4⟩ := body fl4 up4
        refine store_ok (X := X.suite a ((a, oe4) :: (X.pn ++ pins))) (v := .ref a) S4 hN hj (.inl hl) rfl (fun y5 S5 => ?_) (.inr hl)
        refine wpAny_mono (P4.run [] y5 _ G _ S5 wt) (fun fw y6 hy => ?_) (fun _ _ q => q.elim)
        have gone : ∀ {τ6 : L2.St} {G6 : Hp} {Q : Shared → Prop}, Inv (X.suite a ((a, oe4) :: (X.pn ++ pins))) [] τ6 G6 y6 → (∀ y7, Inv X pins (τ6.set j none) G6 y7 → Q y7) →
            wpAny (model X.prog X.w) X.A (do bindName X.env y .none; unbindBehindTheSuite X.env y hp) (fun _ y7 => Q y7) X.xe y6 := fun {τ6 G6 Q} S6 hq => gone_ok (S6.unsuite ok) hN hj hl hq
        cases fw with
        | ret u => obtain ⟨v, τ2, G2, S6, r6, q6⟩ := hy; exact gone S6 fun y7 J7 => ⟨v, _, G2, J7, r6, q6⟩
        | next => obtain ⟨τ2, G2, S6, q6⟩ := hy; exact gone S6 fun y7 J7 => ⟨_, G2, J7, q6⟩
        | brk => obtain ⟨τ2, G2, S6, q6⟩ := hy; exact gone S6 fun y7 J7 => ⟨_, G2, J7, q6⟩
        | cont => obtain ⟨τ2, G2, S6, q6⟩ := hy; exact gone S6 fun y7 J7 => ⟨_, G2, J7, q6⟩
      | none, some _, hi, _ => exact hi.elim
      | some _, none, hi, _ => exact hi.elim
theorem ps_mix {body : List Stmt} {h0 : ExceptHandler} {hds : List ExceptHandler} {l : List (Value × Option Nat × HTS)} {pos : Pos} {tb : WX → TS} (hs : X.stack = X.env :: X.outer) (hf : X.env.frame = some X.env.locals) (hN : X.N.Nodup) (tk : Takes X Wout)
    (hb : ∀ (W : WX) (pn : List (Addr × Obj)) (xe : Value → Shared → Prop), Takes (X.tr pn xe) W → PassesOwn (model X.prog X.w) X.A X.env xe → PSs (X.tr pn xe) body (tb W)) (hh : HdMix X (h0 :: hds) l) :
    PS X (.Try body (h0 :: hds) [] [] pos) fun D τ G => tb (wMix X.K Wout D l) D τ G := by
  constructor
  intro pins z τ G D I h
  have ok := I.ok
  have hfr : X.A.frames = some (X.env :: X.outer) := ok.frames.trans (by rw [hs])
  refine wpAny_Try_except ?_
  refine wpAny_mono ((hb (wMix X.K Wout D l) (X.pn ++ pins) (fun e z1 => wpAny (model X.prog X.w) X.A (noteFrame e X.env) (fun _ z2 => wpAny (model X.prog X.w) X.A (setFlight e none) (fun _ z3 => wpAny (model X.prog X.w) X.A (handleBy e X.env (h0 :: hds)) (SP X pins D) X.xe z3) X.xe z2) X.xe z1)
    (fun u z1 hx => ?_) PassesOwn.looking).run [] z τ G D (I.toTry _) h) (fun fw z1 hy => ?_) (fun _ _ q => q)
  · obtain ⟨a, B, zI, pins2, τ2, G2, cls, d, rfl, J2, nb, up, sky, na, os, ag, w⟩ := hx
    have J : Inv X pins τ2 G2 zI := J2.ofTry ok
    rw [show (X.tr (X.pn ++ pins) _).stack = X.env :: X.outer from hs] at sky
    show wpAny (model X.prog X.w) X.A (noteFrame (.ref a) X.env) _ _ _
    exact Sky.land Zc.steady hfr hf sky fun h3 fl up3 => mix_go hs hf hN tk hh ⟨J, nb, up.trans up3, na, os, ag, fl⟩ w
  · cases fw with
    | ret u => obtain ⟨v, τ2, G2, J2, r, q⟩ := hy; exact ⟨v, τ2, G2, J2.ofTry ok, r, q⟩
    | next => obtain ⟨τ2, G2, J2, q⟩ := hy; exact wpAny_execs_nil ⟨τ2, G2, J2.ofTry ok, q⟩
    | brk => obtain ⟨τ2, G2, J2, q⟩ := hy; exact ⟨τ2, G2, J2.ofTry ok, q⟩
    | cont => obtain ⟨τ2, G2, J2, q⟩ := hy; exact ⟨τ2, G2, J2.ofTry ok, q⟩
end
end M

namespace M
open PySem PySem.Spec PyProof.Rows L2

/-! ### raise -/
section
variable {X : Cx} {F : Fm} {ow ow' ob : List Nat}
def mRaise (c : Str) : Ms := fun e => .exc ⟨c, []⟩ e
def mRaise1 (c f : Str) (m : Mo PV) : Ms := fun e => SOut.of (m e) fun p e1 => .exc ⟨c, [(f, p)]⟩ e1
theorem pmt_raise {C : Addr} {B newId initId : String} {bmB : List Value} {x m : Str} {j : Nat} {p p2 pos pos' : Pos} (FB : ExcBaseFacts B newId initId bmB) (q : PySem.W.excIn X.K C bmB newId = true) (gC : X.mg x = some (.ref C)) (kC : PySem.W.keepIn X.K (.ref C) = true) (r : Raises X (.ref C))
    (tk : Takes X F.W) (hg : Gl X x) (hc : X.calm = true := by rfl) (hS : F.S = ⟨X.K, X.mg, F.S.T⟩ := by rfl) (hdb : (x == ("__debug__" : Str)) = false := by decide) :
    PS X (.Raise (some (.Call (.Name x p) [.Constant (.str m) j p2] [] pos)) none pos') (rdS F ow ow' ob (mRaise x)) :=
  (ps_raise hc tk (pmk_own FB q gC kC r hg hdb)).imp fun D σ H ⟨e, R, p⟩ => p σ ow H (.ref C) none KeepS.refl Stay.refl R ⟨by rw [hS]; exact gC, rfl⟩
theorem pmt_raise1 {C fI : Addr} {f : Str} {B newId : String} {bmB : List Value} {x qual self arg : Str} {a : Expr} {m : Mo PV} {fd : FuncData} {params : Arguments} {scope : Scope} {p p1 p2 p3 p4 pos pos' : Pos}
    (FB : PySem.HandNew.NewOf newId bmB) (SF : StoreFacts B bmB "object.__setattr__" "object") (T : XG X.K C fI f newId bmB)
    (Fd : FunD X.K "__init__" qual params [.Assign [.Attribute (.Name self p1) f p2] (.Name arg p3) p4] scope [] [] fI fd) (Sc : FnScope [self, arg] [self, arg] scope) (hb : L2.Binds X.K fd [self, arg] []) (hr : Room 2 X.A) (gC : X.mg x = some (.ref C)) (tk : Takes X F.W) (hg : Gl X x) (ha : PE X a (rd F ow m))
    (h1 : (self == ("__debug__" : Str)) = false) (h2 : (self == ("__classdict__" : Str)) = false) (h3 : (arg == ("__debug__" : Str)) = false) (h4 : (arg == ("__classdict__" : Str)) = false) (v1 : Vis scope self) (v2 : Vis scope arg)
    (hsw : ∀ env, swapsWith (.Name arg p3) (some (.Attribute (.Name self p1) f p2)) p4.line env = pure false)
    (hc : X.calm = true := by rfl) (hS : F.S = ⟨X.K, X.mg, F.S.T⟩ := by rfl) (hdb : (x == ("__debug__" : Str)) = false := by decide) (he : starEach [a] X.env = (false, eval a X.env) :: starEach [] X.env := by rfl) (hpl : (backTo pos (starEach [] X.env)).any (·.1) = false := by rfl) :
    PS X (.Raise (some (.Call (.Name x p) [a] [] pos)) none pos') (rdS F ow ow' ob (mRaise1 x f m)) :=
  (ps_raise hc tk (pmk_G FB SF T Fd Sc hb hr hg gC (pma_cons ha pma_nil he) h1 h2 h3 h4 v1 v2 hsw hdb he hpl)).imp fun D σ H ⟨e, R, p⟩ => by
    refine ⟨e, R, ?_⟩
    unfold mRaise1 at p
    have p2 := Post.stmt (f := fun p e1 => SOut.exc ⟨x, [(f, p)]⟩ e1) p
    unfold mCons mNil
    cases q : m e with
    | bad => rw [q] at p2; exact p2.elim
    | exc y e1 => rw [q] at p2; exact p2
    | ok v e1 =>
      rw [q] at p2
      intro H1 k1 R1 vs rs
      obtain ⟨w, rfl, rw'⟩ := rs.one
      refine ⟨w, rfl, fun d hd => ?_⟩
      have nd : ¬ Gd F.G ow σ d := fun z => (R1.tracked d z).ne hd
      refine p2 H1 k1 R1 σ ow (upd H1 d (.xd [(f, w)])) (.ref C) (some d) (KeepS.of (Keep.upd hd)) Stay.refl (R1.new hd) ⟨by rw [hS]; exact gC, nd, [(f, w)], upd_same, ?_⟩
      exact .cons (rw'.mono (Keep.upd hd) Less.refl) .nil
end
/-! ### a def that may raise -/
def runE (L : Nat) (ms : Ms) (ps : List PV) : Out PV := match ms (startE L ps) with
  | .nxt e => .ok .non e
  | .ret p e => .ok p e
  | .exc x e => .exc x e
  | _ => .bad
theorem fnE {P : Program} {w : World} {K : PySem.W.Frag} {mg : Str → Option Value} {T : List (Addr × Str)} {base : Heap} {x qual : Str} {params : Arguments} {body : List Stmt} {scope : Scope} {f : Addr} {fd : FuncData} {N ps : List Str} {k n : Nat} {oz : List Nat} {ms : Ms}
    (Fd : FunD K x qual params body scope [] [] f fd) (sc : FnScope N ps scope)
    (hb : ∀ (G : Addr → Prop) (cdv : Value) (A : Around) (outer : List Env) (s : Shared) (H : Hp) (E : XK), Room k (A.deeper (PyProof.Rows.envOfC qual scope s.heap.objs.size f cdv)) →
      PSs (cxOf (L2.CX P w) P w K mg base N qual scope f cdv A outer s H E) body (rdS ⟨⟨K, mg, T⟩, G, [], fun cls d _ H' => E cls d H'⟩ [] oz [] ms))
    (hn : ps.length = n := by rfl) (hN : n ≤ N.length := by decide) : FnOk P w K mg base (L2.CX P w) (k + 1) f fd ps (spM ⟨K, mg, T⟩ n [] (runE N.length ms)) := by
  refine Fd.ok sc (fun vs H Q E h => ?_) (fun cdv A outer s H vs Q E hr h => ?_)
  · obtain ⟨O, ps', hv, _⟩ := h
    rw [hv, hn]
  · obtain ⟨O, pv, hv, hp, pre, htb, h1, h2, h3, h4⟩ := h
    have eO : (fun a => O a ∧ ∀ k, k ∈ ([] : List Nat) → vs[k]? ≠ some (.ref a)) = O := funext fun a => propext ⟨fun h => h.1, fun h => ⟨h, fun k hk => by cases hk⟩⟩
    have R := er_start (io := []) (N := N) (S := ⟨K, mg, T⟩) hv hp hN pre htb h1 h2 h3
    rw [eO] at R
    refine ⟨_, hb O cdv A outer s H E hr, startE N.length pv, R, ?_⟩
    have ko : ∀ {H' : Hp} {σ' : L2.St} {oz' : List Nat}, KeepS [] (L2.start N vs) H oz' σ' H' → Keep (fun a => ∃ k, k ∈ ([] : List Nat) ∧ vs[k]? = some (.ref a)) H H' := fun {H' σ' oz'} ks => ⟨fun a o e _ nt => (ks.kp a o e own_nil nt).1⟩
    unfold runE at h4
    cases q : ms (startE N.length pv) with
    | nxt e =>
      simp only [q] at h4
      exact fun σ' H' ks st R' => h4 .non H' (ko ks) R'.tb .non fun k p' hk _ => by cases hk
    | ret p e =>
      simp only [q] at h4
      intro v H' kk tbs ioat rv
      exact h4 v H' ⟨fun a o e1 n nt => kk.kp a o e1 own_nil nt⟩ tbs (rv.mono Keep.refl fun a _ oa => .inl oa) fun k p' hk _ => by cases hk
    | exc z e =>
      simp only [q] at h4
      intro σ' oz' H' cls d ks st R' xa
      refine h4 cls d H' (ko ks) R'.tb ⟨xa.1, ?_⟩ fun k p' hk _ => by cases hk
      have x2 := xa.2
      cases d with
      | none => exact x2
      | some d =>
        obtain ⟨nd, fs, hd, hf⟩ := x2
        exact ⟨fun oa => nd (.inl oa), fs, hd, hf.mono Keep.refl fun a _ oa => .inl oa⟩
    | brk e => simp only [q] at h4
    | cnt e => simp only [q] at h4
    | bad => simp only [q] at h4
/-- a raising def's frame takes what its callees let out -/
theorem takesE {P : Program} {w : World} {K : PySem.W.Frag} {mg : Str → Option Value} {base : Heap} {N : List Str} {qual : Str} {scope : Scope} {f : Addr} {cdv : Value} {A : Around} {outer : List Env} {s : Shared} {H : Hp} {E : XK} :
    Takes (cxOf (L2.CX P w) P w K mg base N qual scope f cdv A outer s H E) fun cls d _ H' => E cls d H' := takes_of rfl rfl rfl rfl
theorem passE {X : Cx} {W : WX} {E : XK} (tk : Takes X W) (hW : ∀ cls d σ H, E cls d H → W cls d σ H) : Passes (L2.CX X.prog X.w) X E := passes_call tk hW

/-! ### frames behind new cells -/
theorem ER.keepA {S : Se} {G : Addr → Prop} {ow : List Nat} {σ : L2.St} {H H' : Hp} {e : En} (R : ER S G ow σ H e) (k : KeepA H H') (tb : LamX.Tabs S.T H') : ER S G ow σ H' e := by
  have same : ∀ a, Hd H a → H' a = H a := fun a ⟨o, z, nt⟩ => by rw [z]; exact k.kp a o z id nt
  refine ⟨fun i p h1 h2 => ?_, fun i p h1 h2 => ?_, R.off, R.sep, R.ng, fun a g => ?_, tb, R.len⟩
  · obtain ⟨v, h3, h4⟩ := R.val i p h1 h2
    exact ⟨v, h3, h4.mono k.of_all Less.refl⟩
  · obtain ⟨v, h3, h4⟩ := R.own i p h1 h2
    refine ⟨v, h3, h4.mono k.of_all Less.refl fun a z => ?_⟩
    subst z
    obtain ⟨b, e3, e4⟩ := h4.ref
    cases e3
    exact same _ e4
  · obtain ⟨o, q1, q2⟩ := R.gt a g
    exact ⟨o, k.kp a o q1 id q2, q2⟩
/-- an empty frame -/
theorem er0 {S : Se} {O : Addr → Prop} {σ : L2.St} {H : Hp} {L : Nat} (hl : σ.length = L) (pre : Pre H O) (tb : LamX.Tabs S.T H) : ER S O [] σ H (List.replicate L none) := by
  have no : ∀ (i : Nat) (p : PV), (List.replicate L (none : Option PV))[i]? ≠ some (some p) := fun i p h => by
    have := List.mem_of_getElem? h
    rw [List.mem_replicate] at this
    cases this.2
  exact ⟨fun i p h => absurd h (no i p), fun i p h => absurd h (no i p), fun i hi => (by cases hi), fun i j a hi => (by cases hi), fun i a hi => (by cases hi), pre, tb, by rw [List.length_replicate, hl]⟩
theorem er1 {S : Se} {O : Addr → Prop} {σ : L2.St} {H : Hp} {L i : Nat} {v : V} {p : PV} (hl : σ.length = L) (hi : i < L) (pre : Pre H O) (tb : LamX.Tabs S.T H) (rv : RV S H O v p) : ER S O [] (σ.set i (some v)) H ((List.replicate L none).set i (some p)) := by
  have rv' : RV S H (Gd O [] (σ.set i (some v))) v p := rv.mono Keep.refl fun a _ g => g.elim id fun ⟨j, hj, _⟩ => (by cases hj)
  refine ⟨fun j q h _ => ?_, fun j q _ hj => (by cases hj), fun j hj => (by cases hj), fun j k a hj => (by cases hj), fun j a hj => (by cases hj), pre, tb, by rw [List.length_set, List.length_set, List.length_replicate, hl]⟩
  by_cases hij : i = j
  · subst hij
    rw [List.getElem?_set_self (by rw [List.length_replicate]; exact hi)] at h
    cases h
    exact ⟨v, List.getElem?_set_self (by rw [hl]; exact hi), rv'⟩
  · rw [List.getElem?_set_ne hij] at h
    have := List.mem_of_getElem? h
    rw [List.mem_replicate] at this
    cases this.2

/-! ### a def that calls the lambda that it got -/
inductive Oc where
  | ok (p : PV) | exc (x : Ex)
/-- what a def makes of what its lambda comes to -/
def TTm (S : Se) (KO : Addr → Prop) (I : Hp → Prop) (g : Oc → Option PV) : (XK → Hp → VK → Prop) → Hp → VK → Prop := fun tl H Q => ∃ (O : Addr → Prop) (oc : Oc) (r : PV), g oc = some r ∧ (∀ H0, I H0 → LamX.Tabs S.T H0 ∧ Pre H0 O) ∧
  (match oc with
    | .ok p => ∀ E Q', (∀ v H', Keep KO H H' → I H' → RV S H' O v p → Q' v H') → tl E H Q'
    | .exc x => ∀ E Q', (∀ cls d H', Keep KO H H' → I H' → ExAt S H' O cls d x → E cls d H') → tl E H Q') ∧
  ∀ H0 v H', Keep KO H H0 → I H0 → KeepA H0 H' → LamX.Tabs S.T H' → RV S H' O v r → Q v H'
/-- LamX.GivesTo, of the parts of the maker's context -/
def GvA (P : Program) (w : World) (K : PySem.W.Frag) (mg : Str → Option Value) (base : Heap) (A : Around) (outer : List Env) (Ng : List Str) (x : Str) (sg : Scope) (g : Addr) (cdg : Value) (bg : List Stmt) (a q : Str) (TT : (XK → Hp → VK → Prop) → Hp → VK → Prop) : Prop :=
  ∀ (f c' : Addr) (s : Shared) (H : Hp) (Q : VK) (tl : XK → Hp → VK → Prop),
    (∀ (W : WX) (pn : List (Addr × Obj)) (xe : Value → Shared → Prop) (E : XK) (p1 p2 : Pos), Takes ((cxOf C8.CX0 P w K mg base Ng x sg g cdg A outer s H C8.E0).tr pn xe) W → (∀ cls d σ' H', E cls d H' → W cls d σ' H') →
      PE ((cxOf C8.CX0 P w K mg base Ng x sg g cdg A outer s H C8.E0).tr pn xe) (.Call (.Name a p1) [] [] p2) (fun σZ HZ Q => σZ[0]? = some (some (.ref f)) ∧ HZ c' = some (LamX.CodeO c' q) ∧ tl E HZ Q)) →
    H c' = some (LamX.CodeO c' q) → TT tl H Q →
    ∃ t, PSs (cxOf C8.CX0 P w K mg base Ng x sg g cdg A outer s H C8.E0).nox bg t ∧ t { nx := fun _ H' => Q .non H', rt := Q } (L2.start Ng [.ref f]) H
structure DnL (P : Program) (w : World) (K : PySem.W.Frag) (mg : Str → Option Value) (T : List (Addr × Str)) (base : Heap) (x : Str) (k : Nat) (g : Oc → Option PV) : Prop where
  ex : ∃ (h : Addr) (Ng : List Str) (a : Str) (pg : Arguments) (bg : List Stmt) (sg : Scope) (dV kV doc pm cdv ct oc : Value) (an od : Option Addr) (osl : Array (Option Value)),
    mg x = some (.ref h) ∧ PySem.W.keepIn K (.ref h) = true ∧ K.lookup h = some ⟨oc, od, .func (PySem.W.fnOf x x pg bg sg dV kV doc pm an cdv ct), osl⟩ ∧ PySem.W.codeIn K cdv x = true ∧ L2.Binds K (PySem.W.fnOf x x pg bg sg dV kV doc pm an cdv ct) [a] [] ∧
    FnScope Ng [a] sg ∧ Ng[0]? = some a ∧ Vis sg a ∧ (a == ("__debug__" : Str)) = false ∧ (a == ("__classdict__" : Str)) = false ∧
    ∀ (A : Around) (outer : List Env) (q : Str) (KO : Addr → Prop) (I : Hp → Prop), Room (k + 2) A → A.guards = some [] → GvA P w K mg base A outer Ng x sg h cdv bg a q (TTm ⟨K, mg, T⟩ KO I g)
def mLam (g : Oc → Option PV) (mb : Mo PV) : Mo PV := fun e => match mb e with
  | .ok p e1 => lift (g (.ok p)) e1
  | .exc x e1 => lift (g (.exc x)) e1
  | .bad => .bad
theorem pm_lam {X : Cx} {F : Fm} {ow : List Nat} {x : Str} {k : Nat} {g : Oc → Option PV} {mb : Mo PV} {c P : Addr} {params : Arguments} {body : Expr} {scope : Scope} {p lpos pos : Pos} (D : DnL X.prog X.w X.K X.mg F.S.T X.base x k g) (hr : Room (k + 2) X.A) (hgd : X.A.guards = some []) (hg : Gl X x)
    (TB : LamX.TabB X.base X.mg c P) (hcode : X.env.code = .ref c) (hmT : (P, X.env.qual ++ "<lambda>") ∈ F.S.T) (hu : ∀ p ∈ F.S.T, p.1 = P → p.2 = X.env.qual ++ "<lambda>") (L : LamX.LamS X.env.scope scope)
    (hbind : ∀ (q : Str) (cl : List (Str × Addr)) (pm cv ctv : Value), bindArgs (PySem.W.kla_fn "<lambda>" q params body scope cl pm cv ctv) ⟨[], []⟩ = pure [])
    (hbody : ∀ (A : Around) (outer : List Env) (s : Shared) (H : Hp) (E : XK) (f c' : Addr), Room k (A.deeper (LamX.lamEnv X scope s.heap.objs.size f c')) → PE (LamX.lamCx X A outer s H E scope f c') body (rd ⟨F.S, F.G, F.io, fun cls d _ H' => E cls d H'⟩ ow mb))
    (hdef : defaultsOf params X.env = ([], []) := by rfl) (hS : F.S = ⟨X.K, X.mg, F.S.T⟩ := by rfl) (hdb : (x == ("__debug__" : Str)) = false := by decide) :
    PE X (.Call (.Name x p) [.Lambda params body scope lpos] [] pos) (rd F ow (mLam g mb)) := by
  obtain ⟨h, Ng, a, pg, bg, sg, dV, kV, doc, pm, cdv, ct, oc, an, od, osl, hm, hk, lk, hcg, hb, Sg, hNg, hva, hd1, hd2, hG⟩ := D.ex
  have key : ∀ j : (Addr → Prop) × (Hp → Prop), PE X (.Call (.Name x p) [.Lambda params body scope lpos] [] pos) (LamX.tLam F.S.T (TTm ⟨X.K, X.mg, F.S.T⟩ j.1 j.2 g) fun E => rd ⟨F.S, F.G, F.io, fun cls d _ H' => E cls d H'⟩ ow mb) := fun j =>
    LamX.pe_lamcall hg hm hk lk hcg hb Sg hNg hva (hG X.A X.stack _ j.1 j.2 hr hgd) TB hcode hmT hu hr L hdef hbind hbody hdb hd1 hd2
  refine (pe_some key).imp fun σ H Q h => ?_
  obtain ⟨e, R, q⟩ := h
  unfold mLam at q
  have fin : ∀ {oc : Oc} {e1 : En} {H1 : Hp}, KeepA H H1 → Post F ow σ H (lift (g oc) e1) (fun p _ H' => ∀ v, RV F.S H' (Gd F.G ow σ) v p → Q v H') →
      ∃ r, g oc = some r ∧ ∀ H0 v H', Keep (Own ow σ) H1 H0 → ER F.S F.G ow σ H0 e1 → KeepA H0 H' → LamX.Tabs F.S.T H' → RV F.S H' (Gd F.G ow σ) v r → Q v H' := fun {oc e1 H1} k1 z => by
    cases hgo : g oc with
    | none => rw [hgo] at z; exact z.elim
    | some r =>
      rw [hgo] at z
      exact ⟨r, rfl, fun H0 v H' kk R0 ka tb rv => z H' ((k1.of_all.trans kk).trans ka.of_all) (R0.keepA ka tb) v rv⟩
  cases hmb : mb e with
  | bad => rw [hmb] at q; exact q.elim
  | ok pv e1 =>
    rw [hmb] at q
    refine ⟨⟨Own ow σ, fun H0 => ER F.S F.G ow σ H0 e1⟩, R.tb, fun H1 en T1 => ?_⟩
    have kA : KeepA H H1 := ⟨fun a o z _ nt => en a o z nt⟩
    obtain ⟨r, hr1, hr2⟩ := fin (oc := .ok pv) (H1 := H1) kA q
    refine ⟨Gd F.G ow σ, .ok pv, r, hr1, fun H0 R0 => ⟨R0.tb, R0.tracked⟩, fun E Q' hQ => ⟨e, R.keepA kA T1, ?_⟩, fun H0 v H' z1 z2 z3 z4 rv => hr2 H0 v H' z1 z2 z3 z4 (by rw [hS]; exact rv)⟩
    rw [hmb]
    intro H' k2 R2 v rv
    exact hQ v H' k2 R2 (by rw [← hS]; exact rv)
  | exc z e1 =>
    rw [hmb] at q
    refine ⟨⟨Own ow σ, fun H0 => ER F.S F.G ow σ H0 e1⟩, R.tb, fun H1 en T1 => ?_⟩
    have kA : KeepA H H1 := ⟨fun a o z _ nt => en a o z nt⟩
    obtain ⟨r, hr1, hr2⟩ := fin (oc := .exc z) (H1 := H1) kA q
    refine ⟨Gd F.G ow σ, .exc z, r, hr1, fun H0 R0 => ⟨R0.tb, R0.tracked⟩, fun E Q' hQ => ⟨e, R.keepA kA T1, ?_⟩, fun H0 v H' z1 z2 z3 z4 rv => hr2 H0 v H' z1 z2 z3 z4 (by rw [hS]; exact rv)⟩
    rw [hmb]
    intro H' cls d k2 R2 xa
    exact hQ cls d H' k2 R2 (by rw [← hS]; exact xa)
end M

namespace M
open PySem PySem.Spec PyProof.Rows L2

def valS : SOut → Option PV
  | .ret p _ => some p
  | _ => none
theorem valS_some {o : SOut} {r : PV} (h : valS o = some r) : ∃ e, o = .ret r e := by
  cases o with
  | ret p e => cases h; exact ⟨e, rfl⟩
  | _ => cases h
/-- a clause: its class, the slot of its name, its mirror (a, d: where the exception and its dict are; c: its class's name) -/
structure Hn where
  c : Str
  al : Option Nat
  ms : Addr → Addr → Str → Ms
def e0H (L : Nat) (h : Hn) (a d : Addr) (x : Ex) : En := match h.al with
  | none => List.replicate L none
  | some i => (List.replicate L none).set i (some (.exn a d x.c x.fs))
def pick (xm : Str → Str → Option Bool) : List Hn → Str → Option Hn
  | [], _ => none
  | h :: t, c => match xm c h.c with
    | some true => some h
    | some false => pick xm t c
    | none => none
def gL (xm : Str → Str → Option Bool) (L : Nat) (okf : PV → Option PV) (hs : List Hn) : Oc → Option PV
  | .ok p => okf p
  | .exc x => match pick xm hs x.c with
    | some h => if h.al ≠ none ∧ x.fs = [] then none else valS (h.ms 0 0 x.c (e0H L h 0 0 x))
    | none => none
/-- what is told of a clause's suite -/
def tsH (S : Se) (L : Nat) (h : Hn) : HTS := fun a cls d D σ H => σ.length = L → ∃ (O : Addr → Prop) (xc : Str) (dd : Addr), S.mg xc = some cls ∧ (d = some dd ∨ h.al = none) ∧ rdS ⟨S, O, [], fun _ _ _ _ => False⟩ [] [] [] (h.ms a dd xc) D σ H
theorem suite_of {X : Cx} {a : Addr} {oe : Obj} {pn : List (Addr × Obj)} {S : Se} {h : Hn} {body : List Stmt} {cls : Value} {d : Option Addr} (hp : ∀ (O : Addr → Prop) (xc : Str) (dd : Addr), S.mg xc = some cls → (d = some dd ∨ h.al = none) → PSs (X.suite a ((a, oe) :: pn)) body (rdS ⟨S, O, [], fun _ _ _ _ => False⟩ [] [] [] (h.ms a dd xc))) :
    PSs (X.suite a ((a, oe) :: pn)) body (tsH S X.N.length h a cls d) := by
  constructor
  intro pins s σ H D I q
  obtain ⟨O, xc, dd, h1, h2, h3⟩ := q I.len
  exact (hp O xc dd h1 h2).run pins s σ H D I h3
/-- what is told of the classes -/
structure XmOk (K : PySem.W.Frag) (mg : Str → Option Value) (xm : Str → Str → Option Bool) : Prop where
  ok : ∀ r h b cls c, xm r h = some b → mg r = some cls → mg h = some c → PySem.W.exmOne K cls c = some b
  ref : ∀ r h b, xm r h = some b → ∃ C, mg r = some (.ref C)
theorem mix_pick {S : Se} {xm : Str → Str → Option Bool} {L : Nat} {D : Ends} {Q : VK} {cls : Value} {d : Option Addr} {σ : L2.St} {H : Hp} {O : Addr → Prop} {z : Ex} {r : PV} {h0 : Hn} {Wout : WX} (hx : XmOk S.K S.mg xm) (hrt : D.rt = Q)
    (xa : ExAt S H O cls d z) (pre : Pre H O) (tb : LamX.Tabs S.T H) (hal : h0.al ≠ none → z.fs ≠ []) (hL : ∀ i, h0.al = some i → i < L) (hv : ∀ a dd, valS (h0.ms a dd z.c (e0H L h0 a dd z)) = some r)
    (fin : ∀ v H', KeepA H H' → LamX.Tabs S.T H' → RV S H' O v r → Q v H') : ∀ (hs : List Hn) (vs : List Value), (∀ p ∈ hs.zip vs, S.mg p.1.c = some p.2) → hs.length = vs.length → pick xm hs z.c = some h0 →
      wMix S.K Wout D ((hs.zip vs).map fun p => (p.2, p.1.al, tsH S L p.1)) cls d σ H
  | [], _, _, _, hp => by cases hp
  | h :: hs, [], _, hl, _ => by cases hl
  | h :: hs, v :: vs, hm, hl, hp => by
    have hmv := hm (h, v) (by simp)
    unfold pick at hp
    cases q : xm z.c h.c with
    | none => rw [q] at hp; cases hp
    | some b =>
      rw [q] at hp
      refine ⟨b, hx.ok _ _ _ _ _ q xa.1 hmv, fun hb a ha => ?_, fun hb => ?_⟩
      · subst hb
        have e0 := Option.some.inj hp
        subst e0
        intro hlen
        obtain ⟨C, hC⟩ := hx.ref _ _ _ q
        have hcl : cls = .ref C := by have := xa.1; rw [hC] at this; exact (Option.some.inj this).symm
        have post : ∀ (dd : Addr) (σ' : L2.St) (D' : Ends), D'.rt = Q → PostS ⟨S, O, [], fun _ _ _ _ => False⟩ [] [] [] σ' H D' (h.ms a dd z.c (e0H L h a dd z)) := fun dd σ' D' hD => by
          obtain ⟨e, he⟩ := valS_some (hv a dd)
          rw [he]
          intro v H' kk tbs _ rv
          rw [hD]
          exact fin v H' ⟨fun a o z _ nt => kk.kp a o z own_nil nt⟩ tbs (rv.mono Keep.refl fun a _ oa => .inl oa)
        cases hi : h.al with
        | none =>
          rw [hi] at hlen
          refine ⟨O, z.c, 0, xa.1, .inr rfl, List.replicate L none, er0 hlen pre tb, ?_⟩
          have := post 0 σ (offE D none) hrt
          unfold e0H at this
          rw [hi] at this
          exact this
        | some i =>
          rw [hi] at hlen
          have hne := hal (by rw [hi]; simp)
          have x2 := xa.2
          cases d with
          | none => exact absurd x2 hne
          | some dd =>
            obtain ⟨nd, fs, hd, hf⟩ := x2
            have hlen' : σ.length = L := by
              have : (σ.set i (some (.ref a))).length = L := hlen
              rwa [List.length_set] at this
            refine ⟨O, z.c, dd, xa.1, .inl rfl, (List.replicate L none).set i (some (.exn a dd z.c z.fs)), er1 hlen' (hL i hi) pre tb (.exn nd hd hC hf), ?_⟩
            have := post dd (onE σ a (some i)) (offE D (some i)) hrt
            unfold e0H at this
            rw [hi] at this
            exact this
      · subst hb
        exact mix_pick hx hrt xa pre tb hal hL hv fin hs vs (fun p hp' => hm p (by simp only [List.zip_cons_cons]; exact List.mem_cons_of_mem _ hp')) (by simpa using hl) hp
/-- try: <first> except ..: return ..; then the rest -/
theorem gv_mix {P : Program} {w : World} {K : PySem.W.Frag} {mg : Str → Option Value} {T : List (Addr × Str)} {base : Heap} {A : Around} {outer : List Env} {Ng : List Str} {x : Str} {sg : Scope} {g : Addr} {cdv : Value} {a q : Str} {KO : Addr → Prop} {I : Hp → Prop} {first : Stmt} {h0 : ExceptHandler} {hds : List ExceptHandler} {rest : List Stmt} {pos : Pos}
    {xm : Str → Str → Option Bool} {okf : PV → Option PV} {hs : List Hn} {vs : List Value} {msr : Ms} (Kf : Ends → L2.St → V → Hp → Prop) (hx : XmOk K mg xm) (hvs : ∀ p ∈ hs.zip vs, mg p.1.c = some p.2) (hlen : hs.length = vs.length) (hN : Ng.Nodup) (h0N : Ng[0]? = some a)
    (hfirst : ∀ (X1 : Cx) (tA : TE), (∀ p1 p2, PE X1 (.Call (.Name a p1) [] [] p2) tA) → PSs X1 [first] fun D σ H => tA σ H fun v H' => Kf D σ v H')
    (hrest : ∀ (O : Addr → Prop) (s : Shared) (H : Hp), PSs (cxOf C8.CX0 P w K mg base Ng x sg g cdv A outer s H C8.E0).nox rest (rdS ⟨⟨K, mg, T⟩, O, [], fun _ _ _ _ => False⟩ [] [] [] msr))
    (hh : ∀ (s : Shared) (H : Hp), HdMix (cxOf C8.CX0 P w K mg base Ng x sg g cdv A outer s H C8.E0).nox (h0 :: hds) ((hs.zip vs).map fun p => (p.2, p.1.al, tsH ⟨K, mg, T⟩ Ng.length p.1)))
    (hK : ∀ (O : Addr → Prop) (D : Ends) (σ : L2.St) (p r : PV) (v : V) (H : Hp), okf p = some r → σ.length = Ng.length → Pre H O → LamX.Tabs T H → RV ⟨K, mg, T⟩ H O v p → (∀ v' H', KeepA H H' → LamX.Tabs T H' → RV ⟨K, mg, T⟩ H' O v' r → D.rt v' H') →
      Kf { D with nx := fun σ' H' => rdS ⟨⟨K, mg, T⟩, O, [], fun _ _ _ _ => False⟩ [] [] [] msr D σ' H' } σ v H)
    (hal : ∀ h ∈ hs, ∀ i, h.al = some i → i < Ng.length)
    (ind : ∀ h ∈ hs, ∀ (z : Ex) (r : PV), valS (h.ms 0 0 z.c (e0H Ng.length h 0 0 z)) = some r → ∀ a dd, valS (h.ms a dd z.c (e0H Ng.length h a dd z)) = some r) :
    GvA P w K mg base A outer Ng x sg g cdv (.Try [first] (h0 :: hds) [] [] pos :: rest) a q (TTm ⟨K, mg, T⟩ KO I (gL xm Ng.length okf hs)) := by
  intro f c' s H Q tl act hc ⟨O, oc, r, hg, hI, hact, hfin⟩
  have hE : ∀ W : WX, ∀ cls d σ' H', (∀ σ', W cls d σ' H') → W cls d σ' H' := fun W cls d σ' H' z => z σ'
  refine ⟨_, pss_cons (ps_mix (Wout := fun _ _ _ _ => False) (tb := fun W D σ H1 => (σ[0]? = some (some (.ref f)) ∧ H1 c' = some (LamX.CodeO c' q) ∧ tl (fun cls d H' => ∀ σ', W cls d σ' H') H1 fun v H' => Kf D σ v H')) rfl rfl hN LamX.takes0 (fun W pn xe tk _ => ?_) (hh s H)) (hrest O s H), ?_⟩
  · exact hfirst _ _ fun p1 p2 => act W pn xe _ p1 p2 tk (hE W)
  · have h0s : (L2.start Ng [V.ref f])[0]? = some (some (.ref f)) := start_of rfl
    have hlenS : (L2.start Ng [V.ref f]).length = Ng.length := by
      unfold L2.start
      have : 0 < Ng.length := (List.getElem?_eq_some_iff.mp h0N).1
      simp
      omega
    refine ⟨h0s, hc, ?_⟩
    cases oc with
    | ok p =>
      refine hact _ _ fun v H' kk iH rv => ?_
      obtain ⟨tb, pre⟩ := hI H' iH
      exact hK O { nx := fun _ H' => Q .non H', rt := Q } _ p r v H' hg hlenS pre tb rv fun v' H2 ka tb2 rv2 => hfin H' v' H2 kk iH ka tb2 rv2
    | exc z =>
      refine hact _ _ fun cls d H' kk iH xa σ' => ?_
      obtain ⟨tb, pre⟩ := hI H' iH
      have hg' : (match pick xm hs z.c with
        | some h => if h.al ≠ none ∧ z.fs = [] then none else valS (h.ms 0 0 z.c (e0H Ng.length h 0 0 z))
        | none => none) = some r := hg
      cases hp : pick xm hs z.c with
      | none => rw [hp] at hg'; cases hg'
      | some h1 =>
        rw [hp] at hg'
        have hmem : ∀ (l : List Hn), pick xm l z.c = some h1 → h1 ∈ l := by
          intro l
          induction l with
          | nil => intro e; cases e
          | cons b l ih =>
            intro e
            unfold pick at e
            split at e
            · cases e; exact List.mem_cons_self
            · exact List.mem_cons_of_mem _ (ih e)
            · cases e
        have hm1 := hmem hs hp
        by_cases hc2 : h1.al ≠ none ∧ z.fs = []
        · simp only [if_pos hc2] at hg'; cases hg'
        · simp only [if_neg hc2] at hg'
          exact mix_pick (S := ⟨K, mg, T⟩) (L := Ng.length) (Q := Q) hx rfl xa pre tb (fun hn hz => hc2 ⟨hn, hz⟩) (hal h1 hm1) (ind h1 hm1 z r hg') (fun v H2 ka tb2 rv => hfin H' v H2 kk iH ka tb2 rv) hs vs hvs hlen hp
/-! ### the three ways in which the lambda is called -/
theorem fst_ret {a : Str} {p1 p2 pos : Pos} (X1 : Cx) (tA : TE) (h : ∀ p1 p2, PE X1 (.Call (.Name a p1) [] [] p2) tA) : PSs X1 [.Return (some (.Call (.Name a p1) [] [] p2)) pos] fun D σ H => tA σ H fun v H' => D.rt v H' := pss_one (ps_ret (h p1 p2))
theorem fst_expr {a : Str} {p1 p2 pos : Pos} (X1 : Cx) (tA : TE) (h : ∀ p1 p2, PE X1 (.Call (.Name a p1) [] [] p2) tA) : PSs X1 [.Expr (.Call (.Name a p1) [] [] p2) pos] fun D σ H => tA σ H fun v H' => D.nx σ H' := pss_one (ps_expr (h p1 p2) rfl)
theorem fst_tup {a m : Str} {j k : Nat} {p1 p2 p3 p4 pos : Pos} (X1 : Cx) (tA : TE) (h : ∀ p1 p2, PE X1 (.Call (.Name a p1) [] [] p2) tA) :
    PSs X1 [.Return (some (.Tuple [.Constant (.str m) j p3, .Call (.Name a p1) [] [] p2] k p4)) pos] fun D σ H => tA σ H fun v H' => 2 ≤ sizeLine ∧ ∀ p, H' p = none → D.rt (.ref p) (upd H' p (.tup [.str m, v])) :=
  pss_one (ps_ret (pe_tup (pa_cons pe_str (pa_cons (h p1 p2) pa_nil rfl) rfl)))
end M

namespace M
open PySem PySem.Spec PyProof.Rows L2

/-! ### x, y, .. = a, b, .., some of the names captured -/
section
variable {X : Cx} {F : Fm} {ow ow' ob : List Nat}
theorem gv_len {S : Se} {H : Hp} {O : Addr → Prop} {fl : List Bool} {vs : List V} {l : List PV} {as : List Addr} (g : GV S H O fl vs l as) : vs.length = l.length := by
  induction g with
  | nil => rfl
  | v _ _ ih => exact congrArg Nat.succ ih
  | o _ _ ih => exact congrArg Nat.succ ih
theorem par_endT {fl : List Bool} {is : List Nat} {ml : Mo (List PV)} {D : Ends} {σ : L2.St} {H : Hp} (h : rdS F ow (parOw fl is ow) ob (mPar is ml) D σ H) (hi : ∀ i ∈ is, i ∉ ow) (hio : ∀ i ∈ is, i ∉ F.io) (hn : is.Nodup) :
    rdG F ow fl ml σ H fun vs H1 => vs.length = is.length ∧ ∀ p, H1 p = none → D.nx (setAllV is vs σ) (upd H1 p (.tup vs)) := by
  obtain ⟨e, R, p⟩ := h
  refine ⟨e, R, ?_⟩
  unfold mPar at p
  cases q : ml e with
  | bad => simp only [q, SOut.of] at p; exact p.elim
  | exc x e1 => simp only [q, SOut.of] at p; exact fun H1 c d k R1 x1 => p σ ow H1 c d (KeepS.of k) Stay.refl R1 x1
  | ok l e1 =>
    simp only [q, SOut.of] at p
    intro vs as H1 k1 fr nd R1 gv
    split at p
    · rename_i hl
      cases q2 : setAll is l e1 with
      | none => simp only [q2] at p; exact p.elim
      | some e2 =>
        simp only [q2] at p
        have nG : ∀ a ∈ as, ¬ F.G a := fun a ha g => fr a ha (R.gt a g)
        obtain ⟨a1, a2, a3⟩ := par_go (S := F.S) (G := F.G) (io := F.io) q2 (fun i h => ⟨hio i h, hl i h⟩) hn hi R1 gv nd nG
        refine ⟨by rw [gv_len gv, setAll_len q2], fun t ht => p _ _ ⟨fun a o e n nt => ?_⟩ a2 (a1.new ht)⟩
        refine ⟨by rw [upd_ne (ne_of_none (k1.kp a o e n nt) ht)]; exact k1.kp a o e n nt, fun z => ?_⟩
        rcases a3 a z with z | z
        · exact n z
        · exact fr a z ⟨o, e, nt⟩
    · exact p.elim
theorem gall_go : ∀ {is : List Nat} {vs : List V} {σ : L2.St} {H : Hp} {Q : L2.St → Hp → Prop}, vs.length = is.length → Q (setAllV is vs σ) H → gNms is vs σ H Q
  | [], [], σ, H, Q, _, q => ⟨rfl, q⟩
  | [], _ :: _, _, _, _, h, _ => by cases h
  | _ :: _, [], _, _, _, h, _ => by cases h
  | i :: is, v :: vs, σ, H, Q, h, q => ⟨v, vs, rfl, gall_go (is := is) (vs := vs) (by simpa using h) q⟩
theorem pmt_parT (fl : List Bool) (is : List Nat) {es as : List Expr} {ml : Mo (List PV)} {k k2 : Nat} {pt pt2 pos : Pos} (ha : PA X as (rdG F ow fl ml)) (hg : PGs X es (gNms is)) (how : ow' = parOw fl is ow := by rfl) (hi : ∀ k ∈ is, k ∉ ow := by decide) (hio : ∀ k ∈ is, k ∉ F.io := by first | decide | exact of_decide_eq_true rfl) (hnd : is.Nodup := by decide) (hlen : is.length ≤ 1000 := by decide) (hc : X.calm = true := by rfl)
    (hn : (assignEach es X.env).length = is.length := by rfl) (hst : (assignEach es X.env).findIdx? (·.1) = none := by rfl)
    (hs : swapsWithSole [.Tuple es k pt] (.Tuple as k2 pt2) pos.line X.env = pure false := by rfl) (hw : swappedStores [.Tuple es k pt] (.Tuple as k2 pt2) X.env = pure none := by rfl)
    (h1 : (assignEach [.Tuple es k pt] X.env).map (·.2) = [assign (.Tuple es k pt) X.env] := by rfl) : PS X (.Assign [.Tuple es k pt] (.Tuple as k2 pt2) pos) (rdS F ow ow' ob (mPar is ml)) := by
  subst how
  refine (ps_asg (pe_tup ha) (pg_tup (n := is.length) hc hg hn hst) hs hw h1).imp fun D σ H h => (par_endT h hi hio hnd).mono fun vs H1 ⟨g5, g6⟩ => ?_
  refine ⟨by rw [g5, sizeLine_eq]; omega, fun p hp => ⟨p, vs, rfl, .inl (.inl upd_same), g5, gall_go g5 (g6 p hp)⟩⟩

/-! ### the caught exception's field -/
def mAttr (a d : Addr) (xc cn : Str) (i : Nat) (f : Str) : Mo PV := fun e => match e[i]? with
  | some (some (.exn a' d' c l)) => if a' = a ∧ d' = d ∧ c = xc ∧ xc = cn then lift (l.lookup f) e else .bad
  | _ => .bad
theorem FVs.look {S : Se} {H : Hp} {O : Addr → Prop} {f : Str} : ∀ {fs : List (Str × V)} {l : List (Str × PV)} {p : PV}, FVs S H O fs l → l.lookup f = some p → ∃ v, fs.lookup f = some v ∧ RV S H O v p
  | _, _, p, .nil, h => by cases h
  | (k, v) :: vs, (_, q) :: l, p, .cons r t, h => by
    by_cases e : f = k
    · subst e
      simp [List.lookup] at h ⊢
      subst h
      exact r
    · have : (f == k) = false := by simpa using e
      simp only [List.lookup, this] at h ⊢
      exact FVs.look t h
theorem pm_attr {a C dd : Addr} {oe : Obj} {cls : Value} {d : Option Addr} {pn : List (Addr × Obj)} {i : Nat} {n f cn xc : Str} {p pos : Pos} (T : XfC X.K C) (hno : PySem.W.findIn X.K (.ref C) f = some none) (gC : X.mg cn = some (.ref C)) (hcl : X.mg xc = some cls) (hd : d = some dd ∨ False) (hz : Zc cls d oe) (hf : ∃ vs, oe.data = .fields vs)
    (hN : X.N[i]? = some n) (hv : Vis X.env.scope n) (hS : F.S = ⟨X.K, X.mg, F.S.T⟩ := by rfl) (h1 : (n == ("__debug__" : Str)) = false := by decide) (h2 : (n == ("__classdict__" : Str)) = false := by decide) :
    PE (X.suite a ((a, oe) :: pn)) (.Attribute (.Name n p) f pos) (rd F [] (mAttr a dd xc cn i f)) := by
  refine (pe_xf (e := .Name n p) T hno hz hf (pe_var (X := X.suite a ((a, oe) :: pn)) (i := i) hN hv h1 h2)).imp fun σ H Q ⟨e, R, q⟩ => ?_
  unfold mAttr at q
  split at q
  · rename_i a' d' c l he
    split at q
    · rename_i hc
      obtain ⟨rfl, rfl, rfl, rfl⟩ := hc
      obtain ⟨v, hσ, rv⟩ := R.val i _ he (by simp)
      cases rv with
      | exn nd hxd hmg hfv =>
        obtain ⟨r, hr, q2⟩ := q.of_lift R
        obtain ⟨w, hw, rw'⟩ := FVs.look hfv hr
        rw [hS] at hmg
        have hC := gC.symm.trans hmg
        have hcl2 := hcl.symm.trans gC
        refine ⟨_, hσ, rfl, Option.some.inj hcl2, d', _, w, hd.elim id fun z => z.elim, hxd, hw, ?_⟩
        exact q2 H (fun _ _ z => z) w rw'
    · exact q.elim
  · exact q.elim
end
@[simp] theorem mAttr_exn {a d : Addr} {xc : Str} {cn : Str} {i : Nat} {f : Str} {e : En} {a' d' : Addr} {c : Str} {l : List (Str × PV)} (h : e[i]? = some (some (.exn a' d' c l))) : mAttr a d xc cn i f e = if a' = a ∧ d' = d ∧ c = xc ∧ xc = cn then lift (l.lookup f) e else .bad := by
  unfold mAttr; rw [h]

/-! ### the three shapes -/
theorem hk_ret {K : PySem.W.Frag} {mg : Str → Option Value} {T : List (Addr × Str)} {L : Nat} {msr : Ms} (O : Addr → Prop) (D : Ends) (σ : L2.St) (p r : PV) (v : V) (H : Hp) (h : some p = some r) (_ : σ.length = L) (pre : Pre H O) (tb : LamX.Tabs T H) (rv : RV ⟨K, mg, T⟩ H O v p)
    (fin : ∀ v' H', KeepA H H' → LamX.Tabs T H' → RV ⟨K, mg, T⟩ H' O v' r → D.rt v' H') : (fun (D : Ends) (_ : L2.St) (v : V) (H' : Hp) => D.rt v H') { D with nx := fun σ' H' => rdS ⟨⟨K, mg, T⟩, O, [], fun _ _ _ _ => False⟩ [] [] [] msr D σ' H' } σ v H := by
  cases h
  exact fin v H Keep.refl tb rv
theorem hk_tup {m : Str} {K : PySem.W.Frag} {mg : Str → Option Value} {T : List (Addr × Str)} {L : Nat} {msr : Ms} (O : Addr → Prop) (D : Ends) (σ : L2.St) (p r : PV) (v : V) (H : Hp) (h : some (PV.tup [.str m, p]) = some r) (_ : σ.length = L) (pre : Pre H O) (tb : LamX.Tabs T H) (rv : RV ⟨K, mg, T⟩ H O v p)
    (fin : ∀ v' H', KeepA H H' → LamX.Tabs T H' → RV ⟨K, mg, T⟩ H' O v' r → D.rt v' H') : (fun (D : Ends) (_ : L2.St) (v : V) (H' : Hp) => 2 ≤ sizeLine ∧ ∀ p, H' p = none → D.rt (.ref p) (upd H' p (.tup [.str m, v]))) { D with nx := fun σ' H' => rdS ⟨⟨K, mg, T⟩, O, [], fun _ _ _ _ => False⟩ [] [] [] msr D σ' H' } σ v H := by
  cases h
  refine ⟨by rw [sizeLine_eq]; decide, fun q hq => fin _ _ (Keep.upd hq) (LamX.Tabs.ext tb (upd_keep hq)) ?_⟩
  exact RVs.newT (.cons (.str m) (.cons rv .nil)) hq pre
theorem hk_expr {K : PySem.W.Frag} {mg : Str → Option Value} {T : List (Addr × Str)} {L : Nat} {msr : Ms} (O : Addr → Prop) (D : Ends) (σ : L2.St) (p r : PV) (v : V) (H : Hp) (h : valS (msr (List.replicate L none)) = some r) (hl : σ.length = L) (pre : Pre H O) (tb : LamX.Tabs T H) (rv : RV ⟨K, mg, T⟩ H O v p)
    (fin : ∀ v' H', KeepA H H' → LamX.Tabs T H' → RV ⟨K, mg, T⟩ H' O v' r → D.rt v' H') : (fun (D : Ends) (σ : L2.St) (_ : V) (H' : Hp) => D.nx σ H') { D with nx := fun σ' H' => rdS ⟨⟨K, mg, T⟩, O, [], fun _ _ _ _ => False⟩ [] [] [] msr D σ' H' } σ v H := by
  refine ⟨List.replicate L none, er0 hl pre tb, ?_⟩
  obtain ⟨e, he⟩ := valS_some h
  rw [he]
  intro w H' kk tbs _ rw'
  exact fin w H' ⟨fun a o z _ nt => kk.kp a o z own_nil nt⟩ tbs (rw'.mono Keep.refl fun a _ oa => .inl oa)

/-! ### evaluation -/
def outX (mf : List PV → Out PV) (ps : List PV) : Option Oc := match mf ps with
  | .ok p _ => some (.ok p)
  | .exc x _ => some (.exc x)
  | .bad => none
def liftX (o : Option Oc) (e : En) : Out PV := match o with
  | some (.ok p) => .ok p e
  | some (.exc x) => .exc x e
  | none => .bad
@[simp] theorem liftX_ok {p : PV} {e : En} : liftX (some (.ok p)) e = .ok p e := (rfl)
@[simp] theorem liftX_exc {x : Ex} {e : En} : liftX (some (.exc x)) e = .exc x e := (rfl)
@[simp] theorem bind_exc {α β : Type} {x : Ex} {e : En} {f : α → En → Out β} : (Out.exc (α := α) x e).bind f = .exc x e := (rfl)
@[simp] theorem of_exc {α : Type} {x : Ex} {e : En} {f : α → En → SOut} : SOut.of (Out.exc (α := α) x e) f = .exc x e := (rfl)
@[simp] theorem seq_exc {x : Ex} {e : En} {b : Ms} : (SOut.exc x e).seq b = .exc x e := (rfl)
@[simp] theorem mRaise_ap {c : Str} {e : En} : mRaise c e = .exc ⟨c, []⟩ e := (rfl)
@[simp] theorem mRaise1_ap {c f : Str} {m : Mo PV} {e : En} : mRaise1 c f m e = SOut.of (m e) fun p e1 => .exc ⟨c, [(f, p)]⟩ e1 := (rfl)
/-- a def that may raise -/
class MayEx (mf : List PV → Out PV) : Prop where
  may : True
def dcallX (n : Nat) (mf : List PV → Out PV) (l : List Ar) (e : En) : Out PV := match valsOf l with
  | some ps => if ps.length = n then liftX (outX mf ps) e else .bad
  | none => .bad
@[simp] theorem mDefX_ap {n : Nat} {mf : List PV → Out PV} [N : MayEx mf] {ml : Mo (List Ar)} {e : En} : mDef n [] mf ml e = (ml e).bind fun l e1 => dcallX n mf l e1 := by
  unfold mDef
  cases q : ml e with
  | bad => rfl
  | exc x e1 => rfl
  | ok l e1 =>
    simp only [Out.bind]
    unfold dcallX
    cases hv : valsOf l with
    | none =>
      obtain ⟨k, hk, ho⟩ := vals_isO hv
      rw [if_neg]
      rintro ⟨h1, h2, -⟩
      have := (h2 k (by omega)).mpr ho
      cases this
    | some ps =>
      obtain ⟨h1, h2, h3, h4⟩ := vals_args (e := e1) hv
      have hl := vals_len hv
      by_cases hn : ps.length = n
      · rw [if_pos ⟨by omega, fun k _ => ⟨fun z => (by cases z), fun z => (by rw [h3 k] at z; cases z)⟩, by rw [h2]; exact List.nodup_nil⟩]
        simp only [h1, if_pos hn]
        unfold outX
        cases hm : mf ps with
        | ok p f => simp only [h4]; rfl
        | exc x f => simp only [h4]; rfl
        | bad => rfl
      · rw [if_neg (fun z => hn (by omega))]
        simp only [if_neg hn]
@[simp] theorem dcallX1 {mf : List PV → Out PV} {e : En} {a : PV} : dcallX 1 mf [.v a] e = liftX (outX mf [a]) e := (rfl)
@[simp] theorem dcallX2 {mf : List PV → Out PV} {e : En} {a b : PV} : dcallX 2 mf [.v a, .v b] e = liftX (outX mf [a, b]) e := (rfl)
@[simp] theorem dcallX3 {mf : List PV → Out PV} {e : En} {a b c : PV} : dcallX 3 mf [.v a, .v b, .v c] e = liftX (outX mf [a, b, c]) e := (rfl)
@[simp] theorem dcallX4 {mf : List PV → Out PV} {e : En} {a b c d : PV} : dcallX 4 mf [.v a, .v b, .v c, .v d] e = liftX (outX mf [a, b, c, d]) e := (rfl)
def lamO (g : Oc → Option PV) : Out PV → Out PV
  | .ok p e => lift (g (.ok p)) e
  | .exc x e => lift (g (.exc x)) e
  | .bad => .bad
@[simp] theorem mLam_ap {g : Oc → Option PV} {m : Mo PV} {e : En} : mLam g m e = lamO g (m e) := by
  unfold mLam lamO
  cases m e <;> rfl
@[simp] theorem lamO_ok {g : Oc → Option PV} {p : PV} {e : En} : lamO g (.ok p e) = lift (g (.ok p)) e := (rfl)
@[simp] theorem lamO_exc {g : Oc → Option PV} {x : Ex} {e : En} : lamO g (.exc x e) = lift (g (.exc x)) e := (rfl)
def valX : SOut → Option Oc
  | .nxt _ => some (.ok .non)
  | .ret p _ => some (.ok p)
  | .exc x _ => some (.exc x)
  | _ => none
theorem outX_runE {L : Nat} {ms : Ms} {ps : List PV} : outX (runE L ms) ps = valX (ms (startE L ps)) := by
  unfold outX runE valX
  cases ms (startE L ps) <;> rfl
@[simp] theorem valX_nxt {e : En} : valX (.nxt e) = some (.ok .non) := (rfl)
@[simp] theorem valX_ret {p : PV} {e : En} : valX (.ret p e) = some (.ok p) := (rfl)
@[simp] theorem valX_exc {x : Ex} {e : En} : valX (.exc x e) = some (.exc x) := (rfl)
end M

namespace M
open PySem PySem.Spec PyProof.Rows L2

/-! ### what is asked of the classes of exceptions -/
theorem all_at {l : List Bool} (h : l.all id = true) (i : Nat) {b : Bool} (e : l[i]? = some b) : b = true := List.all_eq_true.mp h b (List.mem_of_getElem? e)
def clsBody : Stmt → List Stmt
  | .ClassDef _ _ _ b _ _ _ _ _ _ _ => b
  | _ => []
abbrev lamQ (n : Str) : Str := n ++ ".<locals>." ++ "<lambda>"
def tabsB (l : List (Addr × Str)) : Bool := l.all fun p => l.all fun q => decide (p.1 = q.1 → p.2 = q.2)
theorem tabs_one {l : List (Addr × Str)} (h : tabsB l = true) {a : Addr} {x : Str} (hm : (a, x) ∈ l) : ∀ p ∈ l, p.1 = a → p.2 = x := fun p hp e => by
  have h1 := List.all_eq_true.mp h p hp
  have h2 := List.all_eq_true.mp h1 (a, x) hm
  exact of_decide_eq_true h2 e
structure XP (K : PySem.W.Frag) (mg : Str → Option Value) (x : Str) (newId : String) (bmB : List Value) : Prop where
  g : mg x = some (.ref (He.ga K x))
  q : PySem.W.excIn K (He.ga K x) bmB newId = true
  k : PySem.W.keepIn K (.ref (He.ga K x)) = true
  e : PySem.W.subIn K (.ref (He.ga K x)) (.type "BaseException") = some true
  t : PySem.W.typeIn K (.ref (He.ga K x)) = some (.type "type")
def xpB (K : PySem.W.Frag) (x : Str) (newId : String) (bmB : List Value) : Bool :=
  (He.Fa.glo x).ok K && (PySem.W.excIn K (He.ga K x) bmB newId && (PySem.W.keepIn K (.ref (He.ga K x)) && (decide (PySem.W.subIn K (.ref (He.ga K x)) (.type "BaseException") = some true) && decide (PySem.W.typeIn K (.ref (He.ga K x)) = some (.type "type")))))
structure XI (K : PySem.W.Frag) (mg : Str → Option Value) (x f : Str) (newId : String) (bmB : List Value) (qual : Str) (i : Stmt) : Prop where
  g : mg x = some (.ref (He.ga K x))
  xg : XG K (He.ga K x) (He.ma K (He.ga K x) "__init__") f newId bmB
  fd : ∃ fd, FunD K "__init__" qual (defArgs i) (defBody i) (defScope i) [] [] (He.ma K (He.ga K x) "__init__") fd
structure XF (K : PySem.W.Frag) (mg : Str → Option Value) (x f : Str) : Prop where
  g : mg x = some (.ref (He.ga K x))
  xf : XfC K (He.ga K x)
  no : PySem.W.findIn K (.ref (He.ga K x)) f = some none
def xfBB (K : PySem.W.Frag) (x f : Str) : Bool := (He.Fa.glo x).ok K && (xfB K (He.ga K x) && decide (PySem.W.findIn K (.ref (He.ga K x)) f = some none))
def xmOf : List (Str × Str × Bool) → Str → Str → Option Bool
  | [], _, _ => none
  | (a, b, k) :: l, r, h => if r = a ∧ h = b then some k else xmOf l r h
def xmB (K : PySem.W.Frag) (l : List (Str × Str × Bool)) : Bool := l.all fun t => (He.Fa.glo t.1).ok K && ((He.Fa.glo t.2.1).ok K && decide (PySem.W.exmOne K (.ref (He.ga K t.1)) (.ref (He.ga K t.2.1)) = some t.2.2))
section
variable {K : PySem.W.Frag} {h : Heap} {mg : Str → Option Value}
theorem xp_ok (X : K.In h) (G : h.Ns mainGlobals mg) {x : Str} {newId : String} {bmB : List Value} (c : xpB K x newId bmB = true) : XP K mg x newId bmB := by
  unfold xpB at c
  simp only [Bool.and_eq_true, decide_eq_true_eq] at c
  obtain ⟨h1, h2, h3, h4, h5⟩ := c
  exact ⟨He.glo_ok X G h1, h2, h3, h4, h5⟩
theorem xf_ok (X : K.In h) (G : h.Ns mainGlobals mg) {x f : Str} (c : xfBB K x f = true) : XF K mg x f := by
  unfold xfBB at c
  simp only [Bool.and_eq_true, decide_eq_true_eq] at c
  obtain ⟨h1, h2, h3⟩ := c
  exact ⟨He.glo_ok X G h1, xfB_ok h2, h3⟩
theorem xm_ok (X : K.In h) (G : h.Ns mainGlobals mg) {l : List (Str × Str × Bool)} (c : xmB K l = true) : XmOk K mg (xmOf l) := by
  have key : ∀ (l : List (Str × Str × Bool)), xmB K l = true → ∀ r h b, xmOf l r h = some b → mg r = some (.ref (He.ga K r)) ∧ mg h = some (.ref (He.ga K h)) ∧ PySem.W.exmOne K (.ref (He.ga K r)) (.ref (He.ga K h)) = some b := by
    intro l
    induction l with
    | nil => intro _ r h b e; cases e
    | cons t l ih =>
      intro c r h b e
      obtain ⟨a, b2, k⟩ := t
      unfold xmB at c
      rw [List.all_cons, Bool.and_eq_true] at c
      unfold xmOf at e
      split at e
      · rename_i q
        obtain ⟨rfl, rfl⟩ := q
        cases e
        have c1 := c.1
        simp only [Bool.and_eq_true, decide_eq_true_eq] at c1
        exact ⟨He.glo_ok X G c1.1, He.glo_ok X G c1.2.1, c1.2.2⟩
      · exact ih c.2 r h b e
  refine ⟨fun r h b cls c2 e h1 h2 => ?_, fun r h b e => ⟨_, (key l c r h b e).1⟩⟩
  obtain ⟨k1, k2, k3⟩ := key l c r h b e
  rw [k1] at h1
  rw [k2] at h2
  cases h1; cases h2
  exact k3
end
section
variable {X : Cx} {F : Fm} {ow ow' ob : List Nat}
theorem pmt_raiseP {B newId initId : String} {bmB : List Value} {x m : Str} {j : Nat} {p p2 pos pos' : Pos} (FB : ExcBaseFacts B newId initId bmB) (h : XP X.K X.mg x newId bmB) (tk : Takes X F.W) (hg : Gl X x) (hc : X.calm = true := by rfl) (hS : F.S = ⟨X.K, X.mg, F.S.T⟩ := by rfl) (hdb : (x == ("__debug__" : Str)) = false := by decide) :
    PS X (.Raise (some (.Call (.Name x p) [.Constant (.str m) j p2] [] pos)) none pos') (rdS F ow ow' ob (mRaise x)) := pmt_raise FB h.q h.g h.k (raises_own h.e h.t) tk hg hc hS hdb
end
theorem room_su {k : Nat} {A : Around} {env : Env} {h : Option Value} (hr : Room (k + 2) A) : ((A.deeper env).mark h).units + 64 < cLine := (hr.deeper env).units
theorem pass0E {X : Cx} {E : XK} : Passes CX0 X E := fun _ _ _ _ _ _ _ h => h.elim
theorem pass_no {X : Cx} : Passes (L2.CX X.prog X.w) X fun _ _ _ => False := fun _ _ _ _ _ _ _ ⟨_, _, _, _, _, _, _, _, _, _, _, _, z⟩ => z.elim
theorem takesL {X : Cx} {A : Around} {outer : List Env} {s : Shared} {H : Hp} {E : XK} {scope : Scope} {f c' : Addr} : Takes (LamX.lamCx X A outer s H E scope f c') fun cls d _ H' => E cls d H' := takes_of rfl rfl rfl rfl

/-! ### defs that make lambdas: their code objects are known -/
theorem okGC {P : Program} {w : World} {K : PySem.W.Frag} {mg : Str → Option Value} {base : Heap} {CX : CXT} {x qual : Str} {params : Arguments} {body : List Stmt} {scope : Scope} {dvs : List V} {kws : List (Str × V)} {p : Str × Option Str} {fd : FuncData} {N ps : List Str} {k : Nat} {sp : Sp}
    (Fd : FunD K x qual params body scope dvs kws (He.fAd K p) fd) (sc : FnScope N ps scope) (len : ∀ vs H Q E, sp vs H Q E → vs.length = ps.length)
    (hb : ∀ (cdv : Value) (A : Around) (outer : List Env) (s : Shared) (H : Hp) (vs : List V) (Q : VK) (E : XK), cdv = .ref (He.codeOf K p) → Room k (A.deeper (PyProof.Rows.envOfC qual scope s.heap.objs.size (He.fAd K p) cdv)) → A.guards = some [] → sp vs H Q E →
      ∃ t, PSs (cxOf CX P w K mg base N qual scope (He.fAd K p) cdv A outer s H E) body t ∧ t { nx := fun _ H' => Q .non H', rt := Q } (L2.start N vs) H) : FnG P w K mg base CX (k + 1) (He.fAd K p) fd ps sp := by
  obtain ⟨oc, od, dV, kV, doc, pm, an, cdv, ct, osl, rfl, lk, hcd, _, _⟩ := Fd.ex
  obtain ⟨c, rfl⟩ := He.codeIn_ref hcd
  have hco : He.codeOf K p = c := He.codeOf_eq lk rfl
  exact ⟨len, fun A outer s H args us vs Q E hr hg e0 hbi r hsp => LamX.run_ofS lk hcd sc hr e0 hbi r (len _ _ _ _ hsp) fun hr2 => hb _ A outer s H vs Q E (by rw [hco]) hr2 hg hsp⟩
theorem fnNGC {P : Program} {w : World} {K : PySem.W.Frag} {mg : Str → Option Value} {T : List (Addr × Str)} {base : Heap} {x qual : Str} {params : Arguments} {body : List Stmt} {scope : Scope} {p : Str × Option Str} {fd : FuncData} {N ps : List Str} {k n : Nat} {io oz : List Nat} {ms : Ms}
    (Fd : FunD K x qual params body scope [] [] (He.fAd K p) fd) (sc : FnScope N ps scope)
    (hb : ∀ (G : Addr → Prop) (cdv : Value) (A : Around) (outer : List Env) (s : Shared) (H : Hp) (E : XK), cdv = .ref (He.codeOf K p) → Room k (A.deeper (PyProof.Rows.envOfC qual scope s.heap.objs.size (He.fAd K p) cdv)) → A.guards = some [] → PSs (cxOf CX0 P w K mg base N qual scope (He.fAd K p) cdv A outer s H E).nox body (rdS ⟨⟨K, mg, T⟩, G, io, fun _ _ _ _ => False⟩ io oz [] ms))
    (hn : ps.length = n := by rfl) (hN : n ≤ N.length := by decide) (hoz : ∀ i ∈ io, i ∈ oz := by decide) : FnG P w K mg base CX0 (k + 1) (He.fAd K p) fd ps (spM ⟨K, mg, T⟩ n io (runN N.length ms)) := by
  refine okGC Fd sc (fun vs H Q E h => ?_) (fun cdv A outer s H vs Q E hcd hr hgd h => ?_)
  · obtain ⟨O, ps', hv, _⟩ := h
    rw [hv, hn]
  · obtain ⟨O, pv, hv, hp, pre, htb, h1, h2, h3, h4⟩ := h
    refine ⟨_, PSs.nox (hb (fun a => O a ∧ ∀ k, k ∈ io → vs[k]? ≠ some (.ref a)) cdv A outer s H E hcd hr hgd), startE N.length pv, er_start hv hp hN pre htb h1 h2 h3, ?_⟩
    have ioO : ∀ a, O a → Gd (fun a => O a ∧ ∀ k, k ∈ io → vs[k]? ≠ some (.ref a)) io (L2.start N vs) a := fun a oa => by
      by_cases q : ∃ k, k ∈ io ∧ vs[k]? = some (.ref a)
      · obtain ⟨k, hk, e⟩ := q
        exact .inr ⟨k, hk, start_of e⟩
      · exact .inl ⟨oa, fun k hk e => q ⟨k, hk, e⟩⟩
    have nown : ∀ a, (¬ ∃ k, k ∈ io ∧ vs[k]? = some (.ref a)) → ¬ Own io (L2.start N vs) a := fun a q ⟨i, hi, e⟩ => q ⟨i, hi, start_get e⟩
    unfold runN at h4
    cases q : ms (startE N.length pv) with
    | nxt e =>
      simp only [q] at h4
      intro σ' H' ks st R
      refine h4 .non H' ⟨fun a o e1 n nt => (ks.kp a o e1 (nown a n) nt).1⟩ R.tb .non fun k p' hk he => ?_
      obtain ⟨v, e1, r⟩ := R.own k p' he (hoz k hk)
      refine ⟨v, start_get (by rw [← st k hk]; exact e1), r.mono Keep.refl (fun a _ oa => ?_) fun _ _ => rfl⟩
      rcases ioO a oa with g | ⟨i, hi, z⟩
      · exact .inl g
      · exact .inr ⟨i, hoz i hi, (st i hi).trans z⟩
    | ret p e =>
      simp only [q] at h4
      intro v H' kk tbs ioat rv
      refine h4 v H' ⟨fun a o e1 n nt => kk.kp a o e1 (nown a n) nt⟩ tbs (rv.mono Keep.refl fun a _ oa => ioO a oa) fun k p' hk he => ?_
      obtain ⟨v, e1, r⟩ := ioat k p' hk he
      exact ⟨v, start_get e1, r.mono Keep.refl (fun a _ oa => ioO a oa) fun _ _ => rfl⟩
    | brk e => simp only [q] at h4
    | cnt e => simp only [q] at h4
    | exc z e => simp only [q] at h4
    | bad => simp only [q] at h4

/-! ### the clauses' values do not hang on the places -/
end M

namespace M
open PySem PySem.Spec PyProof.Rows L2

/-! ### max(xs, default=d), min(xs, default=d) -/
theorem maxI_fold : ∀ (l : List Int) (m : Int), l.foldl max m = maxI m l
  | [], m => rfl
  | i :: l, m => by
    unfold maxI
    rw [List.foldl_cons, maxI_fold l]
    congr 1
    split <;> omega
theorem minI_fold : ∀ (l : List Int) (m : Int), l.foldl min m = minI m l
  | [], m => rfl
  | i :: l, m => by
    unfold minI
    rw [List.foldl_cons, minI_fold l]
    congr 1
    split <;> omega
theorem alike_ints (ns : List Int) : PySem.W.AlikeAll (ns.map PyData.int) := by
  refine ⟨fun x hx y hy => ?_, fun x hx => ?_⟩
  · obtain ⟨i, _, rfl⟩ := List.mem_map.1 hx
    obtain ⟨j, _, rfl⟩ := List.mem_map.1 hy
    rfl
  · obtain ⟨i, _, rfl⟩ := List.mem_map.1 hx
    simp
theorem depth_ints : ∀ ns : List Int, PyData.depthAll (ns.map PyData.int) ≤ 1
  | [] => by simp [PyData.depthAll]
  | n :: ns => by
    have := depth_ints ns
    simp only [List.map_cons, PyData.depthAll, PyData.depth]
    omega
def rBestD (best : Int → List Int → Int) (K : PySem.W.Frag) : List V → List V → Hp → VK → Prop := fun vs zs H Q => ∃ (a : Addr) (ns : List Int) (d : V), vs = [V.ref a] ∧ zs = [d] ∧ SqL K H a (ns.map V.int) ∧ (ns = [] → Q d H) ∧ ∀ n l, ns = n :: l → Q (.int (best n l)) H
section
variable {X : Cx} {F : Fm} {ow : List Nat}
theorem cr_maxD (hu : X.A.units + 64 < cLine) (hc : X.calm = true := by rfl) : CallRK X (.builtin "max") ["default"] (rBestD maxI X.K) := by
  intro pins s σ H xs zs us ws Q I r rz h
  obtain ⟨a, ns, d, rfl, rfl, hs, q0, q1⟩ := h
  obtain ⟨its, rv, hl, _⟩ := I.list hs
  rw [Vals.ref1 r]
  have hd := depth_ints ns
  cases rz with
  | @cons _ dv _ us' rd rn =>
    cases rn
    refine PySem.W.max_list_default (I.ok.hd hc) hl.isList (rv.ints.reads _) (alike_ints ns) (by omega) (fun e h' tk hk => ⟨d, H, I.kept hk, rd, q0 (by simpa using e)⟩) (fun y ys i v h' tk bs e hv hr hk => ?_)
    cases ns with
    | nil => cases e
    | cons n l =>
      cases e
      rw [PySem.W.maxD_ints, maxI_fold] at hr
      cases hr
      exact ⟨.int _, H, I.kept hk, ⟨_, rfl⟩, q1 _ _ rfl⟩
theorem cr_minD (hu : X.A.units + 64 < cLine) (hc : X.calm = true := by rfl) : CallRK X (.builtin "min") ["default"] (rBestD minI X.K) := by
  intro pins s σ H xs zs us ws Q I r rz h
  obtain ⟨a, ns, d, rfl, rfl, hs, q0, q1⟩ := h
  obtain ⟨its, rv, hl, _⟩ := I.list hs
  rw [Vals.ref1 r]
  have hd := depth_ints ns
  cases rz with
  | @cons _ dv _ us' rd rn =>
    cases rn
    refine PySem.W.min_list_default (I.ok.hd hc) hl.isList (rv.ints.reads _) (alike_ints ns) (by omega) (fun e h' tk hk => ⟨d, H, I.kept hk, rd, q0 (by simpa using e)⟩) (fun y ys i v h' tk bs e hv hr hk => ?_)
    cases ns with
    | nil => cases e
    | cons n l =>
      cases e
      rw [PySem.W.minD_ints, minI_fold] at hr
      cases hr
      exact ⟨.int _, H, I.kept hk, ⟨_, rfl⟩, q1 _ _ rfl⟩
def gBestD (best : Int → List Int → Int) : PV → PV → Option PV
  | .lst l, d => match toIs l with
    | some (n :: ns) => some (.int (best n ns))
    | some [] => some d
    | none => none
  | _, _ => none
theorem bestD_go {best : Int → List Int → Int} {m d : Mo PV} {σ : L2.St} {H : Hp} {Q : VK} (h : rd F ow (mBin (gBestD best) m d) σ H Q) :
    tCKw (rBestD best F.S.K) (tCons (rd F ow m) tNil) (tCons (rd F ow d) tNil) σ H Q := by
  obtain ⟨e, R, p⟩ := bin_go h
  refine ⟨e, R, p.mono fun a e1 H1 k1 R1 p1 x rx => ?_⟩
  obtain ⟨e2, R2, p2⟩ := p1 x rx
  refine ⟨e2, R2, p2.mono fun b e3 H3 k3 R3 p3 y ry => ?_⟩
  obtain ⟨O, a', b', c, pre, ra, rb, hg, q⟩ := p3 y ry
  unfold gBestD at hg
  split at hg
  · rename_i l d'
    obtain ⟨t, vs, rfl, h1, t1⟩ := ra.isL
    split at hg
    · rename_i n ns hn
      cases hg
      rw [toIs_some hn] at t1
      rw [t1.ints] at h1
      refine ⟨t, n :: ns, y, rfl, rfl, .inl (.inl h1), fun z => (by cases z), fun n' l' z => ?_⟩
      cases z
      exact q _ _ (fun _ _ z => z) (.int _)
    · rename_i hn
      cases hg
      rw [toIs_some hn] at t1
      rw [t1.ints] at h1
      exact ⟨t, [], y, rfl, rfl, .inl (.inl h1), fun _ => q _ _ (fun _ _ z => z) rb, fun n' l' z => (by cases z)⟩
    · cases hg
  · cases hg
theorem pm_maxD {x : Str} {a b : Expr} {m d : Mo PV} {p kp pos : Pos} (hu : X.A.units + 64 < cLine) (hg : Gl X x) (hm : X.mg x = none) (hv : bootBuiltins x = some (.builtin "max")) (ha : PE X a (rd F ow m)) (hb : PE X b (rd F ow d)) (hS : F.S = ⟨X.K, X.mg, F.S.T⟩ := by rfl) (hc : X.calm = true := by rfl)
    (hn : x ≠ "__name__" := by decide) (hdb : (x == ("__debug__" : Str)) = false := by decide)
    (hs : starEach [a] X.env = (false, eval a X.env) :: starEach [] X.env := by rfl)
    (he : backTo pos (starEach [a] X.env) = (false, eval a X.env) :: backTo pos (starEach [] X.env) := by rfl) (hpl : (backTo pos (starEach [a] X.env)).any (·.1) = false := by rfl) :
    PE X (.Call (.Name x p) [a] [⟨some "default", b, kp⟩] pos) (rd F ow (mBin (gBestD maxI) m d)) :=
  (pe_callBK (cr_maxD hu hc) hg hm hv (pa_cons ha pa_nil hs) (pk_cons hb pk_nil) hn hdb he hpl).imp fun σ H Q h => by
    have z := bestD_go h
    rw [hS] at z
    exact z
theorem pm_minD {x : Str} {a b : Expr} {m d : Mo PV} {p kp pos : Pos} (hu : X.A.units + 64 < cLine) (hg : Gl X x) (hm : X.mg x = none) (hv : bootBuiltins x = some (.builtin "min")) (ha : PE X a (rd F ow m)) (hb : PE X b (rd F ow d)) (hS : F.S = ⟨X.K, X.mg, F.S.T⟩ := by rfl) (hc : X.calm = true := by rfl)
    (hn : x ≠ "__name__" := by decide) (hdb : (x == ("__debug__" : Str)) = false := by decide)
    (hs : starEach [a] X.env = (false, eval a X.env) :: starEach [] X.env := by rfl)
    (he : backTo pos (starEach [a] X.env) = (false, eval a X.env) :: backTo pos (starEach [] X.env) := by rfl) (hpl : (backTo pos (starEach [a] X.env)).any (·.1) = false := by rfl) :
    PE X (.Call (.Name x p) [a] [⟨some "default", b, kp⟩] pos) (rd F ow (mBin (gBestD minI) m d)) :=
  (pe_callBK (cr_minD hu hc) hg hm hv (pa_cons ha pa_nil hs) (pk_cons hb pk_nil) hn hdb he hpl).imp fun σ H Q h => by
    have z := bestD_go h
    rw [hS] at z
    exact z
end
section
variable {X : Cx} {F : Fm} {ow : List Nat}
/-! ### a fresh if-expression -/
theorem pmf_if {c a b : Expr} {t : Mo Bool} {m m' : Mo PV} {pos : Pos} (hc : PT X c (rdT F ow t)) (ha : PE X a (rdF F ow m)) (hb : PE X b (rdF F ow m')) : PE X (.IfExp c a b pos) (rdF F ow (mIf t m m')) :=
  (pe_ifExp hc ha hb).imp fun σ H Q ⟨e, R, p⟩ => by
    refine ⟨e, R, ?_⟩
    unfold mIf at p
    have go : ∀ {mm : Mo PV} {e1 : En} {H1 : Hp}, Keep (Own ow σ) H H1 → ER F.S F.G ow σ H1 e1 → (match mm e1 with
        | .ok p e1 => ∀ a H', ¬ Hd H a → Keep (Own ow σ) H H' → ER F.S (F.ext a).G ow σ H' e1 → At F.S H' (Gd (F.ext a).G ow σ) (.ref a) p → Q (.ref a) H'
        | .exc x e1 => ∀ H' cls d, Keep (Own ow σ) H H' → ER F.S F.G ow σ H' e1 → ExAt F.S H' (Gd F.G ow σ) cls d x → F.W cls d σ H'
        | .bad => False) → rdF F ow mm σ H1 Q := fun {mm e1 H1} k1 R1 p => by
      refine ⟨e1, R1, ?_⟩
      cases q : mm e1 with
      | bad => rw [q] at p; exact p
      | exc x e2 => rw [q] at p; exact fun H' cls d k => p H' cls d (k1.trans k)
      | ok v e2 => rw [q] at p; exact fun a H' hn k => p a H' (fresh_of R k1 R1 hn) (k1.trans k)
    cases q : t e with
    | bad => rw [q] at p; exact p.elim
    | exc x e1 => rw [q] at p; exact fun H' cls d k R1 xa => p H' cls d k R1 xa
    | ok k e1 =>
      rw [q] at p
      intro H1 k1 R1
      cases k with
      | true => exact go k1 R1 p
      | false => exact go k1 R1 p
end
section
variable {X : Cx} {F : Fm} {ow : List Nat}
/-- a list of its own, taken as any value -/
theorem pm_ofF {a : Expr} {m : Mo PV} (h : PE X a (rdF F ow m)) : PE X a (rd F ow m) := h.imp fun σ H Q ⟨e, R, p⟩ => by
  refine ⟨e, R, ?_⟩
  cases q : m e with
  | bad => rw [q] at p; exact p.elim
  | exc x e1 => rw [q] at p; exact fun H' cls d k R1 xa => p H' cls d k R1 xa
  | ok v e1 =>
    rw [q] at p
    intro a H' hn k R1 ha
    have nd : ¬ Gd F.G ow σ a := fun z => hn (R.tracked a z)
    have le : ∀ b, Gd F.G ow σ b → Gd (F.ext a).G ow σ b := fun b z => z.elim (fun g => .inl (.inl g)) .inr
    refine p H' k R1.unext (.ref a) ?_
    cases v with
    | lst l =>
      obtain ⟨a', vs, ea, hH, rs⟩ := ha
      cases ea
      exact .lst nd hH (rs.mono Keep.refl fun b _ z => le b z)
    | dK l =>
      obtain ⟨a', kvs, ea, hH, rs⟩ := ha
      cases ea
      exact .dK nd hH (rs.mono Keep.refl fun b _ z => le b z)
    | _ => exact ha.elim
end
section
variable {X : Cx} {F : Fm} {ow : List Nat}
/-! ### a target of two targets -/
def tP (f g : PV → En → Option En) : PV → En → Option En := fun p e => match p with
  | .tup [a, b] => (f a e).bind (g b)
  | _ => none
theorem tg_two {is js : List Nat} {g g' : TG} {f f' : PV → En → Option En} {K : PySem.W.Frag} (h1 : TgOk F ow is g f) (h2 : TgOk F ow js g' f') (hK : F.S.K = K := by rfl) : TgOk F ow (is ++ js) (gTup K 2 (gCons g (gCons g' gNil))) (tP f f') := fun {σ H e e' v p} R rv h Q q => by
  unfold tP at h
  split at h
  · rename_i a b
    obtain ⟨ad, vs, rfl, h3, t⟩ := rv.isT
    obtain ⟨e1, e2, e3⟩ := Option.bind_eq_some_iff.1 h
    cases t with
    | cons r1 t =>
      cases t with
      | cons r2 t =>
        cases t
        refine ⟨ad, _, rfl, hK ▸ h3, rfl, _, _, rfl, h1 R r1 e2 _ fun σ1 k1 s1 o1 R1 => ⟨_, _, rfl, h2 R1 (r2.mono Keep.refl ?_) e3 _ fun σ2 k2 s2 o2 R2 => ⟨rfl, q σ2 (k1.trans k2) (s1.trans s2) ⟨by rw [o2.1, o1.1], fun j hj => ?_⟩ R2⟩⟩⟩
        · exact fun z hz g => g.elim .inl fun w => .inr (Classical.byContradiction fun n => by
            obtain ⟨o, ho, nt⟩ := hz
            exact (k1.kp z o ho n nt).2 w)
        · rw [o2.2 j fun z => hj (List.mem_append_right _ z), o1.2 j fun z => hj (List.mem_append_left _ z)]
  · cases h
@[simp] theorem tP_ap {f g : PV → En → Option En} {a b : PV} {e : En} : tP f g (.tup [a, b]) e = (f a e).bind (g b) := (rfl)
end
end M

namespace M
open PySem PySem.Spec PyProof.Rows L2

/-! ### a rise goes one way; its corners by the points beside them -/
theorem ch_first {k : Bool} {low : Option P2} {d p : P2} {l : List P2} : ((pcsL k low (d :: l)).any fun z => z.on p) = true ↔
    (across k p = across k d ∧ (∀ c, low = some c → along k c ≤ along k p) ∧ along k p ≤ along k d) ∨ ((pcsL (!k) (some d) l).any fun z => z.on p) = true := by
  rw [pcsL_cons, List.any_cons, Bool.or_eq_true, pc_on]
  constructor
  · rintro (⟨h1, h2, h3⟩ | h)
    · exact .inl ⟨h1, fun c e => h2 _ (by rw [e]; rfl), h3 _ rfl⟩
    · exact .inr h
  · rintro (⟨h1, h2, h3⟩ | h)
    · refine .inl ⟨h1, fun c e => ?_, fun c e => by cases e; exact h3⟩
      cases low with
      | none => cases e
      | some a => cases e; exact h2 a rfl
    · exact .inr h
def Cmp (p q : P2) : Prop := (p.1 ≤ q.1 ∧ p.2 ≤ q.2) ∨ (q.1 ≤ p.1 ∧ q.2 ≤ p.2)
theorem cmp_k (k : Bool) {p q : P2} : Cmp p q ↔ (along k p ≤ along k q ∧ across k p ≤ across k q) ∨ (along k q ≤ along k p ∧ across k q ≤ across k p) := by
  unfold Cmp
  cases k <;> simp <;> omega
theorem chain_cmp : ∀ {l : List P2} {k : Bool} {low : Option P2} {p q : P2}, Ch k low l → ((pcsL k low l).any fun z => z.on p) = true → ((pcsL k low l).any fun z => z.on q) = true → Cmp p q
  | [], k, none, p, q, h, _, _ => by
    rcases h.2.1 with h | h
    · exact absurd rfl h
    · exact absurd rfl h
  | [], k, some c, p, q, h, hp, hq => by
    have e : pcsL k (some c) [] = [⟨k, across k c, some (along k c), none⟩] := rfl
    rw [e, List.any_cons, List.any_nil, Bool.or_false, pc_on] at hp hq
    have h1 := hp.1
    have h2 := hq.1
    rw [cmp_k k]
    omega
  | d :: l, k, low, p, q, h, hp, hq => by
    rw [ch_first] at hp hq
    have ht := h.tail
    have ge : ∀ z : P2, ((pcsL (!k) (some d) l).any fun y => y.on z) = true → along k d ≤ along k z ∧ across k d ≤ across k z := fun z hz => by
      have a1 := on_ge (m := k) ht hz
      have a2 := on_ge (m := !k) ht hz
      rw [along_not, along_not] at a2
      exact ⟨a1, a2⟩
    rcases hp with ⟨p1, p2, p3⟩ | hp <;> rcases hq with ⟨q1, q2, q3⟩ | hq
    · rw [cmp_k k]; omega
    · have := ge q hq
      rw [cmp_k k]; omega
    · have := ge p hp
      rw [cmp_k k]; omega
    · exact chain_cmp ht hp hq
/-- no two points of a rise lie right below one another -/
theorem on_cmp {B : Int} {r : Rs} (h : r.Ok B) {p q : P2} (hp : r.on p = true) (hq : r.on q = true) : Cmp p q := by
  cases r with
  | level v =>
    simp [Rs.on, Rs.pcs, pc_on] at hp hq
    unfold Cmp; omega
  | plumb v =>
    simp [Rs.on, Rs.pcs, pc_on] at hp hq
    unfold Cmp; omega
  | bent k l => exact chain_cmp (bent_ch h) hp hq
def ek (k : Bool) (c : P2) (t : Int) : P2 := if k = true then (c.1 + t, c.2) else (c.1, c.2 + t)
theorem ek_along {k : Bool} {c : P2} {t : Int} : along k (ek k c t) = along k c + t ∧ across k (ek k c t) = across k c := by cases k <;> simp [ek]
theorem ek_along' {k : Bool} {c : P2} {t : Int} : along k (ek (!k) c t) = along k c ∧ across k (ek (!k) c t) = across k c + t := by cases k <;> simp [ek]
theorem corner_on : ∀ {l : List P2} {k : Bool} {low : Option P2} {i : Nat} {c : P2}, Ch k low l → l[i]? = some c →
    ((pcsL k low l).any fun z => z.on c) = true ∧ ((pcsL k low l).any fun z => z.on (ek (kAt k i) c (-1))) = true ∧ ((pcsL k low l).any fun z => z.on (ek (!(kAt k i)) c 1)) = true
  | [], k, low, i, c, _, hi => by simp at hi
  | d :: l, k, low, 0, c, h, hi => by
    simp at hi; subst hi
    have ht := h.tail
    have e : kAt k 0 = k := rfl
    rw [e]
    have a1 := ek_along (k := k) (c := d) (t := -1)
    have lo : ∀ c, low = some c → along k c < along k d := fun c e => by subst e; exact h.go.2
    refine ⟨ch_first.2 (.inl ⟨rfl, fun c e => by have := lo c e; omega, Int.le_refl _⟩), ch_first.2 (.inl ⟨a1.2, fun c e => by have := lo c e; rw [a1.1]; omega, by rw [a1.1]; omega⟩), ch_first.2 (.inr ?_)⟩
    have a2 := ek_along (k := !k) (c := d) (t := 1)
    cases l with
    | nil =>
      have e : pcsL (!k) (some d) [] = [⟨!k, across (!k) d, some (along (!k) d), none⟩] := rfl
      rw [e, List.any_cons, List.any_nil, Bool.or_false, pc_on]
      exact ⟨a2.2, fun c e => (by cases e; rw [a2.1]; omega), fun c e => by cases e⟩
    | cons f l =>
      have g := ht.go
      exact ch_first.2 (.inl ⟨by rw [a2.2]; exact g.1, fun c e => (by cases e; rw [a2.1]; omega), by rw [a2.1]; omega⟩)
  | d :: l, k, low, i + 1, c, h, hi => by
    have := corner_on (i := i) h.tail (by simpa using hi)
    rw [kAt_succ']
    exact ⟨ch_first.2 (.inr this.1), ch_first.2 (.inr this.2.1), ch_first.2 (.inr this.2.2)⟩
theorem p2_eq {k : Bool} {p q : P2} (h1 : along k p = along k q) (h2 : across k p = across k q) : p = q := by
  obtain ⟨a, b⟩ := p
  obtain ⟨c, d⟩ := q
  cases k <;> simp at h1 h2 <;> simp [h1, h2]
theorem corner_is : ∀ {l : List P2} {k m : Bool} {low : Option P2} {c : P2}, Ch k low l → ((pcsL k low l).any fun z => z.on c) = true → ((pcsL k low l).any fun z => z.on (ek m c (-1))) = true → ((pcsL k low l).any fun z => z.on (ek (!m) c 1)) = true →
    ∃ i, l[i]? = some c ∧ kAt k i = m
  | [], k, m, none, c, h, _, _, _ => by
    rcases h.2.1 with h | h
    · exact absurd rfl h
    · exact absurd rfl h
  | [], k, m, some d, c, h, h0, h1, h2 => by
    have e : pcsL k (some d) [] = [⟨k, across k d, some (along k d), none⟩] := rfl
    rw [e, List.any_cons, List.any_nil, Bool.or_false, pc_on] at h0 h1 h2
    have e0 := h0.1
    have e1 := h1.1
    have e2 := h2.1
    by_cases hm : m = k
    · subst hm
      have := (ek_along' (k := m) (c := c) (t := 1)).2
      omega
    · have hm : m = !k := ne_not hm
      subst hm
      have := (ek_along' (k := k) (c := c) (t := -1)).2
      omega
  | d :: l, k, m, low, c, h, h0, h1, h2 => by
    have ht := h.tail
    have ge : ∀ z : P2, ((pcsL (!k) (some d) l).any fun y => y.on z) = true → along k d ≤ along k z ∧ across k d ≤ across k z := fun z hz => by
      have a1 := on_ge (m := k) ht hz
      have a2 := on_ge (m := !k) ht hz
      rw [along_not, along_not] at a2
      exact ⟨a1, a2⟩
    have fd := ht.first
    rw [ch_first] at h0 h1 h2
    have A := ek_along (k := k) (c := c) (t := -1)
    have A' := ek_along' (k := k) (c := c) (t := -1)
    have B := ek_along (k := k) (c := c) (t := 1)
    have B' := ek_along' (k := k) (c := c) (t := 1)
    by_cases hc : c = d
    · subst hc
      refine ⟨0, rfl, ?_⟩
      show k = m
      by_cases hm : m = k
      · exact hm.symm
      · have hm : m = !k := ne_not hm
        subst hm
        rcases h1 with ⟨e1, -, -⟩ | h1
        · omega
        · have := ge _ h1
          omega
    · have onc : ((pcsL (!k) (some d) l).any fun z => z.on c) = true := by
        rcases h0 with ⟨a1, a2, a3⟩ | h0
        · exfalso
          have lt : along k c < along k d := by
            rcases Int.lt_or_eq_of_le a3 with x | x
            · exact x
            · exact absurd (p2_eq x a1) hc
          by_cases hm : m = k
          · subst hm
            rcases h2 with ⟨b1, -, -⟩ | h2
            · omega
            · have := ge _ h2
              omega
          · have hm : m = !k := ne_not hm
            subst hm
            rcases h1 with ⟨b1, -, -⟩ | h1
            · omega
            · have := ge _ h1
              omega
        · exact h0
      have gc := ge c onc
      have on1 : ((pcsL (!k) (some d) l).any fun z => z.on (ek m c (-1))) = true := by
        rcases h1 with ⟨b1, -, b3⟩ | h1
        · have : ek m c (-1) = d := by
            by_cases hm : m = k
            · subst hm
              refine p2_eq (k := m) ?_ b1
              have : ¬ (along m c = along m d) := fun x => hc (p2_eq x (by omega))
              omega
            · have hm : m = !k := ne_not hm
              subst hm
              exact p2_eq (k := k) (by omega) b1
          rw [this]; exact fd
        · exact h1
      have on2 : ((pcsL (!k) (some d) l).any fun z => z.on (ek (!m) c 1)) = true := by
        rcases h2 with ⟨b1, -, b3⟩ | h2
        · exfalso
          by_cases hm : m = k
          · subst hm; omega
          · have hm : m = !k := ne_not hm
            subst hm
            rw [Bool.not_not] at b1 b3
            exact hc (p2_eq (k := k) (by omega) (by omega))
        · exact h2
      obtain ⟨i, e1, e2⟩ := corner_is ht onc on1 on2
      exact ⟨i + 1, by simpa using e1, by rw [kAt_succ']; exact e2⟩
/-! ### rises that have one another's telling points are the same -/
theorem alt_inc : ∀ {l : List P2} {k : Bool}, Alt k l → l.Pairwise fun p q => p.1 + p.2 < q.1 + q.2
  | [], _, _ => .nil
  | [p], _, _ => by simp
  | p :: q :: l, k, h => by
    have g : p.1 + p.2 < q.1 + q.2 := by
      have := h.1
      cases k <;> simp at this <;> omega
    have ih := alt_inc (l := q :: l) h.2
    refine List.Pairwise.cons (fun z hz => ?_) ih
    rcases List.mem_cons.1 hz with rfl | hz
    · exact g
    · have := (List.pairwise_cons.1 ih).1 z hz
      omega
theorem inc_eq : ∀ {l1 l2 : List P2}, (l1.Pairwise fun p q => p.1 + p.2 < q.1 + q.2) → (l2.Pairwise fun p q => p.1 + p.2 < q.1 + q.2) → (∀ p, p ∈ l1 ↔ p ∈ l2) → l1 = l2
  | [], [], _, _, _ => rfl
  | [], b :: l2, _, _, h => absurd ((h b).2 List.mem_cons_self) (by simp)
  | a :: l1, [], _, _, h => absurd ((h a).1 List.mem_cons_self) (by simp)
  | a :: l1, b :: l2, h1, h2, h => by
    have g1 := List.pairwise_cons.1 h1
    have g2 := List.pairwise_cons.1 h2
    have e : a = b := by
      rcases List.mem_cons.1 ((h a).1 List.mem_cons_self) with z | z
      · exact z
      · rcases List.mem_cons.1 ((h b).2 List.mem_cons_self) with y | y
        · exact y.symm
        · have := g2.1 a z
          have := g1.1 b y
          omega
    subst e
    rw [inc_eq g1.2 g2.2 fun p => ⟨fun hp => ?_, fun hp => ?_⟩]
    · rcases List.mem_cons.1 ((h p).1 (List.mem_cons_of_mem _ hp)) with z | z
      · subst z; have := g1.1 p hp; omega
      · exact z
    · rcases List.mem_cons.1 ((h p).2 (List.mem_cons_of_mem _ hp)) with z | z
      · subst z; have := g2.1 p hp; omega
      · exact z
def tellB : Bool → List P2 → List P2
  | _, [] => []
  | k, c :: l => c :: ek k c (-1) :: ek (!k) c 1 :: tellB (!k) l
theorem tellB_mem : ∀ {l : List P2} {k : Bool} {i : Nat} {c : P2}, l[i]? = some c → c ∈ tellB k l ∧ ek (kAt k i) c (-1) ∈ tellB k l ∧ ek (!(kAt k i)) c 1 ∈ tellB k l
  | [], _, _, _, h => by simp at h
  | d :: l, k, 0, c, h => by
    simp at h; subst h
    refine ⟨by simp [tellB], ?_, ?_⟩
    · show ek k _ (-1) ∈ _; simp [tellB]
    · show ek (!k) _ 1 ∈ _; simp [tellB]
  | d :: l, k, i + 1, c, h => by
    have := tellB_mem (l := l) (k := !k) (i := i) (c := c) (by simpa using h)
    rw [kAt_succ']
    unfold tellB
    exact ⟨by simp [this.1], by simp [this.2.1], by simp [this.2.2]⟩
theorem tellB_get : ∀ {l : List P2} {k : Bool} {p : P2}, p ∈ tellB k l → ∃ i c, l[i]? = some c ∧ (p = c ∨ p = ek (kAt k i) c (-1) ∨ p = ek (!(kAt k i)) c 1)
  | [], _, _, h => by simp [tellB] at h
  | d :: l, k, p, h => by
    unfold tellB at h
    rcases List.mem_cons.1 h with h | h
    · exact ⟨0, d, rfl, .inl h⟩
    · rcases List.mem_cons.1 h with h | h
      · exact ⟨0, d, rfl, .inr (.inl h)⟩
      · rcases List.mem_cons.1 h with h | h
        · exact ⟨0, d, rfl, .inr (.inr h)⟩
        · obtain ⟨i, c, e, q⟩ := tellB_get h
          exact ⟨i + 1, c, by simpa using e, by rw [kAt_succ']; exact q⟩
def Rs.tell : Rs → List P2
  | .level v => [(0, v), (1, v)]
  | .plumb v => [(v, 0), (v, 1)]
  | .bent k l => tellB k l
theorem tell_on {B : Int} {r : Rs} (h : r.Ok B) {p : P2} (hp : p ∈ r.tell) : r.on p = true := by
  cases r with
  | level v => simp [Rs.tell] at hp; rcases hp with rfl | rfl <;> simp [Rs.on, Rs.pcs, pc_on]
  | plumb v => simp [Rs.tell] at hp; rcases hp with rfl | rfl <;> simp [Rs.on, Rs.pcs, pc_on]
  | bent k l =>
    obtain ⟨i, c, e, q⟩ := tellB_get hp
    obtain ⟨a1, a2, a3⟩ := corner_on (bent_ch h) e
    rcases q with rfl | rfl | rfl
    · exact a1
    · exact a2
    · exact a3
theorem level_not {v : Int} {c : P2} {m : Bool} : ¬ ((Rs.level v).on c = true ∧ (Rs.level v).on (ek m c (-1)) = true ∧ (Rs.level v).on (ek (!m) c 1) = true) := by
  cases m <;> simp [Rs.on, Rs.pcs, pc_on, ek] <;> omega
theorem plumb_not {v : Int} {c : P2} {m : Bool} : ¬ ((Rs.plumb v).on c = true ∧ (Rs.plumb v).on (ek m c (-1)) = true ∧ (Rs.plumb v).on (ek (!m) c 1) = true) := by
  cases m <;> simp [Rs.on, Rs.pcs, pc_on, ek] <;> omega
theorem tell_eq {B C : Int} {r s : Rs} (h1 : r.Ok B) (h2 : s.Ok C) (h : ∀ p ∈ r.tell ++ s.tell, r.on p = s.on p) : r = s := by
  have rs : ∀ p ∈ r.tell, s.on p = true := fun p hp => by rw [← h p (List.mem_append_left _ hp)]; exact tell_on h1 hp
  have sr : ∀ p ∈ s.tell, r.on p = true := fun p hp => by rw [h p (List.mem_append_right _ hp)]; exact tell_on h2 hp
  have corner : ∀ {k : Bool} {l : List P2} {t : Rs}, (∀ p ∈ (Rs.bent k l).tell, t.on p = true) → ∀ {i : Nat} {c : P2}, l[i]? = some c → t.on c = true ∧ t.on (ek (kAt k i) c (-1)) = true ∧ t.on (ek (!(kAt k i)) c 1) = true := fun hh _ _ e => by
    obtain ⟨a1, a2, a3⟩ := tellB_mem e
    exact ⟨hh _ a1, hh _ a2, hh _ a3⟩
  have first : ∀ {k : Bool} {l : List P2} {D : Int}, (Rs.bent k l).Ok D → ∃ c, l[0]? = some c := fun {k l D} hh => by
    cases l with
    | nil => exact absurd rfl hh.1
    | cons c l => exact ⟨c, rfl⟩
  cases r with
  | level v =>
    cases s with
    | level w =>
      have := rs (0, v) (by simp [Rs.tell])
      simp [Rs.on, Rs.pcs, pc_on] at this
      rw [this]
    | plumb w =>
      have a := rs (0, v) (by simp [Rs.tell])
      have b := rs (1, v) (by simp [Rs.tell])
      simp [Rs.on, Rs.pcs, pc_on] at a b
      omega
    | bent k l =>
      obtain ⟨c, e⟩ := first h2
      exact absurd (corner sr e) level_not
  | plumb v =>
    cases s with
    | plumb w =>
      have := rs (v, 0) (by simp [Rs.tell])
      simp [Rs.on, Rs.pcs, pc_on] at this
      rw [this]
    | level w =>
      have a := rs (v, 0) (by simp [Rs.tell])
      have b := rs (v, 1) (by simp [Rs.tell])
      simp [Rs.on, Rs.pcs, pc_on] at a b
      omega
    | bent k l =>
      obtain ⟨c, e⟩ := first h2
      exact absurd (corner sr e) plumb_not
  | bent k l =>
    cases s with
    | level w =>
      obtain ⟨c, e⟩ := first h1
      exact absurd (corner rs e) level_not
    | plumb w =>
      obtain ⟨c, e⟩ := first h1
      exact absurd (corner rs e) plumb_not
    | bent m n =>
      have f1 : ∀ i c, l[i]? = some c → ∃ j, n[j]? = some c ∧ kAt m j = kAt k i := fun i c e => by
        obtain ⟨a1, a2, a3⟩ := corner rs e
        exact corner_is (bent_ch h2) a1 a2 a3
      have f2 : ∀ i c, n[i]? = some c → ∃ j, l[j]? = some c ∧ kAt k j = kAt m i := fun i c e => by
        obtain ⟨a1, a2, a3⟩ := corner sr e
        exact corner_is (bent_ch h1) a1 a2 a3
      have inc := alt_inc h1.2.2.2
      have e : l = n := inc_eq inc (alt_inc h2.2.2.2) fun p => by
        constructor
        · intro hp
          obtain ⟨i, e⟩ := List.getElem?_of_mem hp
          obtain ⟨j, e2, _⟩ := f1 i p e
          exact List.mem_of_getElem? e2
        · intro hp
          obtain ⟨i, e⟩ := List.getElem?_of_mem hp
          obtain ⟨j, e2, _⟩ := f2 i p e
          exact List.mem_of_getElem? e2
      subst e
      obtain ⟨c, e0⟩ := first h1
      obtain ⟨j, e1, e2⟩ := f1 0 c e0
      cases l with
      | nil => simp at e0
      | cons d l =>
        simp at e0
        subst e0
        cases j with
        | zero =>
          have : m = k := e2
          rw [this]
        | succ j =>
          have hm : d ∈ l := List.mem_of_getElem? (by simpa using e1)
          have := (List.pairwise_cons.1 inc).1 d hm
          omega
end M

namespace PySem.HandEnum
open AutoSeq1 (wpAny_loadPart')
/-! ### enumerate of a tuple -/
theorem meets_enumT (l : Addr) (items : Array Value) (n : Nat) (dct : Option Addr) (sl : Array (Option Value)) :
    Meets (Builtin.«enumerate.__new__» ⟨[.type "enumerate", .ref l], []⟩) (fun _ R s => s.heap.get? l = some { cls := .type "tuple", dict := dct, data := .seq items n, slots := sl } ∧
      R (.ok (.ret (.ref (s.heap.push { cls := .type "tuple_iterator", data := .fields #[.ref l, .int 0 0] }).objs.size)))
        { s with heap := (s.heap.push { cls := .type "tuple_iterator", data := .fields #[.ref l, .int 0 0] }).push { cls := .type "enumerate", data := .fields #[.none, .bool false, .ref s.heap.objs.size, rawInt 0, .none, .none] } }) :=
  .of_wp fun prog w A R s h => by
    obtain ⟨hp, g, d, tk, os⟩ := s
    obtain ⟨hl, h⟩ := h
    have c1 := sub_enumerate
    have hL : Heap.IsTuple (Shared.heap ⟨hp, g, d, tk, os⟩) l items := ⟨_, hl, rfl, n, rfl⟩
    wp_walk using wpAny_loadPart' hl
    refine wpAny_stack_any fun st => wpAny_pure ?_
    split
    · rename_i c _ _ _ _ _
      cases (c == Value.type "enumerate") <;> (wp_walk using wpAny_loadPart' hl, wpAny_pyIter_tuple hL; exact ⟨_, rfl, h⟩)
    · wp_walk using wpAny_loadPart' hl, wpAny_pyIter_tuple hL
      exact ⟨_, rfl, h⟩
section
variable {prog : Program} {w : World} {A : Around} {E : Value → Shared → Prop} {s : Shared}
theorem call_enumT {l : Addr} {items : Array Value} {Q : Value → Shared → Prop} (hL : s.heap.IsTuple l items)
    (h : ∀ h', IsEnum h' (s.heap.objs.size + 1) s.heap.objs.size 0 .none → h'.IsTupleIter s.heap.objs.size l 0 → h'.objs.size = s.heap.objs.size + 2 →
      (∀ b o, s.heap.get? b = some o → h'.get? b = some o) → Q (.ref (s.heap.objs.size + 1)) { s with heap := h' }) :
    wpAny (model prog w) A (call (.type "enumerate") [.ref l]) Q E s := by
  obtain ⟨⟨c, dct, dt, sl⟩, hl, hc, n, hd⟩ := hL
  replace hc : c = .type "tuple" := hc
  replace hd : dt = .seq items n := hd
  subst hc hd
  refine callType_new F.called_enumerate (by decide) (F.typeCall_enumerate_1 _) (F.newCall_enumerate_1 _) (fun obj => F.args_object_init_2 obj _) F.entry_enumerate_new
    (meets_enumT l items n dct sl) ⟨hl, ?_⟩
  have hz : (s.heap.push { cls := .type "tuple_iterator", data := .fields #[.ref l, .int 0 0] }).objs.size = s.heap.objs.size + 1 := Heap.size_push ..
  show _ ∧ _
  rw [hz]
  have he : IsEnum ((s.heap.push { cls := .type "tuple_iterator", data := .fields #[.ref l, .int 0 0] }).push
      { cls := .type "enumerate", data := .fields #[.none, .bool false, .ref s.heap.objs.size, rawInt 0, .none, .none] }) (s.heap.objs.size + 1) s.heap.objs.size 0 .none := by
    have := Heap.get?_push_size (s.heap.push { cls := .type "tuple_iterator", data := .fields #[.ref l, .int 0 0] })
      (o := { cls := .type "enumerate", data := .fields #[.none, .bool false, .ref s.heap.objs.size, rawInt 0, .none, .none] }) rfl
    rw [hz] at this; exact this
  exact ⟨⟨_, he, rfl⟩, h _ he ⟨_, Heap.get?_push_of_some _ (Heap.get?_push_size _ rfl), rfl, rfl⟩ (by rw [Heap.size_push, hz]) fun b o x => Heap.get?_push_of_some _ (Heap.get?_push_of_some _ x)⟩
theorem end_enumT {e it l : Addr} {i : Nat} {k : Int} {items : Array Value} {old : Value} {Q : Option Value → Shared → Prop} (hh : A.handled = none)
    (he : IsEnum s.heap e it k old) (hit : s.heap.IsTupleIter it l i) (hl : s.heap.IsTuple l items) (hx : items[i]? = none)
    (hQ : ∀ h', Heap.ExtBut it s.heap h' → Q none { s with heap := h' }) : wpAny (model prog w) A (pyNext (.ref e)) Q E s := by
  have hT : s.TypeIs (.ref e) "enumerate" := ⟨_, he, rfl⟩
  unfold pyNext
  refine wpAny_bind (wpAny_attempt (wpAny_callSpecial?_slot (name := Str.ofString "__next__") hT F.slot_enumerate_next
    (wpAny_call_entry F.slot_enumerate_next hT F.entry_enumerate_next ?_ (F.args_enumerate_next_1 _))))
  show wpAny _ _ (field (.ref e) 2 >>= _) _ _ _
  refine wpAny_bind (wpAny_field he rfl (x := .ref it) rfl ?_)
  refine wpAny_bind (wpAny_nextOf_tuple_end (A := A.in1) hh hit hl hx fun h' x he' hx' => ?_)
  obtain ⟨o, ho, hc⟩ := hx'
  refine wpAny_bind (wpAny_isInstance (T := "StopIteration") (b := true) ⟨o, ho, hc⟩ isSubtype_stop ?_)
  exact wpAny_pure (hQ _ he')
end
end PySem.HandEnum
namespace M
open PySem PySem.Spec PyProof.Rows L2
/-- the tuple at a at each turn, each item in a new pair -/
def ItE (K : PySem.W.Frag) (a : Addr) : It :=
  ⟨fun i H => ∃ (xs : List V) (x : V), SqT K H a xs ∧ xs[i]? = some x, fun i H v H' => ∃ T x, v = .ref T ∧ H T = none ∧ H' = upd H T (.tup [.int (i : Nat), x]) ∧ ∀ xs, SqT K H a xs → xs[i]? = some x, fun i H => ∃ xs : List V, SqT K H a xs ∧ xs.length ≤ i⟩
theorem turn_enumT {P : Program} {w : World} {K : PySem.W.Frag} {elts : List Expr} {kk : Nat} {tpos : Pos} (a e it : Addr) :
    Turn P w K (.Tuple elts kk tpos) (ItE K a) [e, it] e (fun i h => (∃ old, IsEnum h e it ((i : Nat) : Int) old) ∧ h.IsTupleIter it a i ∧ e ≠ it) where
  mem := by simp
  obj := fun i h st b hb => by
    obtain ⟨⟨old, he⟩, ⟨o, ho, hc, hd⟩, _⟩ := st
    have e' : b = e ∨ b = it := by simpa using hb
    rcases e' with z | z
    · rw [z]; exact ⟨_, he, fun v q => nomatch q⟩
    · rw [z]; exact ⟨o, ho, fun v q => by rw [hd] at q; cases q⟩
  keep := fun i h h' st k => let ⟨⟨old, he⟩, hi, hne⟩ := st; ⟨⟨old, k e (by simp) _ he⟩, hi.at fun o q => k it (by simp) o q, hne⟩
  item := by
    intro X hP hw hK hc i pins s σ H E I hf st hg
    subst hP hw hK
    obtain ⟨⟨old, he⟩, hit, hne⟩ := st
    obtain ⟨xs, x, hq, hx⟩ := hg
    obtain ⟨its, rv, p, hz⟩ := I.tuple hq
    obtain ⟨u, hu, ru⟩ := rv.get hx
    have hel : e < s.heap.objs.size := Heap.lt_size he
    have hil : it < s.heap.objs.size := by obtain ⟨_, q, _⟩ := hit; exact Heap.lt_size q
    have nea : e ≠ a := fun z => by
      obtain ⟨o, ho, hcl, _⟩ := id p
      rw [← z, he] at ho
      cases ho
      exact absurd hcl (by simp)
    have nia : a ≠ it := fun z => by
      obtain ⟨o, ho, hcl, _⟩ := id p
      obtain ⟨o2, ho2, hc2, _⟩ := hit
      rw [z, ho2] at ho
      cases ho
      rw [hc2] at hcl
      exact absurd hcl (by simp)
    have hlt : i < its.toArray.size := by
      have := (List.getElem?_eq_some_iff.1 hu).1
      simpa using this
    refine wpAny_pyNext_enum_itemD (Draws.tuple (A := X.A.in1) (I.ok.hd hc) it a nia its.toArray) he ⟨hit, p⟩ hlt hne (by simp [hne, nea]) fun y h' tk hy ho hit' hT hsz hk => ?_
    have eu : y = u := by
      have : its[i]? = some y := by simpa using hy
      rw [hu] at this
      exact (Option.some.inj this).symm
    subst eu
    refine ⟨_, rfl, wpAny_letOwnedTupleGo_enum (s := { s with heap := h', toks := tk + 1 }) ho fun h'' he' sb => ?_⟩
    have hT2 : h''.get? s.heap.objs.size = some { cls := .type "tuple", data := .seq #[.int i tk, y] } := (sb.2 _ (Nat.ne_of_gt hel)).trans hT
    have new : ObjOk X.prog X.w (upd H s.heap.objs.size (.tup [.int (i : Nat), x])) h'' s.heap.objs.size (.tup [.int (i : Nat), x]) :=
      ⟨by show 2 ≤ sizeLine; decide, [.int i tk, y], .cons ⟨_, rfl⟩ (.cons ru .nil), ⟨_, hT2, rfl, _, rfl⟩⟩
    have I1 : Inv X pins σ (upd H s.heap.objs.size (.tup [.int (i : Nat), x])) { s with heap := h'', toks := tk + 1 } :=
      I.turnedNew (ch := [e, it]) (fun b ob hb q => (sb.2 b (fun z => hb (by simp [z]))).trans (hk b ob (fun z => hb (by simp [z])) (fun z => hb (by simp [z])) q)) hf (Nat.le_refl _) new
    refine ⟨.ref s.heap.objs.size, _, I1, rfl, ⟨_, x, rfl, I.hok.fresh (Nat.le_refl _), rfl, fun ys hy => by rw [I.tuple_inj hy hq]; exact hx⟩, ⟨⟨y, ?_⟩, hit'.1.at fun o q => (sb.2 it (Ne.symm hne)).trans q, hne⟩, fun b hb => ?_⟩
    · have e1 : ((i + 1 : Nat) : Int) = (i : Int) + 1 := by omega
      rw [e1]; exact he'
    · have hb' : b < s.heap.objs.size := by
        have e' : b = e ∨ b = it := by simpa using hb
        rcases e' with z | z
        · rw [z]; exact hel
        · rw [z]; exact hil
      rw [upd_ne (Nat.ne_of_lt hb')]
      exact (hf b hb).1
  done := by
    intro X hP hw hK hc i pins s σ H E I hf st hg
    subst hP hw hK
    obtain ⟨⟨old, he⟩, hit, hne⟩ := st
    obtain ⟨xs, hq, hx⟩ := hg
    obtain ⟨its, rv, p, hz⟩ := I.tuple hq
    obtain ⟨f0, f1, f2, f3, f4, f5⟩ := hf it (by simp)
    have hl := rv.length
    exact PySem.HandEnum.end_enumT (I.ok.hd hc) he hit p (by simp; omega) fun h' eb => ⟨rfl, I.turned (t' := s.toks) (fun b o hb q => eb b o hb q) f0 f1 f3 f4 f5⟩
  self := fun A i s Q E st h => let ⟨⟨_, he⟩, _⟩ := st; wpAny_pyIter_enum he h
def tEnumT (K : PySem.W.Frag) (ta : TA) : TI := fun σ H R => ta σ H fun vs H1 => ∃ a xs, vs = [.ref a] ∧ SqT K H1 a xs ∧ R (ItE K a) H1
theorem pi_enumT {X : Cx} {e : Expr} {ta : TA} {p pos tpos : Pos} {elts : List Expr} {kk : Nat} (hg : Gl X "enumerate") (hm : X.mg "enumerate" = none) (ha : PA X [e] ta) (hs : starEach [e] X.env = [(false, eval e X.env)] := by rfl) :
    PI X (.Tuple elts kk tpos) (.Call (.Name "enumerate" p) [e] [] pos) (tEnumT X.K ta) := by
  refine ⟨fun pins s σ H R I h => ?_⟩
  refine Call_ (ld_blt I hg hm boot_enumerate (PyProof.Rows.callWith_type1 (thn (ha.run pos pins s σ H _ I h) fun us s1 ⟨vs, H1, I1, r1, q1⟩ => ?_) hs rfl))
  obtain ⟨a, xs, ex, hq, q⟩ := q1
  subst ex
  cases r1 with
  | cons r rr =>
    cases rr
    cases r
    obtain ⟨its, rv, p', hz⟩ := I1.tuple hq
    refine PySem.HandEnum.call_enumT p' fun h' he hit hsz hk => wpAny_pyIter_enum he ?_
    have I2 : Inv X pins σ H1 { s1 with heap := h' } := I1.kept (t' := s1.toks) hk
    refine ⟨s1.heap.objs.size + 1, [s1.heap.objs.size + 1, s1.heap.objs.size], _, _, H1, rfl, I2, turn_enumT a (s1.heap.objs.size + 1) s1.heap.objs.size, ⟨⟨.none, he⟩, hit, Nat.succ_ne_self _⟩, fun b hb => ?_, q⟩
    have e' : b = s1.heap.objs.size + 1 ∨ b = s1.heap.objs.size := by simpa using hb
    have hle : s1.heap.objs.size ≤ b := by
      rcases e' with z | z
      · rw [z]; exact Nat.le_add_right _ _
      · rw [z]; exact Nat.le_refl _
    exact I1.fpOk hle (I1.hok.fresh hle)
def enumP : Nat → List PV → List PV
  | _, [] => []
  | k, p :: l => .tup [.int (k : Int), p] :: enumP (k + 1) l
theorem enumP_get : ∀ {l : List PV} {k i : Nat} {q : PV}, (enumP k l)[i]? = some q → ∃ p, l[i]? = some p ∧ q = .tup [.int ((k + i : Nat) : Int), p]
  | [], k, i, q, h => by simp [enumP] at h
  | p :: l, k, 0, q, h => by simp [enumP] at h; exact ⟨p, rfl, h.symm⟩
  | p :: l, k, i + 1, q, h => by
    obtain ⟨p', e1, e2⟩ := enumP_get (l := l) (k := k + 1) (i := i) (q := q) (by simpa [enumP] using h)
    refine ⟨p', by simpa using e1, ?_⟩
    rw [e2, show k + 1 + i = k + (i + 1) by omega]
@[simp] theorem enumP_len : ∀ {l : List PV} {k : Nat}, (enumP k l).length = l.length
  | [], k => rfl
  | p :: l, k => by simp [enumP, enumP_len]
theorem it_enumT {S : Se} {H : Hp} {O : Addr → Prop} {a : Addr} {l : List PV} (r : RV S H O (.ref a) (.tup l)) : ItOk S (ItE S.K a) (enumP 0 l) H O := by
  refine ⟨fun H O => RV S H O (.ref a) (.tup l), r, fun _ _ _ _ r k q => r.mono k q, fun i H O pre r => ?_⟩
  obtain ⟨vs, h1, h2⟩ := r.sqT
  refine ⟨fun p hp => ?_, fun hl => ?_⟩
  · obtain ⟨q, g1, rfl⟩ := enumP_get hp
    obtain ⟨v, g3, g4⟩ := h2.get g1
    refine ⟨⟨vs, v, h1, g3⟩, fun z H' ⟨T, x', e1, e2, e3, e4⟩ => ?_⟩
    subst e1 e3
    rw [e4 vs h1] at g3; cases g3
    rw [Nat.zero_add]
    exact ⟨upd_keep e2, (RVs.cons (.int _) (.cons g4 .nil)).newT e2 pre⟩
  · refine ⟨vs, h1, ?_⟩
    rw [h2.length]
    simpa using hl
def iEnumM : List PV → Option (List PV)
  | [.tup l] => some (enumP 0 l)
  | _ => none
section
variable {X : Cx} {F : Fm} {ow : List Nat}
theorem pmi_enum {a : Expr} {ml : Mo (List PV)} {p pos tpos : Pos} {elts : List Expr} {kk : Nat} (hg : Gl X "enumerate") (hm : X.mg "enumerate" = none) (ha : PA X [a] (rdA F ow ml)) (hS : F.S = ⟨X.K, X.mg, F.S.T⟩ := by rfl)
    (hs : starEach [a] X.env = [(false, eval a X.env)] := by rfl) : PI X (.Tuple elts kk tpos) (.Call (.Name "enumerate" p) [a] [] pos) (rdI F ow (mItA iEnumM ml)) :=
  (pi_enumT hg hm ha hs).imp fun σ H Q ⟨e, R, p⟩ => by
    have hK : F.S.K = X.K := by rw [hS]
    refine ⟨e, R, (Post.unbind p).mono fun l e1 H1 k1 R1 p1 vs rs => ?_⟩
    obtain ⟨c, hc, q⟩ := p1.of_lift R1
    unfold iEnumM at hc
    split at hc
    · cases hc
      obtain ⟨x, rfl, rx⟩ := rs.one
      obtain ⟨a, vs, rfl, h1, t⟩ := rx.isT
      exact ⟨a, vs, rfl, hK ▸ h1, hK ▸ q H1 (fun _ _ z => z) _ (it_enumT rx)⟩
    · cases hc
end
end M

namespace M
open PySem PySem.Spec PyProof.Rows L2

/-! ### beside the highest and the lowest point over a number -/
theorem last_open {B : Int} {r : Rs} (h : r.Ok B) : ∃ c : Pc, r.pcs.getLast? = some c ∧ c.hi = none ∧ ∀ p : P2, across c.k p = c.a → (∀ l, c.lo = some l → l ≤ along c.k p) → r.on p = true := by
  have go : ∀ c : Pc, r.pcs.getLast? = some c → c.hi = none → ∀ p : P2, across c.k p = c.a → (∀ l, c.lo = some l → l ≤ along c.k p) → r.on p = true := fun c hc hh p h1 h2 => by
    unfold Rs.on
    rw [List.any_eq_true]
    exact ⟨c, List.mem_of_getLast? hc, pc_on.2 ⟨h1, h2, fun z e => by rw [hh] at e; cases e⟩⟩
  cases r with
  | level v => exact ⟨⟨true, v, none, none⟩, rfl, rfl, go _ rfl rfl⟩
  | plumb v => exact ⟨⟨false, v, none, none⟩, rfl, rfl, go _ rfl rfl⟩
  | bent k l =>
    obtain ⟨z, hz⟩ : ∃ z, l.getLast? = some z := ⟨_, List.getLast?_eq_some_getLast h.1⟩
    have e := pcsL_end (k := k) (low := none) hz
    exact ⟨_, e, rfl, go _ e rfl⟩
theorem first_open {B : Int} {r : Rs} (h : r.Ok B) : ∃ c : Pc, r.pcs.head? = some c ∧ c.lo = none ∧ ∀ p : P2, across c.k p = c.a → (∀ l, c.hi = some l → along c.k p ≤ l) → r.on p = true := by
  have go : ∀ c : Pc, r.pcs.head? = some c → c.lo = none → ∀ p : P2, across c.k p = c.a → (∀ l, c.hi = some l → along c.k p ≤ l) → r.on p = true := fun c hc hh p h1 h2 => by
    unfold Rs.on
    rw [List.any_eq_true]
    exact ⟨c, List.mem_of_mem_head? hc, pc_on.2 ⟨h1, (fun z e => by rw [hh] at e; cases e), h2⟩⟩
  cases r with
  | level v => exact ⟨⟨true, v, none, none⟩, rfl, rfl, go _ rfl rfl⟩
  | plumb v => exact ⟨⟨false, v, none, none⟩, rfl, rfl, go _ rfl rfl⟩
  | bent k l =>
    cases l with
    | nil => exact absurd rfl h.1
    | cons c l =>
      have e : (Rs.bent k (c :: l)).pcs.head? = some ⟨k, across k c, none, some (along k c)⟩ := by show (pcsL k none (c :: l)).head? = _; rw [pcsL_cons]; rfl
      exact ⟨_, e, rfl, go _ e rfl⟩
theorem top_right {B x t : Int} {r : Rs} (h : r.Ok B) (ht : r.on (x, t) = true) (hm : ∀ y, r.on (x, y) = true → y ≤ t) : r.on (x + 1, t) = true := by
  have i0 := on_in (b := true) h ht
  have i1 : inB r true (x + 1) := by
    refine ⟨fun j e => by have := i0.1 j e; simp at this; omega, fun j e => ?_⟩
    have h1 := i0.2 j e
    simp at h1
    by_cases hj : j = x
    · subst hj
      exfalso
      obtain ⟨c, hc, _, hon⟩ := last_open h
      unfold spanR at e
      simp only [hc, Option.bind_some] at e
      split at e
      · cases e
      · rename_i hk
        have hk : c.k = false := by cases q : c.k <;> simp_all
        have ha := Option.some.inj e
        have : r.on (j, max (t + 1) (c.lo.getD 0)) = true := hon _ (by rw [hk]; simp; exact ha.symm) (fun l hl => by rw [hk, hl]; simp; omega)
        have := hm _ this
        omega
    · omega
  obtain ⟨p, q, e1, e2, e3, e4, e5⟩ := step_on h (by simpa using i0) i1
  obtain ⟨px, py⟩ := p
  obtain ⟨qx, qy⟩ := q
  simp at e1 e2 e3
  subst e1 e2 e3
  have a := hm _ e4
  have b := on_cmp h ht e5
  unfold Cmp at b
  have : py = t := by simp at b; omega
  rw [← this]; exact e5
theorem low_left {B x t : Int} {r : Rs} (h : r.Ok B) (ht : r.on (x, t) = true) (hm : ∀ y, r.on (x, y) = true → t ≤ y) : r.on (x - 1, t) = true := by
  have i0 := on_in (b := true) h ht
  have i1 : inB r true (x - 1) := by
    refine ⟨fun j e => ?_, fun j e => by have := i0.2 j e; simp at this; omega⟩
    have h1 := i0.1 j e
    simp at h1
    by_cases hj : j = x
    · subst hj
      exfalso
      obtain ⟨c, hc, _, hon⟩ := first_open h
      unfold spanR at e
      simp only [hc, Option.bind_some] at e
      split at e
      · cases e
      · rename_i hk
        have hk : c.k = false := by cases q : c.k <;> simp_all
        have ha := Option.some.inj e
        have : r.on (j, min (t - 1) (c.hi.getD 0)) = true := hon _ (by rw [hk]; simp; exact ha.symm) (fun l hl => by rw [hk, hl]; simp; omega)
        have := hm _ this
        omega
    · omega
  have i2 : inB r true (x - 1 + 1) := by
    rw [show x - 1 + 1 = x by omega]; simpa using i0
  obtain ⟨p, q, e1, e2, e3, e4, e5⟩ := step_on h i1 i2
  obtain ⟨px, py⟩ := p
  obtain ⟨qx, qy⟩ := q
  simp at e1 e2 e3
  subst e1 e3
  have hq : qx = x := by omega
  subst hq
  have a := hm _ e5
  have b := on_cmp h e4 ht
  unfold Cmp at b
  have : py = t := by simp at b; omega
  rw [← this]; exact e4
end M

namespace M
open PySem PySem.Spec PyProof.Rows L2
/-! ### halving: the first piece that does not end below a number -/
def ext (b : Bool) (c : Pc) : Option Int × Option Int := if c.k = b then (c.lo, c.hi) else (some c.a, some c.a)
def upto (b : Bool) (x : Int) (c : Pc) : Bool := geO (ext b c).2 x
def ix (b : Bool) (x : Int) (l : List Pc) : Nat := l.findIdx (upto b x)
theorem hit_ext {b : Bool} {x : Int} {c : Pc} : hit b x c = if (leO (ext b c).1 x && geO (ext b c).2 x) = true then some (ext (!b) c) else none := by
  obtain ⟨k, a, lo, hi⟩ := c
  unfold hit ext
  by_cases q : k = b
  · subst q
    simp
  · have q2 : k = !b := by cases k <;> cases b <;> simp_all
    subst q2
    by_cases q3 : a = x
    · subst q3; simp
    · have : ¬ (a ≤ x ∧ x ≤ a) := by omega
      simp [q3, this]
theorem not_upto {b : Bool} {x : Int} {c : Pc} (h : upto b x c = false) : hit b x c = none := by
  rw [hit_ext]
  unfold upto at h
  simp [h]
theorem upto_pc {k b : Bool} {x : Int} {low : Option Int} {d : P2} : upto b x ⟨k, across k d, low, some (along k d)⟩ = decide (x ≤ along b d) := by
  unfold upto ext
  cases k <;> cases b <;> simp <;> rfl
theorem upto_all {b : Bool} {x : Int} : ∀ {l : List P2} {k : Bool} {c : P2}, Ch k (some c) l → x ≤ along b c → ∀ p ∈ pcsL k (some c) l, upto b x p = true
  | [], k, c, h, hx, p, hp => by
    simp [pcsL] at hp
    subst hp
    unfold upto ext
    cases k <;> cases b <;> simp_all
  | d :: l, k, c, h, hx, p, hp => by
    have hd : along b c ≤ along b d := along_le h.go
    rw [pcsL_cons] at hp
    rcases List.mem_cons.1 hp with e | hp
    · subst e; rw [upto_pc]; simp; omega
    · exact upto_all h.tail (by omega) p hp
theorem hits_far {b : Bool} {x : Int} {l : List P2} {k : Bool} {c : P2} (h : Ch k (some c) l) (hx : x < along b c) : hits b x (pcsL k (some c) l) = [] :=
  ((hits_spec h.1 h.2.1 h.2.2).2.2 c rfl).2 hx
theorem hits_cons {b : Bool} {x : Int} {c : Pc} {l : List Pc} : hits b x (c :: l) = (hit b x c).toList ++ hits b x l := by
  unfold hits
  rw [List.filterMap_cons]
  cases hit b x c <;> rfl
theorem hits_three {b : Bool} {x : Int} {l : List P2} {k : Bool} {d : P2} (h : Ch k (some d) l) (hx : x ≤ along b d) : hits b x (pcsL k (some d) l) = hits b x ((pcsL k (some d) l).take 2) := by
  cases l with
  | nil => rfl
  | cons d2 l =>
    rw [pcsL_cons]
    cases l with
    | nil => rfl
    | cons d3 l =>
      rw [pcsL_cons]
      have g1 := h.go
      have g2 := h.tail.go
      have h3 := h.tail.tail
      have hf : hits b x (pcsL (!!k) (some d3) l) = [] := hits_far h3 (by
        cases k <;> cases b <;> simp at g1 g2 hx ⊢ <;> omega)
      simp only [List.take_succ_cons, List.take_zero]
      rw [hits_cons, hits_cons, hits_cons, hits_cons, hf]
      rfl
theorem hits_slice {b : Bool} {x : Int} : ∀ {l : List P2} {k : Bool} {low : Option P2}, Ch k low l →
    hits b x (pcsL k low l) = hits b x (((pcsL k low l).drop (ix b x (pcsL k low l))).take 3) ∧ ∀ i p, (pcsL k low l)[i]? = some p → (upto b x p = true ↔ ix b x (pcsL k low l) ≤ i)
  | [], k, low, h => by
    cases low with
    | none => exact absurd h.2.1 (by simp)
    | some c =>
      have e : pcsL k (some c) [] = [⟨k, across k c, some (along k c), none⟩] := rfl
      rw [e]
      unfold ix
      generalize (⟨k, across k c, some (along k c), none⟩ : Pc) = p
      cases hp : upto b x p with
      | true =>
        have e : [p].findIdx (upto b x) = 0 := by simp [List.findIdx_cons, hp]
        rw [e]
        refine ⟨rfl, fun i q hq => ?_⟩
        cases i with
        | zero => simp at hq; subst hq; simp [hp]
        | succ i => simp at hq
      | false =>
        have e : [p].findIdx (upto b x) = 1 := by simp [List.findIdx_cons, hp]
        rw [e]
        refine ⟨by rw [hits_cons, not_upto hp]; rfl, fun i q hq => ?_⟩
        cases i with
        | zero => simp at hq; subst hq; simp [hp]
        | succ i => simp at hq
  | d :: l, k, low, h => by
    rw [pcsL_cons]
    have ht := h.tail
    obtain ⟨i1, i2⟩ := hits_slice (b := b) (x := x) ht
    have hu : upto b x ⟨k, across k d, low.map (along k), some (along k d)⟩ = decide (x ≤ along b d) := upto_pc
    generalize (⟨k, across k d, low.map (along k), some (along k d)⟩ : Pc) = p at hu
    by_cases hx : x ≤ along b d
    · have hp : upto b x p = true := by rw [hu]; simp [hx]
      have e : ix b x (p :: pcsL (!k) (some d) l) = 0 := by unfold ix; simp [List.findIdx_cons, hp]
      rw [e]
      refine ⟨?_, fun i q hq => ?_⟩
      · simp only [List.drop_zero, List.take_succ_cons]
        rw [hits_cons, hits_cons]
        congr 1
        exact hits_three ht hx
      · cases i with
        | zero => simp at hq; subst hq; simp [hp]
        | succ i =>
          simp only [List.getElem?_cons_succ] at hq
          have := upto_all ht hx q (List.mem_of_getElem? hq)
          simp [this]
    · have hp : upto b x p = false := by rw [hu]; simp [hx]
      have e : ix b x (p :: pcsL (!k) (some d) l) = ix b x (pcsL (!k) (some d) l) + 1 := by unfold ix; simp [List.findIdx_cons, hp]
      rw [e]
      refine ⟨?_, fun i q hq => ?_⟩
      · rw [hits_cons, not_upto hp, List.drop_succ_cons]
        exact i1
      · cases i with
        | zero => simp at hq; subst hq; simp [hp]
        | succ i =>
          simp only [List.getElem?_cons_succ] at hq
          rw [i2 i q hq]
          omega
theorem one_slice {b : Bool} {x : Int} {p : Pc} : hits b x [p] = hits b x (([p].drop (ix b x [p])).take 3) ∧ ∀ i q, [p][i]? = some q → (upto b x q = true ↔ ix b x [p] ≤ i) := by
  unfold ix
  cases hp : upto b x p with
  | true =>
    have e : [p].findIdx (upto b x) = 0 := by simp [List.findIdx_cons, hp]
    rw [e]
    refine ⟨rfl, fun i q hq => ?_⟩
    cases i with
    | zero => simp at hq; subst hq; simp [hp]
    | succ i => simp at hq
  | false =>
    have e : [p].findIdx (upto b x) = 1 := by simp [List.findIdx_cons, hp]
    rw [e]
    refine ⟨by rw [hits_cons, not_upto hp]; rfl, fun i q hq => ?_⟩
    cases i with
    | zero => simp at hq; subst hq; simp [hp]
    | succ i => simp at hq
theorem rs_slice {B : Int} {b : Bool} {x : Int} {r : Rs} (h : r.Ok B) :
    hits b x r.pcs = hits b x ((r.pcs.drop (ix b x r.pcs)).take 3) ∧ ∀ i p, r.pcs[i]? = some p → (upto b x p = true ↔ ix b x r.pcs ≤ i) := by
  cases r with
  | level v => exact one_slice
  | plumb v => exact one_slice
  | bent k l => exact hits_slice (bent_ch h)
theorem ix_le {b : Bool} {x : Int} {l : List Pc} : ix b x l ≤ l.length := List.findIdx_le_length
/-! ### a fresh def that returns early -/
section
variable {X : Cx} {F : Fm}
def mSeqI (t : Mo Bool) (a b : Ms) : Ms := mIfS t a b
@[simp] theorem mSeqI_eq {t : Mo Bool} {a b : Ms} : mSeqI t a b = mIfS t a b := (rfl)
theorem pmsF_if {c : Expr} {body rest : List Stmt} {t : Mo Bool} {a b : Ms} {pos : Pos} (hc : PT X c (rdT F [] t)) (ha : PSs X body (rdSF F a)) (hr : PSs X rest (rdSF F b)) : PSs X (.If c body [] pos :: rest) (rdSF F (mSeqI t a b)) :=
  (pss_cons (ps_if hc ha pss_nil) hr).imp fun D σ H ⟨e, R, p⟩ => by
    refine ⟨e, R, ?_⟩
    unfold mSeqI mIfS SOut.of at p
    have own_nil : ∀ {σ : L2.St} {a : Addr}, ¬ Own [] σ a := fun ⟨i, hi, _⟩ => by cases hi
    cases q : t e with
    | ok k e1 =>
      simp only [q] at p
      intro H1 k1 R1
      cases k with
      | true =>
        simp only [if_true] at p
        refine ⟨e1, R1, ?_⟩
        cases q2 : a e1 with
        | ret p2 e2 =>
          simp only [q2] at p
          intro z H' hn k2 tbs ra
          exact p z H' (fun ⟨o, q3, nt⟩ => hn ⟨o, k1.kp z o q3 own_nil nt, nt⟩) ⟨fun y o e3 _ nt => k2.kp y o (k1.kp y o e3 own_nil nt) id nt⟩ tbs ra
        | _ => simp only [q2] at p
      | false =>
        simp only [Bool.false_eq_true, if_false] at p
        refine ⟨e1, R1, ?_⟩
        cases q2 : b e1 with
        | ret p2 e2 =>
          simp only [q2] at p
          intro z H' hn k2 tbs ra
          exact p z H' (fun ⟨o, q3, nt⟩ => hn ⟨o, k1.kp z o q3 own_nil nt, nt⟩) ⟨fun y o e3 _ nt => k2.kp y o (k1.kp y o e3 own_nil nt) id nt⟩ tbs ra
        | _ => simp only [q2] at p
    | _ => simp only [q] at p
end
/-! ### turns of a while -/
theorem wl_go {c : Mo Bool} {b : Ms} {n : Nat} {e e1 e2 : En} (hc : c e = .ok true e1) (hb : b e1 = .nxt e2) : wloop c b (n + 1) e = wloop c b n e2 := by
  have : wloop c b (n + 1) e = SOut.of (c e) fun k e1 => if k = true then match b e1 with
      | .nxt e2 => wloop c b n e2
      | .cnt e2 => wloop c b n e2
      | .brk e2 => .nxt e2
      | .ret q e2 => .ret q e2
      | .exc x e2 => .exc x e2
      | .bad => .bad
    else .nxt e1 := rfl
  rw [this, hc]
  simp only [SOut.of, if_true, hb]
theorem lc_in {own : List Nat} {f : PV → En → Option En} {mt : Mo Bool} {me : Mo PV} {p q : PV} {l acc : List PV} {e e1 e2 e3 : En} (h1 : f p (wipeE e own) = some e1) (h2 : mt e1 = .ok true e2) (h3 : me e2 = .ok q e3) (ha : acc.length < 16777216) :
    lcLoop own f mt me (p :: l) acc e = lcLoop own f mt me l (acc ++ [q]) (restE own e e3) := by
  rw [lcLoop, h1]
  simp only [h2, h3]
  rw [if_pos (line_gt (by omega))]
theorem lc_out {own : List Nat} {f : PV → En → Option En} {mt : Mo Bool} {me : Mo PV} {p : PV} {l acc : List PV} {e e1 e2 : En} (h1 : f p (wipeE e own) = some e1) (h2 : mt e1 = .ok false e2) :
    lcLoop own f mt me (p :: l) acc e = lcLoop own f mt me l acc (restE own e e2) := by
  rw [lcLoop, h1]
  simp only [h2]
theorem lc_nil {own : List Nat} {f : PV → En → Option En} {mt : Mo Bool} {me : Mo PV} {acc : List PV} {e : En} : lcLoop own f mt me [] acc e = .ok (.lst acc) e := rfl
theorem cut_hi {l : List PV} {k : Nat} : cutP l none (some (k : Int)) = l.take k := by
  unfold cutP
  rw [HT.sIx_nat, HT.sIx_none, List.drop_zero, Nat.sub_zero]
  rcases Nat.le_total k l.length with h | h
  · rw [Nat.min_eq_left h]
  · rw [Nat.min_eq_right h, List.take_of_length_le (Nat.le_refl _), List.take_of_length_le h]
theorem wl_end {c : Mo Bool} {b : Ms} {n : Nat} {e e1 : En} (hc : c e = .ok false e1) : wloop c b (n + 1) e = .nxt e1 := by
  show SOut.of (c e) _ = _
  rw [hc]
  rfl
end M

namespace M
open PySem PySem.Spec PyProof.Rows L2

/-! ### an own class: what its facts are -/
def kitT : List String := ["NoneType", "bool", "int", "str", "tuple", "list", "dict"]
/-- the getter of a property -/
def gA (K : PySem.W.Frag) (C : Addr) (f : Str) : Addr := match PySem.W.findIn K (.ref C) f with
  | some (some (.ref p)) => (match PySem.W.recIn K p "property" with
    | some (.ref g :: _) => g
    | _ => 0)
  | _ => 0
def propB (K : PySem.W.Frag) (C : Addr) (f : Str) : Bool := match PySem.W.findIn K (.ref C) f with
  | some (some (.ref p)) => decide (PySem.W.specialIn K (.ref p) "__get__" = some (some (.builtin "property.__get__"))) && (decide (PySem.W.takesIn K (.ref p) = some true) && (match PySem.W.recIn K p "property" with
    | some (.ref _ :: _) => true
    | _ => false))
  | _ => false
theorem propB_ok {K : PySem.W.Frag} {C : Addr} {f : Str} (h : propB K C f = true) : ∃ p, PropOf K C f p (gA K C f) := by
  unfold propB at h
  cases e : PySem.W.findIn K (.ref C) f with
  | none => rw [e] at h; cases h
  | some o =>
    cases o with
    | none => rw [e] at h; cases h
    | some u =>
      cases u with
      | ref p =>
        rw [e] at h
        obtain ⟨h1, h2⟩ := Bool.and_eq_true_iff.mp h
        obtain ⟨h3, h4⟩ := Bool.and_eq_true_iff.mp h2
        cases e2 : PySem.W.recIn K p "property" with
        | none => rw [e2] at h4; cases h4
        | some l =>
          cases l with
          | nil => rw [e2] at h4; cases h4
          | cons u rest =>
            cases u with
            | ref g =>
              refine ⟨p, e, of_decide_eq_true h1, of_decide_eq_true h3, rest, ?_⟩
              unfold gA
              rw [e]
              simp only [e2]
            | _ => rw [e2] at h4; cases h4
      | _ => rw [e] at h; cases h
/-- the class c, whose instances have the fields fs -/
structure OC (K : PySem.W.Frag) (mg : Str → Option Value) (c : Str) (fs : List Str) : Prop where
  g : mg c = some (.ref (He.ga K c))
  ins : C8.InsC K (He.ga K c)
  mkr : Mk K (He.ga K c) (He.ma K (He.ga K c) "__init__")
  no : ∀ f ∈ fs, NoAttr K (He.ga K c) f
  kit0 : ∀ t ∈ kitT, PySem.W.kitOne K (.type t) (.ref (He.ga K c)) = some false
  kit1 : ∀ t ∈ kitT, PySem.W.kitOne K (.ref (He.ga K c)) (.type t) = some false
def ocB (K : PySem.W.Frag) (c : Str) (fs : List Str) : Bool :=
  PySem.W.plainGet K (He.ga K c) Str.empty && (PySem.W.hasDictIn K (He.ga K c) && (PySem.W.plainOver K (He.ga K c) && (He.eqO (PySem.W.findIn K (.ref (He.ga K c)) "__setattr__") (some (some (.builtin "object.__setattr__"))) &&
  (He.eqO (PySem.W.findIn K (.ref (He.ga K c)) "__class__") (some (some (.builtin "object.__class__"))) && (He.eqO (PySem.W.specialIn K (.builtin "object.__class__") "__get__") (some (some (.builtin "getset_descriptor.__get__"))) &&
  (decide (PySem.W.takesIn K (.builtin "object.__class__") = some true) && (decide (PySem.W.mroIn K (He.ga K c) (.type "object") = some true) && (decide (PySem.W.kitOne K (.ref (He.ga K c)) (.ref (He.ga K c)) = some true) &&
  (PySem.W.makesIn K (He.ga K c) && (He.eqO (PySem.W.findIn K (.ref (He.ga K c)) "__init__") (some (some (.ref (He.ma K (He.ga K c) "__init__")))) && (PySem.W.isFn K (.ref (He.ma K (He.ga K c) "__init__")) && (PySem.W.keepIn K (.ref (He.ga K c)) &&
  (fs.all (fun f => He.eqO (PySem.W.findIn K (.ref (He.ga K c)) f) (some none)) && kitT.all fun t => decide (PySem.W.kitOne K (.type t) (.ref (He.ga K c)) = some false) && decide (PySem.W.kitOne K (.ref (He.ga K c)) (.type t) = some false))))))))))))))
theorem oc_ok {K : PySem.W.Frag} {mg : Str → Option Value} {c : Str} {fs : List Str} (g : mg c = some (.ref (He.ga K c))) (h : ocB K c fs = true) : OC K mg c fs := by
  unfold ocB at h
  simp only [Bool.and_eq_true, decide_eq_true_eq, List.all_eq_true] at h
  obtain ⟨h1, h2, h3, h4, h5, h6, h7, h8, h9, h10, h11, h12, h13, h14, h15⟩ := h
  have cl : Cls K (He.ga K c) := ⟨h1, h2, h3, He.eqO_ok h4⟩
  exact ⟨g, ⟨cl, He.eqO_ok h5, He.eqO_ok h6, h7, h8, h9⟩, ⟨h10, He.eqO_ok h11, h12, h13⟩, fun f hf => He.eqO_ok (h14 f hf), fun t ht => (h15 t ht).1, fun t ht => (h15 t ht).2⟩

/-! ### attributes -/
def mUn (g : PV → Option PV) (m : Mo PV) : Mo PV := fun e => (m e).bind fun p e1 => lift (g p) e1
def gFld (c f : Str) : PV → Option PV
  | .ins d l => if d = c then l.lookup f else none
  | _ => none
section
variable {X : Cx} {F : Fm} {ow : List Nat} {c : Str} {fs : List Str}
theorem rd_mono {m : Mo PV} {σ : L2.St} {H : Hp} {Q Q' : VK} (h : rd F ow m σ H Q) (k : ∀ v H', Q v H' → Q' v H') : rd F ow m σ H Q' :=
  let ⟨e, R, p⟩ := h; ⟨e, R, p.mono fun a e1 H1 _ _ q v rv => k v H1 (q v rv)⟩
theorem un_go {g : PV → Option PV} {m : Mo PV} {σ : L2.St} {H : Hp} {Q : VK} (h : rd F ow (mUn g m) σ H Q) :
    rd F ow m σ H fun v H1 => ∃ (O : Addr → Prop) (p c : PV), Pre H1 O ∧ RV F.S H1 O v p ∧ g p = some c ∧ ∀ w, RV F.S H1 O w c → Q w H1 := by
  obtain ⟨e, R, p⟩ := h
  refine ⟨e, R, (Post.unbind p).mono fun q e1 H1 k1 R1 p1 v rv => ?_⟩
  obtain ⟨r, hr, hq⟩ := p1.of_lift R1
  exact ⟨Gd F.G ow σ, q, r, R1.tracked, rv, hr, fun w rw' => hq H1 (fun _ _ z => z) w rw'⟩
theorem fld_at {S : Se} {H : Hp} {O : Addr → Prop} {v : V} {p r : PV} {f : Str} (T : OC S.K S.mg c fs) (rv : RV S H O v p) (h : gFld c f p = some r) :
    ∃ a dx vs w, v = .ref a ∧ H a = some (.ins (He.ga S.K c) dx vs) ∧ vs.lookup f = some w ∧ RV S H O w r := by
  cases rv with
  | @ins a C dx d vs l n e m t =>
    unfold gFld at h
    simp only at h
    by_cases q : d = c
    · subst q
      rw [if_pos rfl] at h
      obtain ⟨w, h1, h2⟩ := t.look h
      rw [T.g] at m
      cases m
      exact ⟨a, dx, vs, w, rfl, e, h1, h2⟩
    · rw [if_neg q] at h; cases h
  | _ => cases h
theorem pm_fld {f : Str} {a : Expr} {m : Mo PV} {pos : Pos} (T : OC X.K X.mg c fs) (hf : f ∈ fs) (ha : PE X a (rd F ow m)) (hS : F.S = ⟨X.K, X.mg, F.S.T⟩ := by rfl)
    (hb : attributeBase a f X.env (eval a X.env) = eval a X.env := by rfl) : PE X (.Attribute a f pos) (rd F ow (mUn (gFld c f) m)) :=
  (pe_fld ha hb).imp fun σ H Q h => by
    refine rd_mono (un_go h) fun v H1 ⟨O, p, r, hp, rv, hr, q⟩ => ?_
    have T' : OC F.S.K F.S.mg c fs := by rw [hS]; exact T
    obtain ⟨x, dx, vs, w, e1, e2, e3, e4⟩ := fld_at T' rv hr
    have hK : F.S.K = X.K := by rw [hS]
    rw [hK] at e2
    exact ⟨x, _, dx, vs, w, e1, e2, T.ins.cl, T.no f hf, e3, q w e4⟩
/-- a property that gives a field -/
structure PrX (P : Program) (w : World) (K : PySem.W.Frag) (mg : Str → Option Value) (base : Heap) (c f fld : Str) : Prop where
  ex : ∃ p g fd, PropOf K (He.ga K c) f p g ∧ FnOk P w K mg base CX0 1 g fd ["self"] (getSp (He.ga K c) fld) ∧ L2.Binds K fd ["self"] []
theorem pm_prop {f fld : Str} {a : Expr} {m : Mo PV} {pos : Pos} (T : OC X.K X.mg c fs) (D : PrX X.prog X.w X.K X.mg X.base c f fld) (hr : Room 2 X.A) (ha : PE X a (rd F ow m)) (hS : F.S = ⟨X.K, X.mg, F.S.T⟩ := by rfl)
    (hb : attributeBase a f X.env (eval a X.env) = eval a X.env := by rfl) : PE X (.Attribute a f pos) (rd F ow (mUn (gFld c fld) m)) := by
  obtain ⟨p, g, fd, hp, G, bi⟩ := D.ex
  exact (pe_prop (E := fun _ _ _ => False) ha T.ins.cl hp G hr bi .nil pass0 hb).imp fun σ H Q h => by
    refine rd_mono (un_go h) fun v H1 ⟨O, p, r, hp, rv, hr, q⟩ => ?_
    have T' : OC F.S.K F.S.mg c fs := by rw [hS]; exact T
    obtain ⟨x, dx, vs, w, e1, e2, e3, e4⟩ := fld_at T' rv hr
    have hK : F.S.K = X.K := by rw [hS]
    rw [hK] at e2
    exact ⟨x, dx, vs, e1, e2, x, dx, vs, w, rfl, e2, e3, q w e4⟩
end
end M

namespace M
open PySem PySem.Spec PyProof.Rows L2

/-! ### isinstance(x, C), len(x) of an own class -/
def gIsiC (c : Str) : List PV → Option PV
  | [p, .gl d] => if d = c then (match p with
    | .ins d' _ => if d' = c then some (.bl true) else none
    | q => (tyN q).map fun _ => .bl false) else none
  | _ => none
section
variable {X : Cx} {F : Fm} {ow : List Nat} {c : Str} {fs : List Str}
theorem tyN_kit {p : PV} {t : String} (h : tyN p = some t) : t ∈ kitT := by
  unfold tyN at h
  split at h <;> cases h <;> simp [kitT]
theorem gl_ref {S : Se} {H : Hp} {O : Addr → Prop} {v : V} {d : Str} {a : Addr} (r : RV S H O v (.gl d)) (h : S.mg d = some (.ref a)) : v = .ref a := by
  cases r with
  | gl h1 r1 =>
    rw [h] at h1
    cases h1
    cases v with
    | ref b => cases (show Value.ref a = Value.ref b from r1); rfl
    | int i => obtain ⟨t, q⟩ := (show ∃ t, Value.ref a = Value.int i t from r1); cases q
    | str i => obtain ⟨t, q⟩ := (show ∃ t, Value.ref a = Value.str i t from r1); cases q
    | byt i => obtain ⟨t, q⟩ := (show ∃ t, Value.ref a = Value.bytes i t from r1); cases q
    | flt i => obtain ⟨t, q⟩ := (show ∃ t, Value.ref a = Value.float i t from r1); cases q
    | non => cases (show Value.ref a = Value.none from r1)
    | bl b => cases (show Value.ref a = Value.bool b from r1)
    | ty n => cases (show Value.ref a = Value.type n from r1)
theorem co_isiC (T : OC X.K X.mg c fs) (hS : F.S = ⟨X.K, X.mg, F.S.T⟩ := by rfl) : CallOk X F (.builtin "isinstance") (gIsiC c) := by
  intro O
  refine ⟨_, call_isi, fun H xs ps r Q hp rs e q => ?_⟩
  have hK : F.S.K = X.K := by rw [hS]
  have hM : F.S.mg = X.mg := by rw [hS]
  unfold gIsiC at e
  split at e
  · rename_i p d
    by_cases hd : d = c
    · subst hd
      rw [if_pos rfl] at e
      obtain ⟨x, y, rfl, rx, ry⟩ := rs.two
      have hy := gl_ref ry.rv (by rw [hM]; exact T.g)
      subst hy
      split at e
      · rename_i d' l
        by_cases h2 : d' = d
        · subst h2
          rw [if_pos rfl] at e
          cases e
          cases rx.rv with
          | ins n ea m t =>
            rw [hM, T.g] at m
            cases m
            exact ⟨_, _, .ref (He.ga X.K d'), _, true, rfl, .own _, .base (.ins ea T.ins.cl T.ins.ha T.ins.hn T.ins.htk T.ins.hm), T.ins.me, q _ H (fun _ _ z => z) (.bl _)⟩
        · rw [if_neg h2] at e; cases e
      · rename_i p' hne
        cases ht : tyN p with
        | none => rw [ht] at e; cases e
        | some t =>
          rw [ht] at e
          cases e
          exact ⟨x, _, _, _, false, rfl, .own _, hK ▸ WV.tyX rx ht, T.kit0 t (tyN_kit ht), q _ H (fun _ _ z => z) (.bl _)⟩
    · rw [if_neg hd] at e; cases e
  · cases e
theorem pm_glC {pos : Pos} (T : OC X.K X.mg c fs) (hg : Gl X c) (hd : (c == ("__debug__" : Str)) = false := by decide) (hS : F.S = ⟨X.K, X.mg, F.S.T⟩ := by rfl) : PE X (.Name c pos) (rd F ow (mC (.gl c))) :=
  (pe_glob (v := .ref (He.ga X.K c)) hg T.g rfl hd).imp fun σ H Q h => rd_C h fun H O => .gl (by rw [hS]; exact T.g) rfl

/-- len of an instance: what its __len__ promises -/
def rLenC (C : Addr) (sp : Sp) : List V → Hp → VK → Prop := fun xs H Q => ∃ a dx fs, xs = [V.ref a] ∧ H a = some (.ins C dx fs) ∧
  sp [.ref a] H (fun v H' => ∃ n : Int, v = .int n ∧ 0 ≤ n ∧ n < 2 ^ 63 ∧ Q (.int n) H') fun _ _ _ => False
theorem call_lenC {C f : Addr} {k : Nat} {fd : FuncData} {sp : Sp} (hl : PySem.W.findIn X.K (.ref C) "__len__" = some (some (.ref f))) (hty : PySem.W.typeIn X.K (.ref f) = some (.type "function"))
    (G : FnOk X.prog X.w X.K X.mg X.base CX0 k f fd ["self"] sp) (hr : Room (k + 1) X.A) (hb : L2.Binds X.K fd ["self"] []) : CallR X (.builtin "len") (rLenC C sp) := by
  intro pins s σ H xs us Q I r h
  obtain ⟨a, dx, fs, rfl, ea, hsp⟩ := h
  rw [Vals.ref1 r]
  obtain ⟨mA, O, _⟩ := ins_get I.hok ea
  obtain ⟨od, J, _⟩ := O.look
  have look : PySem.W.Looks (model X.prog X.w) s.heap (specialOf (.ref a) "__len__") (some (.ref f)) := (NwA.type_at J.at_ J.cls).andThen (PySem.W.looks_findIn I.kIn hl)
  have bnd : PySem.W.Looks (model X.prog X.w) s.heap (bindSpecial (.ref f) (.ref a)) (.ref f, [.ref a]) := PySem.W.bind_fn I.kIn _ hty
  have run := G.run X.A.in1 X.stack s H ⟨[.ref a], []⟩ [.ref a] [.ref a] _ _ hr.in1 I.env0.in1 (by
    have := hb s [.ref a] I.kIn rfl
    simpa using this) (.cons rfl .nil) hsp
  refine Calls.call_function_entry kind_len plain_len entry_len (args_len1 _) ?_
  show wpAny _ _ (Builtin.«len» _) _ _ _
  unfold Builtin.«len»
  refine wpAny_bind (m := oneArg "len" _) (wpAny_pure ?_)
  refine wpAny_bind (m := callSpecial? (.ref a) (PySem.Str.ofString "__len__")) ?_
  simp only [callSpecial?]
  refine wpAny_bind (look.here ?_)
  refine wpAny_holding (wpAny_bind (bnd.here ?_))
  refine wpAny_bind (wpAny_call (codeAny_mono run fun r s' hq => ?_))
  rcases r with er | fl
  · exact hq.elim
  · match fl, hq with
    | .next, hq => exact hq.elim
    | .brk, hq => exact hq.elim
    | .cont, hq => exact hq.elim
    | .ret u, hq =>
      obtain ⟨v, H', I3, ru, n, ev, h0, h1, q3⟩ := I.after hq
      subst ev
      obtain ⟨t, rfl⟩ := (show ∃ t, u = Value.int n t from ru)
      refine wpAny_pure (wpAny_bind (wpAny_holding (wpAny_pure ?_)))
      refine wpAny_bind (wpAny_letGo ?_)
      show wpAny _ _ (if n < 0 then _ else _) _ _ _
      rw [if_neg (by omega)]
      show wpAny _ _ (if n ≥ 2 ^ 63 then _ else _) _ _ _
      rw [if_neg (by omega)]
      exact wpAny_bind (wpAny_mkInt (wpAny_pure ⟨_, rfl, .int n, H', I3.tok _, ⟨_, rfl⟩, q3⟩))
theorem callR_or {f : Value} {r r' : List V → Hp → VK → Prop} (h : CallR X f r) (h' : CallR X f r') : CallR X f fun xs H Q => r xs H Q ∨ r' xs H Q := fun pins s σ H xs us Q I rv q => q.elim (h pins s σ H xs us Q I rv) (h' pins s σ H xs us Q I rv)
end
/-- the length of a field -/
def lenSp (K : PySem.W.Frag) (C : Addr) (f : Str) : Sp := fun vs H Q _ => ∃ a dx fs b ys, vs = [V.ref a] ∧ H a = some (.ins C dx fs) ∧ fs.lookup f = some (.ref b) ∧ (SqL K H b ys ∨ SqT K H b ys) ∧ Q (.int (ys.length : Nat)) H
theorem fn_lenF {CX : CXT} {P : Program} {w : World} {K : PySem.W.Frag} {mg : Str → Option Value} {base : Heap} {fa C : Addr} {name qual f : Str} {params : Arguments} {body : List Stmt} {scope : Scope} {fd : FuncData} {p1 p2 p3 p4 p5 : Pos}
    (Fd : FunD K name qual params body scope [] [] fa fd) (S : FnScope ["self"] ["self"] scope) (hb : body = [.Return (some (.Call (.Name "len" p1) [.Attribute (.Name "self" p2) f p3] [] p4)) p5]) (c : Cls K C) (n : NoAttr K C f) (hm : mg "len" = none)
    (hg : ∀ (A : Around) (outer : List Env) (s : Shared) (H : Hp) (E : XK) (cdv : Value), Gl (cxOf CX P w K mg base ["self"] qual scope fa cdv A outer s H E) "len") : FnOk P w K mg base CX 1 fa fd ["self"] (lenSp K C f) := by
  obtain ⟨oc, od, dV, kV, doc, pm, an, cdv, ct, osl, rfl, lk, hcd, _, _⟩ := Fd.ex
  refine fn_of lk hcd S (fun vs H Q E h => ?_) (fun A outer s H vs Q E hr h => ?_)
  · obtain ⟨a, dx, fs, b, ys, e, _⟩ := h
    rw [e]; rfl
  · obtain ⟨a, dx, fs, b, ys, e, ea, l, q2, q⟩ := h
    subst e hb
    refine ⟨_, pss_one (ps_ret (pe_callB call_len_seq (hg _ _ _ _ _ _) hm PySem.boot_len (pa_cons (pe_fld (pe_var (i := 0) rfl ((S.par "self" (List.Mem.head _)).elim (fun z => .inl z) (fun z => .inr (.inl z)))) rfl) pa_nil))), ?_⟩
    exact ⟨.ref a, rfl, a, C, dx, fs, .ref b, rfl, ea, c, n, l, b, ys, rfl, q2, q⟩
section
variable {X : Cx} {F : Fm} {ow : List Nat} {c : Str} {fs : List Str}
/-- the class's __len__ tells how long its field is -/
structure LnX (P : Program) (w : World) (K : PySem.W.Frag) (mg : Str → Option Value) (base : Heap) (c fld : Str) : Prop where
  ex : ∃ f fd, PySem.W.findIn K (.ref (He.ga K c)) "__len__" = some (some (.ref f)) ∧ PySem.W.typeIn K (.ref f) = some (.type "function") ∧ FnOk P w K mg base CX0 1 f fd ["self"] (lenSp K (He.ga K c) fld) ∧ L2.Binds K fd ["self"] []
def gLenC (c fld : Str) : List PV → Option PV
  | [.ins d l] => if d = c then (match l.lookup fld with
    | some p => (match gLen [p] with
      | some (.int n) => if n ≤ 16777216 then some (.int n) else none
      | _ => none)
    | none => none) else none
  | ps => gLen ps
theorem gLen_sq {S : Se} {H : Hp} {O : Addr → Prop} {v : V} {p r : PV} (rv : RV S H O v p) (h : gLen [p] = some r) : ∃ b ys, v = .ref b ∧ (SqL S.K H b ys ∨ SqT S.K H b ys) ∧ r = .int (ys.length : Nat) := by
  unfold gLen at h
  split at h
  · rename_i l e
    cases e; cases h
    obtain ⟨a, vs, rfl, h1, t⟩ := rv.isT
    exact ⟨a, vs, rfl, .inr h1, by rw [t.length]⟩
  · rename_i l e
    cases e; cases h
    obtain ⟨a, vs, rfl, h1, t⟩ := rv.isL
    exact ⟨a, vs, rfl, .inl (.inl (.inl h1)), by rw [t.length]⟩
  · rename_i l e
    cases e; cases h
    obtain ⟨a, vs, rfl, h1, t⟩ := rv.isF
    exact ⟨a, vs, rfl, .inl h1, by rw [t.length]⟩
  · cases h
theorem co_lenC {fld : Str} (T : OC X.K X.mg c fs) (D : LnX X.prog X.w X.K X.mg X.base c fld) (hr : Room 2 X.A) (hS : F.S = ⟨X.K, X.mg, F.S.T⟩ := by rfl) : CallOk X F (.builtin "len") (gLenC c fld) := by
  obtain ⟨f, fd, hl, hty, G, hb⟩ := D.ex
  have hK : F.S.K = X.K := by rw [hS]
  have hM : F.S.mg = X.mg := by rw [hS]
  intro O
  obtain ⟨r0, hr0, k0⟩ := co_len (X := X) (F := F) hS O
  refine ⟨_, callR_or (call_lenC hl hty G hr hb) hr0, fun H xs ps r Q hp rs e q => ?_⟩
  unfold gLenC at e
  split at e
  · rename_i d l
    by_cases hd : d = c
    · subst hd
      rw [if_pos rfl] at e
      cases hlk : l.lookup fld with
      | none => rw [hlk] at e; cases e
      | some p =>
        rw [hlk] at e
        simp only at e
        obtain ⟨n, hn, hle, er⟩ : ∃ n : Int, gLen [p] = some (.int n) ∧ n ≤ 16777216 ∧ r = .int n := by
          split at e
          · rename_i n hn
            split at e
            · cases e; exact ⟨n, hn, by assumption, rfl⟩
            · cases e
          · cases e
        subst er
        obtain ⟨x, rfl, rx⟩ := rs.one
        cases rx.rv with
        | @ins a C dx d' vs l' n ea m t =>
          rw [hM, T.g] at m
          cases m
          obtain ⟨w, h1, h2⟩ := t.look hlk
          obtain ⟨b, ys, e1, e2, e3⟩ := gLen_sq h2 hn
          subst e1
          cases e3
          rw [hK] at e2
          exact .inl ⟨a, dx, vs, rfl, ea, a, dx, vs, b, ys, rfl, ea, h1, e2, ys.length, rfl, Int.natCast_nonneg _, by omega, q _ H (fun _ _ z => z) (.int _)⟩
    · rw [if_neg hd] at e; cases e
  · exact .inr (k0 H xs ps r Q hp rs e q)
end
end M

namespace M
open PySem PySem.Spec PyProof.Rows L2

/-! ### C(a, b): an own __init__ that looks at its arguments, then keeps them -/
inductive SI where
  | fin (l : List (Str × PV)) | exc (z : Ex) | bad
abbrev Mi := En → SI
def startI (L : Nat) (ps : List PV) : En := none :: startE (L - 1) ps
abbrev withX (O : Addr → Prop) (x : Addr) : Addr → Prop := fun a => O a ∨ a = x
def spI (S : Se) (C : Addr) (n : Nat) (mi : List PV → SI) : Sp := fun vs H Q E => ∃ (x dx : Addr) (ws : List V) (O : Addr → Prop) (ps : List PV), vs = .ref x :: ws ∧ ws.length = n ∧ ps.length = n ∧ Pre H O ∧ H x = some (.ins C dx []) ∧ LamX.Tabs S.T H ∧
  (∀ (k : Nat) (p : PV), ps[k]? = some p → ∃ v, ws[k]? = some v ∧ RV S H (withX O x) v p) ∧
  match mi ps with
  | .fin l => ∀ H' fs, Keep (fun a => a = x) H H' → LamX.Tabs S.T H' → H' x = some (.ins C dx fs) → FVs S H' (withX O x) fs l → Q .non H'
  | .exc z => ∀ cls d H', KeepA H H' → LamX.Tabs S.T H' → ExAt S H' (withX O x) cls d z → E cls d H'
  | .bad => False
theorem erI {S : Se} {N : List Str} {n : Nat} {O : Addr → Prop} {ws : List V} {ps : List PV} {H : Hp} {x : Addr} (hv : ws.length = n) (hp : ps.length = n) (hN : n + 1 ≤ N.length) (pre : Pre H O) (hx : Hd H x) (htb : LamX.Tabs S.T H)
    (h1 : ∀ (k : Nat) (p : PV), ps[k]? = some p → ∃ v, ws[k]? = some v ∧ RV S H (withX O x) v p) : ER S (withX O x) [] (L2.start N (.ref x :: ws)) H (startI N.length ps) := by
  refine ⟨fun i p e _ => ?_, fun i p _ hi => (by cases hi), fun i hi => (by cases hi), fun i j a hi => (by cases hi), fun i a hi => (by cases hi), fun a g => ?_, htb, ?_⟩
  · cases i with
    | zero => simp [startI] at e
    | succ i =>
      have e' : (startE (N.length - 1) ps)[i]? = some (some p) := by simpa [startI] using e
      obtain ⟨v, e1, r⟩ := h1 i p (startE_get e')
      exact ⟨v, start_of (by simpa using e1), r.mono Keep.refl fun a _ g => g.elim id fun ⟨j, hj, _⟩ => (by cases hj)⟩
  · rcases g with g | g
    · exact pre a g
    · subst g; exact hx
  · unfold startI startE L2.start
    simp [hv, hp]
    omega
/-- a guarded cell changes -/
theorem ER.guard {S : Se} {G : Addr → Prop} {ow : List Nat} {σ : L2.St} {H : Hp} {e : En} (R : ER S G ow σ H e) {x : Addr} {u o : HO} (hx : H x = some u) (hg : G x) (nt : NT u := by exact fun _ z => by cases z) (ne : ∀ φ, u ≠ .ext φ := by exact fun _ z => by cases z) (no : NT o := by exact fun _ z => by cases z) : ER S G ow σ (L2.upd H x o) e := by
  have k : Keep (Gd G ow σ) H (L2.upd H x o) := Keep.own hx (.inl hg) nt ne
  refine ⟨fun i p h1 h2 => ?_, fun i p h1 h2 => ?_, R.off, R.sep, R.ng, fun a g => ?_, fun p hp => tab_own hx nt ne (R.tb p hp), R.len⟩
  · obtain ⟨v, h3, h4⟩ := R.val i p h1 h2
    exact ⟨v, h3, h4.mono k Less.refl⟩
  · obtain ⟨v, h3, h4⟩ := R.own i p h1 h2
    refine ⟨v, h3, h4.mono k Less.refl fun a z => ?_⟩
    subst z
    exact upd_ne fun q => R.ng i a h2 h3 (q ▸ hg)
  · by_cases q : a = x
    · subst q; exact ⟨o, upd_same, no⟩
    · obtain ⟨w, h1, h2⟩ := R.gt a g
      exact ⟨w, (upd_ne q).trans h1, h2⟩
def rdMk (F : Fm) (x C dx : Addr) (m : Mi) : TS := fun D σ H => ∃ e, ER F.S F.G [] σ H e ∧ σ[0]? = some (some (.ref x)) ∧ H x = some (.ins C dx []) ∧ match m e with
  | .fin l => ∀ H' fs, Keep (fun a => a = x) H H' → LamX.Tabs F.S.T H' → H' x = some (.ins C dx fs) → FVs F.S H' F.G fs l → ∀ σ', D.nx σ' H'
  | .exc z => ∀ σ' H' cls d, KeepA H H' → LamX.Tabs F.S.T H' → ExAt F.S H' F.G cls d z → F.W cls d σ' H'
  | .bad => False
def mSeqJ (a : Ms) (m : Mi) : Mi := fun e => match a e with
  | .nxt e1 => m e1
  | .exc z _ => .exc z
  | _ => .bad
def mFin2 (f1 : Str) (ma : Mo PV) (f2 : Str) (mb : Mo PV) : Mi := fun e => match ma e with
  | .ok p e1 => (match mb e1 with
    | .ok q _ => .fin [(f1, p), (f2, q)]
    | _ => .bad)
  | _ => .bad
section
variable {X : Cx} {F : Fm} {x C dx : Addr}
theorem noOwn {σ : L2.St} {a : Addr} : ¬ Own [] σ a := fun ⟨i, hi, _⟩ => by cases hi
theorem pmsI_cons {st : Stmt} {rest : List Stmt} {a : Ms} {m : Mi} (h1 : PS X st (rdS F [] [] [] a)) (h2 : PSs X rest (rdMk F x C dx m)) (hio : 0 ∈ F.io) : PSs X (st :: rest) (rdMk F x C dx (mSeqJ a m)) :=
  (pss_cons h1 h2).imp fun D σ H ⟨e, R, h0, hx, p⟩ => by
    refine ⟨e, R, ?_⟩
    unfold mSeqJ at p
    cases q : a e with
    | nxt e1 =>
      simp only [q] at p
      intro σ1 H1 ks st R1
      have kk : KeepA H H1 := ⟨fun y o e _ nt => (ks.kp y o e noOwn nt).1⟩
      refine ⟨e1, R1, (st 0 hio).trans h0, kk.kp x _ hx id nt_ins, ?_⟩
      cases q2 : m e1 with
      | fin l =>
        simp only [q2] at p
        exact fun H' fs k tb hx' fv σ' => p H' fs (kk.of_all.trans k) tb hx' fv σ'
      | exc z =>
        simp only [q2] at p
        exact fun σ' H' cls d k tb xa => p σ' H' cls d (kk.trans k) tb xa
      | bad => simp only [q2] at p
    | exc z e1 =>
      simp only [q] at p
      intro σ' oz H' cls d ks st R' xa
      refine p σ' H' cls d ⟨fun y o e _ nt => (ks.kp y o e noOwn nt).1⟩ R'.tb ⟨xa.1, ?_⟩
      have x2 := xa.2
      cases d with
      | none => exact x2
      | some d =>
        obtain ⟨nd, fs, hd, hf⟩ := x2
        exact ⟨fun oa => nd (.inl oa), fs, hd, hf.mono Keep.refl fun a _ oa => .inl oa⟩
    | ret v e1 => simp only [q] at p
    | brk e1 => simp only [q] at p
    | cnt e1 => simp only [q] at p
    | bad => simp only [q] at p
theorem pmsI_fin {c : Str} {fl : List Str} {self f1 f2 : Str} {a b : Expr} {ma mb : Mo PV} {p1 p2 p3 p4 pos1 pos2 : Pos} (T : OC X.K X.mg c fl) (hC : C = He.ga X.K c) (m1 : f1 ∈ fl) (m2 : f2 ∈ fl) (h12 : f1 ≠ f2) (hG : F.G x)
    (ha : PE X a (rd F [] ma)) (hb : PE X b (rd F [] mb)) (hN : X.N[0]? = some self) (hv : Vis X.env.scope self) (hd : (self == ("__debug__" : Str)) = false) (hcd : (self == ("__classdict__" : Str)) = false)
    (hs1 : swapsWith a (some (.Attribute (.Name self p1) f1 p2)) pos1.line X.env = pure false := by rfl) (hs2 : swapsWith b (some (.Attribute (.Name self p3) f2 p4)) pos2.line X.env = pure false := by rfl) :
    PSs X [.Assign [.Attribute (.Name self p1) f1 p2] a pos1, .Assign [.Attribute (.Name self p3) f2 p4] b pos2] (rdMk F x C dx (mFin2 f1 ma f2 mb)) :=
  (pss_cons (ps_fld (pe_var (i := 0) hN hv hd hcd) ha hs1) (pss_one (ps_fld (pe_var (i := 0) hN hv hd hcd) hb hs2))).imp fun D σ H ⟨e, R, h0, hx, p⟩ => by
    subst hC
    unfold mFin2 at p
    refine ⟨e, R, ?_⟩
    cases q : ma e with
    | bad => simp only [q] at p
    | exc z e1 => simp only [q] at p
    | ok v1 e1 =>
      simp only [q] at p
      intro H1 k1 R1 y1 r1
      have hx1 := k1.kp x _ hx noOwn nt_ins
      refine ⟨.ref x, h0, x, _, dx, [], rfl, hx1, T.ins.cl, T.no f1 m1, by decide, ?_⟩
      have R2 := R1.guard (o := .ins (He.ga X.K c) dx (putF f1 y1 [])) hx1 hG
      refine ⟨e1, R2, ?_⟩
      cases q2 : mb e1 with
      | bad => simp only [q2] at p
      | exc z e2 => simp only [q2] at p
      | ok v2 e2 =>
        simp only [q2] at p
        intro H2 k2 R3 y2 r2
        have hx2 := k2.kp x _ (upd_same (H := H1) (a := x) (o := .ins (He.ga X.K c) dx (putF f1 y1 []))) noOwn nt_ins
        refine ⟨.ref x, h0, x, _, dx, _, rfl, hx2, T.ins.cl, T.no f2 m2, by simp [putF], ?_⟩
        have ef : putF f2 y2 (putF f1 y1 []) = [(f1, y1), (f2, y2)] := by simp [putF, h12]
        rw [ef]
        have kx : Keep (fun a => a = x) H1 (upd H1 x (.ins (He.ga X.K c) dx (putF f1 y1 []))) := Keep.own hx1 rfl
        have ky : Keep (fun a => a = x) H2 (upd H2 x (.ins (He.ga X.K c) dx [(f1, y1), (f2, y2)])) := Keep.own hx2 rfl
        have kg1 : Keep (Gd F.G [] σ) H1 (upd H1 x (.ins (He.ga X.K c) dx (putF f1 y1 []))) := Keep.own hx1 (.inl hG)
        have kg2 : Keep (Gd F.G [] σ) H2 (upd H2 x (.ins (He.ga X.K c) dx [(f1, y1), (f2, y2)])) := Keep.own hx2 (.inl hG)
        have n1 : ∀ {A B : Hp}, Keep (Own [] σ) A B → KeepA A B := fun k => ⟨fun y o e _ nt => k.kp y o e noOwn nt⟩
        have R4 := R3.guard (o := .ins (He.ga X.K c) dx [(f1, y1), (f2, y2)]) hx2 hG
        have ls : ∀ {A : Hp}, Less A (Gd F.G [] σ) F.G := fun a _ g => .inl g
        refine p _ [(f1, y1), (f2, y2)] ((n1 k1).of_all.trans (kx.trans ((n1 k2).of_all.trans ky))) R4.tb upd_same (.cons ?_ (.cons ?_ .nil)) σ
        · exact r1.mono (kg1.trans ((n1 k2).of_all.trans kg2)) ls
        · exact r2.mono kg2 ls
end
theorem fnI {P : Program} {w : World} {K : PySem.W.Frag} {mg : Str → Option Value} {T : List (Addr × Str)} {base : Heap} {x qual : Str} {params : Arguments} {body : List Stmt} {scope : Scope} {f C : Addr} {fd : FuncData} {N ps : List Str} {k n : Nat} {m : Mi}
    (Fd : FunD K x qual params body scope [] [] f fd) (sc : FnScope N ps scope)
    (hb : ∀ (G : Addr → Prop) (cdv : Value) (A : Around) (outer : List Env) (s : Shared) (H : Hp) (E : XK) (z dx : Addr), Room k (A.deeper (PyProof.Rows.envOfC qual scope s.heap.objs.size f cdv)) → G z →
      PSs (cxOf (L2.CX P w) P w K mg base N qual scope f cdv A outer s H E) body (rdMk ⟨⟨K, mg, T⟩, G, [0], fun cls d _ H' => E cls d H'⟩ z C dx m))
    (hn : ps.length = n + 1 := by rfl) (hN : n + 1 ≤ N.length := by decide) : FnOk P w K mg base (L2.CX P w) (k + 1) f fd ps (spI ⟨K, mg, T⟩ C n fun ps => m (startI N.length ps)) := by
  refine Fd.ok sc (fun vs H Q E h => ?_) (fun cdv A outer s H vs Q E hr h => ?_)
  · obtain ⟨x, dx, ws, O, ps', e, hv, _⟩ := h
    rw [e, hn, List.length_cons, hv]
  · obtain ⟨x, dx, ws, O, pv, e, hv, hp, pre, hx, htb, h1, h4⟩ := h
    subst e
    have R := erI (S := ⟨K, mg, T⟩) (N := N) hv hp hN pre ⟨_, hx, nt_ins⟩ htb h1
    refine ⟨_, hb (withX O x) cdv A outer s H E x dx hr (.inr rfl), startI N.length pv, R, start_of rfl, hx, ?_⟩
    cases q : m (startI N.length pv) with
    | fin l =>
      simp only [q] at h4
      exact fun H' fs kp tb hx' fv σ' => h4 H' fs kp tb hx' fv
    | exc z =>
      simp only [q] at h4
      exact fun σ' H' cls d kp tb xa => h4 cls d H' kp tb xa
    | bad => simp only [q] at h4
/-- the class's __init__ -/
structure MkX (P : Program) (w : World) (K : PySem.W.Frag) (mg : Str → Option Value) (T : List (Addr × Str)) (base : Heap) (c : Str) (k n : Nat) (mi : List PV → SI) : Prop where
  ex : ∃ fd ps, FnOk P w K mg base (L2.CX P w) k (He.ma K (He.ga K c) "__init__") fd ps (spI ⟨K, mg, T⟩ (He.ga K c) n mi) ∧ L2.Binds K fd ps []
def mMake (c : Str) (n : Nat) (mi : List PV → SI) (ml : Mo (List PV)) : Mo PV := fun e => (ml e).bind fun l e1 => if l.length = n then (match mi l with
  | .fin fs => .ok (.ins c fs) e1
  | .exc z => .exc z e1
  | .bad => .bad) else .bad
theorem pm_make {X : Cx} {F : Fm} {ow : List Nat} {c : Str} {fs : List Str} {k n : Nat} {mi : List PV → SI} {ml : Mo (List PV)} {E : XK} {p pos : Pos} {a : Expr} {es : List Expr} (T : OC X.K X.mg c fs) (D : MkX X.prog X.w X.K X.mg F.S.T X.base c k n mi) (hr : Room (k + 1) X.A) (hg : Gl X c)
    (hx : Passes (L2.CX X.prog X.w) X E) (hW : ∀ cls d σ H, F.W cls d σ H → E cls d H) (ha : PA X (a :: es) (rdA F ow ml)) (hS : F.S = ⟨X.K, X.mg, F.S.T⟩ := by rfl) (hdb : (c == ("__debug__" : Str)) = false := by decide)
    (he : starEach (a :: es) X.env = (false, eval a X.env) :: starEach es X.env := by rfl) (hpl : (backTo pos (starEach es X.env)).any (·.1) = false := by rfl) : PE X (.Call (.Name c p) (a :: es) [] pos) (rd F ow (mMake c n mi ml)) := by
  obtain ⟨fd, ps, G, hb⟩ := D.ex
  refine (pe_make T.mkr G hr hg T.g hb .nil hx ha hdb he hpl).imp fun σ H Q h => ?_
  obtain ⟨e, R, q⟩ := h
  refine ⟨e, R, (Post.unbind q).mono fun l e1 H1 k1 R1 q1 vs rs => ?_⟩
  intro x dx nx ndx ne
  rw [List.append_nil]
  have hM : F.S.mg = X.mg := by rw [hS]
  have kA : ∀ a o, H1 a = some o → (upd (upd H1 dx (.own x)) x (.ins (He.ga X.K c) dx [])) a = some o := fun a o z => by
    rw [upd_ne (ne_of_none z nx), upd_ne (ne_of_none z ndx)]; exact z
  by_cases hl : l.length = n
  · rw [if_pos hl] at q1
    refine ⟨x, dx, vs, Gd F.G ow σ, l, rfl, by rw [rs.length, hl], hl, fun a z => ?_, upd_same, fun p hp => ?_, fun i p z => ?_, ?_⟩
    · obtain ⟨o, e2, nt⟩ := R1.tracked a z
      exact ⟨o, kA a o e2, nt⟩
    · exact (R1.tb p hp).ext kA
    · obtain ⟨v, e2, rv⟩ := rs.get z
      refine ⟨v, e2, ?_⟩
      rw [← hS]
      exact rv.mono (Keep.all kA) fun a hd g => g.elim id fun z => absurd nx (z ▸ hd.ne)
    · have nG : ¬ Gd F.G ow σ x := fun z => (R1.tracked x z).ne nx
      cases hm : mi l with
      | fin l2 =>
        simp only [hm] at q1 ⊢
        intro H' fs' kp tb hx' fv
        have kk : KeepA H1 H' := ⟨fun a o z _ nt => kp.kp a o (kA a o z) (fun w => by subst w; rw [z] at nx; cases nx) nt⟩
        rw [← hS] at fv
        refine ⟨trivial, q1 H' kk.of_all (R1.keepA kk tb) (.ref x) (.ins nG hx' (by rw [hM]; exact T.g) (fv.mono Keep.refl fun a _ z => .inl z))⟩
      | exc z =>
        simp only [hm] at q1 ⊢
        intro cls d H' kp tb xa
        have kk : KeepA H1 H' := ⟨fun a o z _ nt => kp.kp a o (kA a o z) id nt⟩
        rw [← hS] at xa
        refine hW _ _ _ _ (q1 H' cls d kk.of_all (R1.keepA kk tb) ⟨xa.1, ?_⟩)
        have x2 := xa.2
        cases d with
        | none => exact x2
        | some d =>
          obtain ⟨nd, fs', hd, hf⟩ := x2
          exact ⟨fun oa => nd (.inl oa), fs', hd, hf.mono Keep.refl fun a _ oa => .inl oa⟩
      | bad => simp only [hm] at q1; exact q1.elim
  · rw [if_neg hl] at q1; exact q1.elim
end M

namespace M
open PySem PySem.Spec PyProof.Rows L2

/-! ### the head's facts, with the getters of properties -/
def fnWa (K : PySem.W.Frag) (a : Addr) : He.FnW := match K.lookup a with
  | some ⟨_, _, .func fd, _⟩ => some (fd.name, fd.qualname, fd.params, fd.body, fd.scope, fd.globals, fd.closure, fd.builtins)
  | _ => none
def gAd (K : PySem.W.Frag) (d : He.DefD) : Addr := gA K (He.ga K d.at_.1) (d.at_.2.getD Str.empty)
def gOk (K : PySem.W.Frag) (d : He.DefD) : Bool := PySem.W.keepIn K (.ref (gAd K d)) && (match K.lookup (gAd K d) with
  | some ⟨_, _, .func fd, _⟩ => PySem.W.codeIn K fd.code d.qual && (He.dflB K fd.defaults [] && He.kwdB K fd.kwdefaults [])
  | _ => false)
theorem gFun {K : PySem.W.Frag} {d : He.DefD} (e : fnWa K (gAd K d) = d.val) (c : gOk K d = true) : ∃ fd, FunD K d.name d.qual d.params d.body d.scope [] [] (gAd K d) fd := by
  obtain ⟨kp, c2⟩ := Bool.and_eq_true_iff.mp c
  unfold fnWa at e
  cases q : K.lookup (gAd K d) with
  | none => rw [q] at c2; cases c2
  | some o =>
    obtain ⟨oc, od, dt, osl⟩ := o
    rw [q] at c2 e
    cases dt with
    | func fd =>
      obtain ⟨n1, n2, n3, n4, n5, n6, n7, n8, n9, n10, n11, n12, n13, n14, n15⟩ := fd
      have e2 : (some (n1, n2, n3, n4, n5, n6, n7, n15) : He.FnW) = some (d.name, d.qual, d.params, .stmts d.body, d.scope, mainGlobals, [], builtinsNs) := e
      simp only [Option.some.injEq, Prod.mk.injEq] at e2
      obtain ⟨rfl, rfl, rfl, rfl, rfl, rfl, rfl, rfl⟩ := e2
      have c3 : (PySem.W.codeIn K n13 d.qual && (He.dflB K n8 [] && He.kwdB K n9 [])) = true := c2
      obtain ⟨k1, k2⟩ := Bool.and_eq_true_iff.mp c3
      obtain ⟨k3, k4⟩ := Bool.and_eq_true_iff.mp k2
      exact ⟨_, ⟨oc, od, n8, n9, n10, n11, n12, n13, n14, osl, rfl, q, k1, He.dflB_ok k3, He.kwdB_ok k4⟩, kp⟩
    | _ => cases c2
abbrev AlY : Type := He.AlX × (Bool × List He.FnW)
def obsGet (gs : List He.DefD) (K : PySem.W.Frag) : Bool × List He.FnW := (gs.all fun d => gOk K d, gs.map fun d => fnWa K (gAd K d))
def valGet (gs : List He.DefD) : Bool × List He.FnW := (true, gs.map He.DefD.val)
def obsY (n : Nat) (fa : List He.Fa) (fn : List He.DefD) (tf : List He.Defn) (ex : PySem.W.Frag → Bool) (gs : List He.DefD) (g : Addr → Option Obj) : AlY := (He.obsX n fa fn [] tf ex g, obsGet gs (He.frT g (He.asD g n)))
def hookY (n : Nat) (fa : List He.Fa) (fn : List He.DefD) (tf : List He.Defn) (ex : PySem.W.Frag → Bool) (gs : List He.DefD) : PySem.W.Hook where
  α := AlY
  obs := fun s => obsY n fa fn tf ex gs s.heap.get?
  val := fun w => (He.valX fn [] w, valGet gs)
  says := fun w h => ∃ K : PySem.W.Frag, K.In h ∧ He.SaysX fa fn [] tf ex w h K ∧ obsGet gs K = valGet gs
  of := fun _ _ e => ⟨_, He.frT_in, He.saysX_of (congrArg (fun z : AlY => z.1) e), congrArg (fun z : AlY => z.2) e⟩
  keeps := fun _ _ _ ⟨K, hK, c, d⟩ k => ⟨K, PySem.W.Frag.In.keeps hK k, ⟨c.t, c.more, c.hd, c.out, fun p hp => k _ _ (c.empty p hp)⟩, d⟩
theorem obsY_eq {n : Nat} {fa : List He.Fa} {fn : List He.DefD} {tf : List He.Defn} {ex : PySem.W.Frag → Bool} {gs : List He.DefD} {g : Addr → Option Obj} {s : Shared} (h : ∀ a, g a = s.heap.get? a) : obsY n fa fn tf ex gs g = (hookY n fa fn tf ex gs).obs s := by
  have e : g = s.heap.get? := funext h
  rw [e] <;> rfl
theorem get_at {gs : List He.DefD} {K : PySem.W.Frag} (h : obsGet gs K = valGet gs) (i : Nat) {d : He.DefD} (e : gs[i]? = some d) : ∃ fd, FunD K d.name d.qual d.params d.body d.scope [] [] (gAd K d) fd := by
  have h1 : (gs.all fun d => gOk K d) = true := congrArg (fun z : Bool × List He.FnW => z.1) h
  have h2 : gs.map (fun d => fnWa K (gAd K d)) = gs.map He.DefD.val := congrArg (fun z : Bool × List He.FnW => z.2) h
  have h3 := congrArg (fun l => l[i]?) h2
  simp only [List.getElem?_map, e, Option.map_some, Option.some.injEq] at h3
  exact gFun h3 (List.all_eq_true.mp h1 d (List.mem_of_getElem? e))
/-- a getter's facts -/
theorem prx_of {P : Program} {w : World} {K : PySem.W.Frag} {mg : Str → Option Value} {base : Heap} {c f fld name qual : Str} {fs : List Str} {params : Arguments} {body : List Stmt} {scope : Scope} {fd : FuncData} {p1 p2 p3 : Pos} (T : OC K mg c fs) (hf : fld ∈ fs) (hp : propB K (He.ga K c) f = true)
    (Fd : FunD K name qual params body scope [] [] (gA K (He.ga K c) f) fd) (S : FnScope ["self"] ["self"] scope) (hb : body = [.Return (some (.Attribute (.Name "self" p1) fld p2)) p3]) (bi : L2.Binds K fd ["self"] []) : PrX P w K mg base c f fld := by
  obtain ⟨p, hp⟩ := propB_ok hp
  obtain ⟨oc, od, dV, kV, doc, pm, an, cdv, ct, osl, rfl, lk, hcd, _, _⟩ := Fd.ex
  exact ⟨p, _, _, hp, fn_getter (k := 0) lk hcd S rfl hb T.ins.cl (T.no fld hf), bi⟩
/-- what __len__ stands as -/
def lenB (K : PySem.W.Frag) (c : Str) : Bool := He.eqO (PySem.W.findIn K (.ref (He.ga K c)) "__len__") (some (some (.ref (He.ma K (He.ga K c) "__len__")))) && decide (PySem.W.typeIn K (.ref (He.ma K (He.ga K c) "__len__")) = some (.type "function"))
theorem lnx_of {P : Program} {w : World} {K : PySem.W.Frag} {mg : Str → Option Value} {base : Heap} {c fld name qual : Str} {fs : List Str} {params : Arguments} {body : List Stmt} {scope : Scope} {fd : FuncData} {p1 p2 p3 p4 p5 : Pos} (T : OC K mg c fs) (hf : fld ∈ fs) (hl : lenB K c = true)
    (Fd : FunD K name qual params body scope [] [] (He.ma K (He.ga K c) "__len__") fd) (S : FnScope ["self"] ["self"] scope) (hb : body = [.Return (some (.Call (.Name "len" p1) [.Attribute (.Name "self" p2) fld p3] [] p4)) p5]) (hm : mg "len" = none)
    (hg : ∀ (A : Around) (outer : List Env) (s : Shared) (H : Hp) (E : XK) (cdv : Value), Gl (cxOf CX0 P w K mg base ["self"] qual scope (He.ma K (He.ga K c) "__len__") cdv A outer s H E) "len") (bi : L2.Binds K fd ["self"] []) : LnX P w K mg base c fld := by
  unfold lenB at hl
  obtain ⟨h1, h2⟩ := Bool.and_eq_true_iff.mp hl
  exact ⟨_, _, He.eqO_ok h1, of_decide_eq_true h2, fn_lenF Fd S hb T.ins.cl (T.no fld hf) hm hg, bi⟩
end M

namespace M
open PySem PySem.Spec PyProof.Rows L2

/-! ### set(xs) of a list of ints -/
abbrev ledOf (w : World) : Bool := !w.params.followText "set-order"
abbrev emptySet (b : Bool) : Obj := { cls := .type "set", dict := none, data := .set #[] 0 (.fresh 0 0 b) }
section
variable {P : Program} {w : World} {A : Around} {E : Value → Shared → Prop} {s : Shared}
abbrev InSet (ns : List Int) (j : Int) : Bool := decide (j ∈ ns)
/-- what __init__ leaves -/
def SetDone (w : World) (s : Shared) (ns : List Int) (r : Value) (s2 : Shared) : Prop :=
  r = .none ∧ ∃ h' tk c, s2 = { s with heap := h', toks := tk } ∧
    SetR w h' s.heap.objs.size (InSet ns) c ∧ c ≤ ns.length ∧ ∀ b o, s.heap.get? b = some o → h'.get? b = some o
theorem int_at_of {its : Array Value} {ns : List Int} (hi : IntsAre its.toList ns) (hz : its.size = ns.length) (i : Nat) (v : Value)
    (hv : its[i]? = some v) : ∃ k t, ns[i]? = some k ∧ v = .int k t := by
  have lt : i < ns.length := by
    have := (Array.getElem?_eq_some_iff.mp hv).1
    omega
  obtain ⟨t, e⟩ := IntsAre.int_at hi i v (by rw [Array.getElem?_toList]; exact hv)
  refine ⟨ns[i], t, List.getElem?_eq_getElem lt, ?_⟩
  simpa [List.getD_eq_getElem?_getD, List.getElem?_eq_getElem lt] using e
theorem init_setL {l : Addr} {its : Array Value} {ns : List Int} (hh : A.handled = none) (hl : s.heap.IsList l its)
    (hi : IntsAre its.toList ns) (hb : ns.length + 1 < scanBound) :
    codeAny (model P w) A (.call (.builtin "set.__init__") ⟨[.ref s.heap.objs.size, .ref l], []⟩) (wants (SetDone w s ns) E)
      { s with heap := s.heap.push (emptySet (ledOf w)) } := by
  have nsz : its.size = ns.length := by
    have := IntsAre.length hi
    rwa [Array.length_toList] at this
  have gS : (s.heap.push (emptySet (ledOf w))).get? s.heap.objs.size = some (emptySet (ledOf w)) := Heap.get?_push_size _ rfl
  have tS : Shared.TypeIs { s with heap := s.heap.push (emptySet (ledOf w)) } (.ref s.heap.objs.size) "set" := ⟨_, gS, rfl⟩
  refine codeAny_call_builtin F.called_set.init.plain F.entry_set_init (check_set_init_1 tS ?_)
  obtain ⟨ol, gl, cl, nl, dl⟩ := hl
  obtain ⟨c0, d0, dt0, sl0⟩ := ol
  simp only at cl dl
  subst cl
  subst dl
  have gl' : (s.heap.push (emptySet (ledOf w))).get? l = some { cls := .type "list", dict := d0, data := .seq its nl, slots := sl0 } :=
    Heap.get?_push_of_some _ gl
  have u1 := F.sub_list_set
  have u2 := F.sub_list_frozenset
  have u3 : (Value.type "list" == Value.type "dict") = false := by decide
  have isl : (s.heap.push (emptySet (ledOf w))).IsList l its := ⟨_, gl', rfl, nl, rfl⟩
  unfold Builtin.«set.__init__» noKeywords Builtin.Frozenset.updateFrom
  generalize hPI : pyIter = PI
  wp_walk
  subst hPI
  refine wpAny_pyIter_list isl ?_
  refine wpAny_bind (wpAny_runValue ?_)
  have ltl : l < s.heap.objs.size := Heap.lt_size gl
  have nh : A.in1.in1.handled = none := by simp [hh]
  have z1 : (s.heap.push (emptySet (ledOf w))).objs.size = s.heap.objs.size + 1 := Heap.size_push ..
  have neI : l ≠ (s.heap.push (emptySet (ledOf w))).objs.size := by rw [z1]; exact Nat.ne_of_lt (Nat.lt_succ_of_lt ltl)
  have nin : s.heap.objs.size ∉ [(s.heap.push (emptySet (ledOf w))).objs.size, l] := by
    rw [z1]
    simp
    exact Nat.ne_of_gt ltl
  refine set_update_ints (Walks.list nh _ l neI its).toS s.heap.objs.size nin ns nsz hb (int_at_of hi nsz)
    (its.size - 0) 0 _ (by omega) (Nat.zero_le _) ?st ?S0 ?R0
  case st => exact ⟨⟨_, Heap.get?_push_size _ rfl, rfl, rfl⟩, isl.push _⟩
  case S0 => exact ⟨0, Nat.le_refl 0, setR_new_at (Heap.get?_push_of_some _ gS)⟩
  case R0 =>
    intro s' c' hm hc' hS'
    obtain ⟨h', g2, d2, tk', os2⟩ := s'
    have e1 : g2 = s.gens := hm.gens
    have e2 : d2 = s.drawn := hm.drawn
    have e3 : os2 = s.os := hm.os
    subst e1 e2 e3
    show wpAny _ _ _ _ _ _
    refine wpAny_pure ?_
    show wpAny _ _ (ret Value.none) _ _ _
    refine wpAny_pure ⟨rfl, h', tk', c', rfl, hS', by omega, fun b o e => ?_⟩
    have b0 : b < s.heap.objs.size := Heap.lt_size e
    refine hm.heap b o (fun m => ?_) (Heap.get?_push_of_some _ (Heap.get?_push_of_some _ e))
    rcases List.mem_cons.mp m with q | q
    · exact absurd b0 (by rw [q]; exact Nat.lt_irrefl _)
    · have q := List.mem_singleton.mp q
      rw [q, z1] at b0
      exact absurd b0 (Nat.not_lt.mpr (Nat.le_succ _))
theorem call_setL {l : Addr} {its : Array Value} {ns : List Int} {Q : Value → Shared → Prop} (hh : A.handled = none) (hl : s.heap.IsList l its)
    (hi : IntsAre its.toList ns) (hb : ns.length + 1 < scanBound)
    (h : ∀ s2, SetDone w s ns .none s2 → Q (.ref s.heap.objs.size) s2) : wpAny (model P w) A (call (.type "set") [.ref l]) Q E s := by
  obtain ⟨c, tl, hmro⟩ := F.called_set.mro
  have t1 := F.called_set.made
  have t2 := F.called_set.sub
  have t3 := F.called_set.notType
  have t4 := F.called_set.canCreate
  have t5 := F.typeCall_set_1 (.ref l)
  refine wpAny_call (codeAny_of_tree ?_)
  show wpAny _ _ (callAny (.type "set") _) _ _ _
  refine wpAny_pure ⟨Code.quiet_builtin _ (by decide +kernel), ?_⟩
  refine codeAny_builtin F.entry_type_call ?_
  rw [Around.under_plain (weight_type_call_type "set" [.ref l] []) rfl]
  repeat (any_goals (first | assumption | wp_step))
  refine codeAny_mono (code_set_led1 (.ref l) (E := E) (Q₁ := fun v s1 => v = .ref s.heap.objs.size ∧ s1 = { s with heap := s.heap.push (emptySet (ledOf w)) }) ⟨rfl, rfl⟩) fun r s1 hr => ?_
  cases r with
  | error e => exact hr
  | ok fl =>
    cases fl with
    | ret v =>
      obtain ⟨rfl, rfl⟩ := hr
      have gS : (s.heap.push (emptySet (ledOf w))).get? s.heap.objs.size = some (emptySet (ledOf w)) := Heap.get?_push_size _ rfl
      have tS : Shared.TypeIs { s with heap := s.heap.push (emptySet (ledOf w)) } (.ref s.heap.objs.size) "set" := ⟨_, gS, rfl⟩
      have u1 := F.called_set.init.lookup
      have u2 := F.called_set.init.bind (.ref s.heap.objs.size)
      repeat (any_goals (first | assumption | wp_step))
      refine codeAny_mono (init_setL (E := E) (s := s) (by simpa using hh) hl hi hb) fun r2 s2 hr2 => ?_
      cases r2 with
      | error e => exact hr2
      | ok fl2 =>
        cases fl2 with
        | ret r =>
          obtain ⟨rfl, h', tk, c', rfl, k1, k2, k3⟩ := hr2
          repeat (any_goals (first | assumption | wp_step))
          exact h _ ⟨rfl, h', tk, c', rfl, k1, k2, k3⟩
        | _ => exact hr2.elim
    | _ => exact hr.elim
end
end M

namespace M
open PySem PySem.Spec PyProof.Rows L2

/-! ### ints in their order, once each -/
def insD (x : Int) : List Int → List Int
  | [] => [x]
  | y :: l => if x < y then x :: y :: l else if x = y then y :: l else y :: insD x l
def sortD : List Int → List Int
  | [] => []
  | x :: l => insD x (sortD l)
theorem mem_insD {x k : Int} : ∀ {l : List Int}, k ∈ insD x l ↔ k = x ∨ k ∈ l
  | [] => by simp [insD]
  | y :: l => by
    unfold insD
    split
    · simp
    · split
      · rename_i h; subst h; simp
      · simp only [List.mem_cons, mem_insD (l := l)]
        constructor
        · rintro (h | h | h)
          · exact .inr (.inl h)
          · exact .inl h
          · exact .inr (.inr h)
        · rintro (h | h | h)
          · exact .inr (.inl h)
          · exact .inl h
          · exact .inr (.inr h)
theorem pw_insD {x : Int} : ∀ {l : List Int}, l.Pairwise (· < ·) → (insD x l).Pairwise (· < ·)
  | [], _ => List.pairwise_singleton _ _
  | y :: l, h => by
    have h' := List.pairwise_cons.mp h
    unfold insD
    split
    · rename_i q
      refine List.pairwise_cons.mpr ⟨fun z hz => ?_, h⟩
      rcases List.mem_cons.mp hz with e | e
      · omega
      · have := h'.1 z e; omega
    · split
      · exact h
      · refine List.pairwise_cons.mpr ⟨fun z hz => ?_, pw_insD h'.2⟩
        rcases mem_insD.mp hz with e | e
        · omega
        · exact h'.1 z e
theorem sortD_mem {k : Int} : ∀ {l : List Int}, k ∈ sortD l ↔ k ∈ l
  | [] => by simp [sortD]
  | x :: l => by
    show k ∈ insD x (sortD l) ↔ _
    rw [mem_insD, sortD_mem (l := l), List.mem_cons]
theorem sortD_pw : ∀ {l : List Int}, (sortD l).Pairwise (· < ·)
  | [] => .nil
  | x :: l => pw_insD (sortD_pw (l := l))
theorem lt_uniq : ∀ {l m : List Int}, l.Pairwise (· < ·) → m.Pairwise (· < ·) → (∀ k, k ∈ l ↔ k ∈ m) → l = m
  | [], [], _, _, _ => rfl
  | [], y :: m, _, _, h => by have := (h y).mpr List.mem_cons_self; cases this
  | x :: l, [], _, _, h => by have := (h x).mp List.mem_cons_self; cases this
  | x :: l, y :: m, h1, h2, h => by
    obtain ⟨a1, a2⟩ := List.pairwise_cons.mp h1
    obtain ⟨b1, b2⟩ := List.pairwise_cons.mp h2
    have e : x = y := by
      rcases List.mem_cons.mp ((h x).mp List.mem_cons_self) with q | q
      · exact q
      · rcases List.mem_cons.mp ((h y).mpr List.mem_cons_self) with q2 | q2
        · exact q2.symm
        · have := b1 x q; have := a1 y q2; omega
    subst e
    congr 1
    refine lt_uniq a2 b2 fun k => ⟨fun hk => ?_, fun hk => ?_⟩
    · rcases List.mem_cons.mp ((h k).mp (List.mem_cons_of_mem _ hk)) with q | q
      · have := a1 k hk; omega
      · exact q
    · rcases List.mem_cons.mp ((h k).mpr (List.mem_cons_of_mem _ hk)) with q | q
      · have := b1 k hk; omega
      · exact q
theorem insD_len {x : Int} : ∀ {l : List Int}, (insD x l).length ≤ l.length + 1
  | [] => by simp [insD]
  | y :: l => by
    unfold insD
    split
    · simp
    · split
      · simp
      · have := insD_len (x := x) (l := l); simp; omega
theorem sorted_len : ∀ (l : List Int), (sortD l).length ≤ l.length
  | [] => by simp [sortD]
  | x :: l => by
    have h1 := insD_len (x := x) (l := sortD l)
    have h2 := sorted_len l
    show (insD x (sortD l)).length ≤ _
    simp
    omega
/-- .. as often as they stand -/
def insI (x : Int) : List Int → List Int
  | [] => [x]
  | y :: l => if x ≤ y then x :: y :: l else y :: insI x l
def sortI : List Int → List Int
  | [] => []
  | x :: l => insI x (sortI l)
theorem insI_perm {x : Int} : ∀ {l : List Int}, (insI x l).Perm (x :: l)
  | [] => .refl _
  | y :: l => by
    unfold insI
    split
    · exact .refl _
    · exact ((insI_perm (l := l)).cons y).trans (.swap x y l)
theorem insI_pw {x : Int} : ∀ {l : List Int}, l.Pairwise (· ≤ ·) → (insI x l).Pairwise (· ≤ ·)
  | [], _ => List.pairwise_singleton _ _
  | y :: l, h => by
    have h' := List.pairwise_cons.mp h
    unfold insI
    split
    · refine List.pairwise_cons.mpr ⟨fun z hz => ?_, h⟩
      rcases List.mem_cons.mp hz with e | e
      · omega
      · have := h'.1 z e; omega
    · refine List.pairwise_cons.mpr ⟨fun z hz => ?_, insI_pw h'.2⟩
      rcases List.mem_cons.mp (insI_perm.mem_iff.mp hz) with e | e
      · omega
      · exact h'.1 z e
theorem sortI_perm : ∀ {l : List Int}, (sortI l).Perm l
  | [] => .refl _
  | x :: l => insI_perm.trans ((sortI_perm (l := l)).cons x)
theorem sortI_pw : ∀ {l : List Int}, (sortI l).Pairwise (· ≤ ·)
  | [] => .nil
  | x :: l => insI_pw (sortI_pw (l := l))
theorem le_uniq : ∀ {l m : List Int}, l.Pairwise (· ≤ ·) → m.Pairwise (· ≤ ·) → l.Perm m → l = m
  | [], m, _, _, p => p.nil_eq
  | x :: l, [], _, _, p => by have := p.length_eq; simp at this
  | x :: l, y :: m, h1, h2, p => by
    obtain ⟨a1, a2⟩ := List.pairwise_cons.mp h1
    obtain ⟨b1, b2⟩ := List.pairwise_cons.mp h2
    have e : x = y := by
      rcases List.mem_cons.mp (p.mem_iff.mp (List.mem_cons_self (a := x) (l := l))) with q | q
      · exact q
      · rcases List.mem_cons.mp (p.mem_iff.mpr (List.mem_cons_self (a := y) (l := m))) with q2 | q2
        · exact q2.symm
        · have := b1 x q; have := a1 y q2; omega
    subst e
    congr 1
    exact le_uniq a2 b2 p.cons_inv

/-! ### sorted -/
section
variable {P : Program} {w : World} {A : Around} {E : Value → Shared → Prop} {s : Shared}
theorem sorted_setA {a : Addr} {S : Int → Bool} {n : Nat} {Q : Value → Shared → Prop} (R : SetR w s.heap a S n) (hh : A.handled = none)
    (hQ : ∀ s' p (out : List Value) c, (∀ b o, s.heap.get? b = some o → s'.heap.get? b = some o) → s'.gens = s.gens → s'.os = s.os → s.heap.objs.size ≤ p →
      s'.heap.get? p = some (seqObj "list" out.toArray c) → IntsAre out (out.map SrtO.iv) → (out.map SrtO.iv).Pairwise (· < ·) → (∀ k, k ∈ out.map SrtO.iv ↔ S k = true) → Q (.ref p) s') :
    wpAny (model P w) A (call (.builtin "sorted") [.ref a]) Q E s := by
  obtain ⟨o, es, ep, t, ho, hx, hd, good, nodup, mem, few, fits, _, ris, led⟩ := R
  refine Calls.call_function_entry kind_sorted plain_sorted entry_sorted (args_sorted1 _) ?_
  unfold Builtin.«sorted»
  refine wpAny_bind (m := checkCount "sorted" 1 1 _) (wpAny_pure ?_)
  refine wpAny_bind (collect_set (A := A.in1) hh ⟨o, ho, hx.1, hd⟩ fits few ris led ?_)
  intro s1 vs k1 sz g1 o1 pm
  have hlen : vs.length ≤ sizeLine := by
    rw [pm.length_eq, List.length_map, Array.length_toList]
    exact fits_of_scanBound few
  have each : ∀ v ∈ vs, ∃ i t, v = Value.int i t := fun v hv => by
    obtain ⟨e, he, q⟩ := List.mem_map.mp (pm.mem_iff.mp hv)
    obtain ⟨k, tk, h1, _⟩ := good e he
    exact ⟨k, tk, q.symm.trans h1⟩
  have hI := SrtO.ints_iv each
  have keys : (vs.map SrtO.iv).Perm (es.toList.map keyOf) := by
    refine (pm.map SrtO.iv).trans ?_
    rw [List.map_map]
    exact .of_eq (List.map_congr_left fun e he => by
      obtain ⟨k, tk, h1, _⟩ := good e he
      show SrtO.iv e.2 = keyOf e
      unfold keyOf
      rw [h1] <;> rfl)
  refine wpAny_bind (wpAny_newList ?_ hlen)
  have hoL : (s1.heap.push (seqObj "list" vs.toArray 0)).get? s1.heap.objs.size = some (seqObj "list" vs.toArray 0) := Heap.get?_push_size _ rfl
  refine wpAny_bind (wpAny_holding (wpAny_call_entry slot_list_sort ⟨_, hoL, rfl⟩ entry_list_sort (SrtO.list_sort_ord SrtO.swo_int hoL hlen (fun h2 => SrtO.ints_sortable hI h2) fun out a1 a2 => ⟨_, rfl, ?_⟩) (args_list_sort _)))
  obtain ⟨b1, b2, b3⟩ := SrtO.ints_out hI a1 a2
  obtain ⟨c, hc⟩ := sortedHeap_at (vs := vs) (out := out.toArray) hoL
  have pk := b2.trans keys
  refine wpAny_pure ⟨_, rfl, hQ _ s1.heap.objs.size out c (fun b u e => ?_) g1 o1 sz hc b1 (lt_of_le_nodup _ b3 (pk.nodup_iff.mpr nodup)) fun k => by rw [pk.mem_iff, ← mem k]⟩
  have q := k1 b u e
  have lt := Heap.lt_size q
  show (sortedHeap (s1.heap.push (seqObj "list" vs.toArray 0)) s1.heap.objs.size vs out.toArray).get? b = some u
  rw [sortedHeap_old (Nat.ne_of_lt lt) (by rw [size_push']; exact Nat.lt_succ_of_lt lt)]
  exact Heap.get?_push_of_some _ q
end
end M

namespace M
open PySem PySem.Spec PyProof.Rows L2

def mOne (g : PV → Option PV) (m : Mo PV) : Mo PV := fun e => (m e).bind fun p e1 => lift (g p) e1
def intsIn : PV → Option (List Int)
  | .lst l => toIs l
  | .tup l => toIs l
  | _ => none
def onSet (g : List Int → PV) (p : PV) : Option PV := match intsIn p with
  | some ns => if ns.length + 1 < scanBound then some (g ns) else none
  | none => none
/-- sorted(set(xs)) -/
def pSortSet : PV → Option PV := onSet fun ns => .lst ((sortD ns).map .int)
/-- len(set(xs)) -/
def pLenSet : PV → Option PV := onSet fun ns => .int ((sortD ns).length : Nat)
def gSorted : List PV → Option PV
  | [.lst l] => (toIs l).map fun ns => .lst ((sortI ns).map .int)
  | _ => none
section
variable {X : Cx} {F : Fm} {ow : List Nat} {σ : L2.St} {H : Hp}
theorem one_go {g : PV → Option PV} {m : Mo PV} {Q : VK} (h : rd F ow (mOne g m) σ H Q) : rd F ow m σ H fun x H1 =>
    ∃ (O : Addr → Prop) (p c : PV), Pre H1 O ∧ RV F.S H1 O x p ∧ g p = some c ∧ ∀ v H', (∀ z u, H1 z = some u → H' z = some u) → RV F.S H' O v c → Q v H' := by
  obtain ⟨e, R, p⟩ := h
  refine ⟨e, R, (Post.unbind p).mono fun a e1 H1 k1 R1 p1 v rv => ?_⟩
  obtain ⟨c, hc, q⟩ := p1.of_lift R1
  exact ⟨_, a, c, R1.tracked, rv, hc, fun v H' k rv => q H' k v rv⟩
theorem ints_at {S : Se} {O : Addr → Prop} {v : V} {p : PV} {ns : List Int} (r : RV S H O v p) (h : intsIn p = some ns) :
    ∃ a, v = .ref a ∧ (SqL S.K H a (ns.map V.int) ∨ SqT S.K H a (ns.map V.int)) := by
  unfold intsIn at h
  split at h
  · obtain ⟨a, vs, rfl, h1, t⟩ := r.isL
    rw [toIs_some h] at t
    rw [t.ints] at h1
    exact ⟨a, rfl, .inl (.inl (.inl h1))⟩
  · obtain ⟨a, vs, rfl, h1, t⟩ := r.isT
    rw [toIs_some h] at t
    rw [t.ints] at h1
    exact ⟨a, rfl, .inr h1⟩
  · cases h
theorem vals_ints : ∀ {vs : List Value} {ns : List Int}, IntsAre vs ns → Vals (ns.map V.int) vs
  | _, _, .nil => .nil
  | _, _, .cons n t r => .cons ⟨t, rfl⟩ (vals_ints r)
/-- set(xs), of ints -/
theorem set_run {pins : List (Addr × Obj)} {s : Shared} {l : Addr} {ns : List Int} {E : Value → Shared → Prop} {Q : Value → Shared → Prop} (I : Inv X pins σ H s) (hc : X.calm = true)
    (hl : SqL X.K H l (ns.map V.int) ∨ SqT X.K H l (ns.map V.int)) (hb : ns.length + 1 < scanBound)
    (h : ∀ a s2 c, Inv X pins σ H s2 → SetR X.w s2.heap a (InSet ns) c → Q (.ref a) s2) : wpAny (model X.prog X.w) X.A (call (.type "set") [.ref l]) Q E s := by
  rcases hl with hl | hl
  · obtain ⟨its, r, pl, hz⟩ := I.list hl
    refine call_setL (I.ok.hd hc) pl.isList (by simpa using RZ.intsAre_vals r) hb fun s2 hd => ?_
    obtain ⟨_, h', tk, c, rfl, k1, k2, k3⟩ := hd
    exact h _ _ c (I.kept k3) k1
  · obtain ⟨its, r, pl, hz⟩ := I.tuple hl
    exact call_set_tupI ns (I.ok.hd hc) pl (by simpa using RZ.intsAre_vals r) hb fun h' tk c k1 k2 k3 => h _ _ c (I.kept k3) k1
theorem pm_sortSet {a : Expr} {m : Mo PV} {p p2 q pos : Pos} (hg : Gl X "sorted") (hm : X.mg "sorted" = none) (hg2 : Gl X "set") (hm2 : X.mg "set" = none) (ha : PE X a (rd F ow m))
    (hc : X.calm = true := by rfl) (hS : F.S = ⟨X.K, X.mg, F.S.T⟩ := by rfl) (na : starEach [a] X.env = (false, eval a X.env) :: starEach [] X.env := by rfl) :
    PE X (.Call (.Name "sorted" p) [.Call (.Name "set" p2) [a] [] q] [] pos) (rd F ow (mOne pSortSet m)) := by
  refine ⟨fun pins s σ H Q I h => ?_⟩
  have hK : F.S.K = X.K := by rw [hS]
  have bs : bootBuiltins "sorted" = some (.builtin "sorted") := by decide +kernel
  refine Call_ (ld_blt I hg hm bs ?_)
  refine callWith_builtin1 (args_cons ?_ rfl) rfl rfl
  refine Call_ (ld_blt I hg2 hm2 boot_set ?_)
  refine callWith_type1 (args_cons (thn (ha.run pins s σ H _ I (one_go h)) fun v s1 ⟨x, H1, I1, r1, q1⟩ => args_nil ?_) na) na rfl
  obtain ⟨O, pv, c, pre, rv, hcv, fin⟩ := q1
  unfold pSortSet onSet at hcv
  split at hcv
  · rename_i ns hns
    split at hcv
    · rename_i hb
      cases hcv
      obtain ⟨l, rfl, hl⟩ := ints_at rv hns
      rw [hK] at hl
      cases r1
      refine set_run I1 hc hl hb fun b s2 cn I2 k1 => args_nil ?_
      refine sorted_setA k1 (I2.ok.hd hc) fun s' pr out cc k g o hp hg' hi hs hmem => ?_
      have eo : out.map SrtO.iv = sortD ns := lt_uniq hs sortD_pw fun k => by
        rw [hmem, sortD_mem]
        exact decide_eq_true_iff
      rw [eo] at hi
      have hn : H1 pr = none := I2.hok.fresh hp
      have hlen : ((sortD ns).map V.int).length ≤ sizeLine := by
        rw [← eo, List.length_map, List.length_map]
        exact Nat.le_of_lt_succ (Nat.lt_of_lt_of_le (Nat.lt_succ_self _) (by
          have := (sorted_len ns)
          rw [← eo, List.length_map] at this
          unfold scanBound at hb
          rw [sizeLine_eq]
          omega))
      have J : Inv X pins σ (upd H1 pr (.lst ((sortD ns).map V.int))) { s2 with heap := s'.heap, gens := s'.gens, drawn := s'.drawn, toks := s'.toks } :=
        I2.call (ch := []) (Un.laid k hp hn) (I2.hok.laid k hp ⟨hlen, out, cc, vals_ints hi, hg'⟩) (by rw [g]; exact I2.bare) (fun _ z => nomatch z)
      have e : s' = { s2 with heap := s'.heap, gens := s'.gens, drawn := s'.drawn, toks := s'.toks } := by
        cases s'
        cases s2
        cases o
        rfl
      rw [e]
      refine ⟨.ref pr, _, J, rfl, fin _ _ (upd_keep hn) ?_⟩
      exact (RVs.of_ints _).newL hn pre
    · cases hcv
  · cases hcv
theorem setR_count {w : World} {h : Heap} {a : Addr} {ns : List Int} {c : Nat} (R : SetR w h a (InSet ns) c) : c = (sortD ns).length := by
  obtain ⟨o, es, ep, t, ho, hx, hd, good, nodup, mem, few, fits, hc, ris, led⟩ := R
  have nd : (sortD ns).Nodup := (sortD_pw (l := ns)).imp fun {x y} h => by omega
  have pm : (es.toList.map keyOf).Perm (sortD ns) := (List.perm_ext_iff_of_nodup nodup nd).mpr fun k => by
    rw [← mem k, sortD_mem]
    exact decide_eq_true_iff
  rw [← pm.length_eq, List.length_map, Array.length_toList, hc]
theorem pm_lenSet {a : Expr} {m : Mo PV} {p p2 q pos : Pos} (hg : Gl X "len") (hm : X.mg "len" = none) (hg2 : Gl X "set") (hm2 : X.mg "set" = none) (ha : PE X a (rd F ow m))
    (hc : X.calm = true := by rfl) (hS : F.S = ⟨X.K, X.mg, F.S.T⟩ := by rfl) (na : starEach [a] X.env = (false, eval a X.env) :: starEach [] X.env := by rfl) :
    PE X (.Call (.Name "len" p) [.Call (.Name "set" p2) [a] [] q] [] pos) (rd F ow (mOne pLenSet m)) := by
  refine ⟨fun pins s σ H Q I h => ?_⟩
  have hK : F.S.K = X.K := by rw [hS]
  refine Call_ (ld_blt I hg hm boot_len ?_)
  refine callWith_builtin1 (args_cons ?_ rfl) rfl rfl
  refine Call_ (ld_blt I hg2 hm2 boot_set ?_)
  refine callWith_type1 (args_cons (thn (ha.run pins s σ H _ I (one_go h)) fun v s1 ⟨x, H1, I1, r1, q1⟩ => args_nil ?_) na) na rfl
  obtain ⟨O, pv, c, pre, rv, hcv, fin⟩ := q1
  unfold pLenSet onSet at hcv
  split at hcv
  · rename_i ns hns
    split at hcv
    · rename_i hb
      cases hcv
      obtain ⟨l, rfl, hl⟩ := ints_at rv hns
      rw [hK] at hl
      cases r1
      refine set_run I1 hc hl hb fun b s2 cn I2 k1 => args_nil ?_
      have hcn := setR_count k1
      obtain ⟨o, es, ep, t, ho, hx, hd, _, _, _, few, fits, hn, _⟩ := k1
      refine call_len_set ho hx hd fits (by unfold scanBound at few; omega) ⟨.int (sortD ns).length, H1, I2.tok _, ⟨_, by rw [hn, hcn]⟩, ?_⟩
      exact fin _ _ (fun _ _ z => z) (.int _)
    · cases hcv
  · cases hcv
theorem co_sorted (hS : F.S = ⟨X.K, X.mg, F.S.T⟩ := by rfl) : CallOk X F (.builtin "sorted") gSorted := by
  intro O
  refine ⟨_, cr_sortedI, fun H xs ps c Q hp r e q => ?_⟩
  unfold gSorted at e
  split at e
  · rename_i l
    cases h : toIs l with
    | none => rw [h] at e; cases e
    | some ns =>
      rw [h] at e
      cases e
      obtain ⟨x, rfl, rx⟩ := r.one
      obtain ⟨a, vs, rfl, h1, t1⟩ := rx.isL
      rw [toIs_some h] at t1
      rw [t1.ints] at h1
      refine ⟨a, ns, rfl, .inl (.inl h1), fun ns' pr hpm hpw hn => ?_⟩
      have e2 : ns' = sortI ns := le_uniq hpw sortI_pw (hpm.trans sortI_perm.symm)
      rw [e2]
      exact q _ _ (upd_keep hn) ((RVs.of_ints _).newL hn hp)
  · cases e
end
end M

namespace M
open PySem PySem.Spec PyProof.Rows L2

/-! ### dicts: what they hold -/
def keyP : PV → Option Key
  | .int i => some (.inl i)
  | .str x => some (.inr x)
  | _ => none
def atK (l : List (Key × PV)) (k : Key) : Option PV := (l.find? fun kv => decide (kv.1 = k)).map (·.2)
/-- in its place, or at the end -/
def putP (l : List (Key × PV)) (k : Key) (p : PV) : List (Key × PV) :=
  if (atK l k).isSome = true then l.map fun kv => if kv.1 = k then (kv.1, p) else kv else l ++ [(k, p)]
section
variable {S : Se} {H H' : Hp} {O O' : Addr → Prop}
theorem RV.key {v : V} {p : PV} {k : Key} (r : RV S H O v p) (h : keyP p = some k) : v = kV k := by
  unfold keyP at h
  split at h
  · cases h; cases r; rfl
  · cases h; cases r; rfl
  · cases h
theorem RV.isD {v : V} {l : List (Key × PV)} (r : RV S H O v (.dK l)) : ∃ a kvs, v = .ref a ∧ H a = some (.dK kvs) ∧ KVs S H O kvs l := by
  cases r with
  | dK n r t => exact ⟨_, _, rfl, r, t⟩
theorem RV.isFK {v : V} {l : List (Key × PV)} (r : RV S H O v (.fK l)) : ∃ a o kvs, v = .ref a ∧ ¬ O a ∧ H a = some (.frz o (.dK kvs)) ∧ KVs S H O kvs l := by
  cases r with
  | fK n r t => exact ⟨_, _, _, rfl, n, r, t⟩
theorem KVs.at_ : ∀ {kvs : List (Key × V)} {l : List (Key × PV)} (k : Key), KVs S H O kvs l → (∀ p, atK l k = some p → ∃ v, valV kvs k = some v ∧ RV S H O v p) ∧ (atK l k = none → valV kvs k = none)
  | _, _, k, .nil => ⟨fun p e => (by cases e), fun _ => rfl⟩
  | _, _, k, .cons (k := k0) (v := v) (p := p0) (vs := vs) (l := l) r t => by
    obtain ⟨h1, h2⟩ := KVs.at_ k t
    by_cases q : k0 = k
    · refine ⟨fun p e => ⟨v, valV_pos q, ?_⟩, fun e => ?_⟩
      · simp [atK, q] at e
        subst e
        exact r
      · simp [atK, q] at e
    · have e1 : atK ((k0, p0) :: l) k = atK l k := by simp [atK, q]
      rw [e1, valV_neg (p := (k0, v)) q]
      exact ⟨h1, h2⟩
theorem KVs.some_iff {kvs : List (Key × V)} {l : List (Key × PV)} (k : Key) (t : KVs S H O kvs l) : (valV kvs k).isSome = (atK l k).isSome := by
  obtain ⟨h1, h2⟩ := t.at_ k
  cases e : atK l k with
  | none => rw [h2 e] <;> rfl
  | some p =>
    obtain ⟨v, h3, _⟩ := h1 p e
    rw [h3] <;> rfl
theorem KVs.repl {v : V} {p : PV} {k : Key} (r : RV S H O v p) : ∀ {kvs : List (Key × V)} {l : List (Key × PV)}, KVs S H O kvs l → KVs S H O (kvs.map fun kv => if kv.1 = k then (kv.1, v) else kv) (l.map fun kv => if kv.1 = k then (kv.1, p) else kv)
  | _, _, .nil => .nil
  | _, _, .cons (k := k0) r0 t => by
    rw [List.map_cons, List.map_cons]
    by_cases q : k0 = k
    · rw [if_pos q, if_pos q]; exact .cons r (KVs.repl r t)
    · rw [if_neg q, if_neg q]; exact .cons r0 (KVs.repl r t)
theorem KVs.snoc {v : V} {p : PV} {k : Key} (r : RV S H O v p) : ∀ {kvs : List (Key × V)} {l : List (Key × PV)}, KVs S H O kvs l → KVs S H O (kvs ++ [(k, v)]) (l ++ [(k, p)])
  | _, _, .nil => .cons r .nil
  | _, _, .cons r0 t => .cons r0 (KVs.snoc r t)
theorem KVs.put {v : V} {p : PV} {k : Key} {kvs : List (Key × V)} {l : List (Key × PV)} (r : RV S H O v p) (t : KVs S H O kvs l) : KVs S H O (putK kvs k v) (putP l k p) := by
  unfold putK putP
  rw [valV_any, t.some_iff k]
  by_cases q : (atK l k).isSome = true
  · rw [if_pos q, if_pos q]; exact t.repl r
  · rw [if_neg q, if_neg q]; exact t.snoc r
end
/-! ### .. read -/
def pIxA : PV → PV → Option PV
  | .dK l, b => (keyP b).bind (atK l)
  | .fK l, b => (keyP b).bind (atK l)
  | a, b => pIx a b
def pInA (n : Bool) : PV → PV → Option PV
  | b, .dK l => (keyP b).map fun k => .bl ((atK l k).isSome != n)
  | b, .fK l => (keyP b).map fun k => .bl ((atK l k).isSome != n)
  | b, a => if n = true then pNotIn b a else pIn b a
section
variable {X : Cx} {F : Fm} {ow ow' ob : List Nat} {σ : L2.St} {H : Hp}
def rIxDk : R2 := fun x y H Q => ∃ a v, x = .ref a ∧ DGet H a y (some v) ∧ Q v H
theorem ix_dict (hu : X.A.units + 1 < cLine) : IxR X rIxDk := by
  intro value slice pins s σ H x y v u Q I rx ry ⟨a, w, e, g, q⟩ hs
  subst e
  cases rx
  exact tail_any (dict_typeIs I g) PySem.F.slot_dict_getitem.lookup (d_getItem hu I g ry fun w' s3 I3 rw' => ⟨w, H, I3, rw', q⟩) hs
theorem ix_endA (hu : X.A.units + 1 < cLine) : IxR X fun x y H Q => ∃ (O : Addr → Prop) (a b c : PV), Pre H O ∧ RV ⟨X.K, X.mg, F.S.T⟩ H O x a ∧ RV ⟨X.K, X.mg, F.S.T⟩ H O y b ∧ pIxA a b = some c ∧
    ∀ v H', (∀ z u, H z = some u → H' z = some u) → RV ⟨X.K, X.mg, F.S.T⟩ H' O v c → Q v H' := by
  intro value slice pins s σ H x y v u Q I rx ry ⟨O, a, b, c, p, ra, rb, e, q⟩ hs
  unfold pIxA at e
  split at e
  · rename_i l
    obtain ⟨k, hk, hv⟩ := Option.bind_eq_some_iff.mp e
    obtain ⟨d, kvs, hx, h1, t⟩ := ra.isD
    obtain ⟨w, h2, rw'⟩ := (t.at_ k).1 c hv
    exact ix_dict hu value slice pins s σ H x y v u Q I rx ry ⟨d, w, hx, .inl ⟨kvs, k, .inl h1, rb.key hk, h2.symm⟩, q w H (fun _ _ z => z) rw'⟩ hs
  · rename_i l
    obtain ⟨k, hk, hv⟩ := Option.bind_eq_some_iff.mp e
    obtain ⟨d, o, kvs, hx, _, h1, t⟩ := ra.isFK
    obtain ⟨w, h2, rw'⟩ := (t.at_ k).1 c hv
    exact ix_dict hu value slice pins s σ H x y v u Q I rx ry ⟨d, w, hx, .inl ⟨kvs, k, .inr ⟨o, h1⟩, rb.key hk, h2.symm⟩, q w H (fun _ _ z => z) rw'⟩ hs
  · exact ix_end (F := F) value slice pins s σ H x y v u Q I rx ry ⟨O, _, b, c, p, ra, rb, e, q⟩ hs
theorem pm_ixA {a b : Expr} {ma mb : Mo PV} {pos : Pos} (hu : X.A.units + 1 < cLine) (ha : PE X a (rd F ow ma)) (hb : PE X b (rd F ow mb)) (hs : PlainIx b := by exact fun _ _ => rfl) (hS : F.S = ⟨X.K, X.mg, F.S.T⟩ := by rfl) :
    PE X (.Subscript a b pos) (rd F ow (mBin pIxA ma mb)) :=
  (pe_ix (ix_endA (F := F) hu) ha hb hs).imp fun σ H Q h => by
    have z := bin_go h
    rw [hS] at z
    exact z
/-- x[b], of a cell of one's own -/
def mIxOA (i : Nat) (mb : Mo PV) : Mo PV := fun e => match e[i]? with
  | some (some _) => (mb e).bind fun b e1 => match e1[i]? with
    | some (some p) => lift (pIxA p b) e1
    | _ => .bad
  | _ => .bad
theorem pm_ixOA (i : Nat) {x : Str} {b : Expr} {mb : Mo PV} {p pos : Pos} (hu : X.A.units + 1 < cLine) (hb : PE X b (rd F ow mb)) (hi : i ∈ ow := by decide) (hN : X.N[i]? = some x := by rfl) (hv : Vis X.env.scope x := by first | exact .inl rfl | exact .inr (.inl rfl) | exact .inr (.inr rfl))
    (hd : (x == ("__debug__" : Str)) = false := by decide) (hcd : (x == ("__classdict__" : Str)) = false := by decide) (hs : PlainIx b := by exact fun _ _ => rfl) : PE X (.Subscript (.Name x p) b pos) (rd F ow (mIxOA i mb)) :=
  (pe_ix (IxR.or (ix_dict hu) ix_seq) (pe_var hN hv hd hcd) hb hs).imp fun σ H Q ⟨e, R, p⟩ => by
    unfold mIxOA at p
    split at p
    · rename_i q he
      obtain ⟨v, h1, h2⟩ := R.own i q he hi
      refine ⟨v, h1, e, R, (Post.unbind p).mono fun b e1 H1 k1 R1 p1 y ry => ?_⟩
      split at p1
      · rename_i pc he1
        obtain ⟨c, hc, q⟩ := p1.of_lift R1
        obtain ⟨v', h3, h4⟩ := R1.own i _ he1 hi
        rw [h1] at h3; cases h3
        cases pc with
        | lst l =>
          obtain ⟨a, vs, e5, h5, h6⟩ := h4
          subst e5
          refine .inr ?_
          have hc : pIx (.lst l) b = some c := hc
          unfold pIx at hc
          cases b with
          | int j =>
            cases ry
            obtain ⟨w, h7, h8⟩ := h6.atI hc
            exact .inl ⟨a, vs, j, w, rfl, rfl, .inl (.inl h5), h7, q H1 (fun _ _ z => z) w h8⟩
          | _ => cases hc
        | dK l =>
          obtain ⟨a, kvs, e5, h5, h6⟩ := h4
          subst e5
          refine .inl ?_
          obtain ⟨k, hk, hv⟩ := Option.bind_eq_some_iff.mp (show (keyP b).bind (atK l) = some c from hc)
          obtain ⟨w, h7, h8⟩ := (h6.at_ k).1 c hv
          exact ⟨a, w, rfl, .inl ⟨kvs, k, .inl h5, ry.key hk, h7.symm⟩, q H1 (fun _ _ z => z) w h8⟩
        | _ => exact h4.elim
      · exact p1.elim
    · exact p.elim
end
end M

namespace M
open PySem PySem.Spec PyProof.Rows L2

section
variable {X : Cx} {F : Fm} {ow ow' ob : List Nat} {σ : L2.St} {H : Hp}
/-! ### a key in a dict, or not -/
def rDk (n : Bool) : R2 := fun y x H Q => ∃ a o, x = .ref a ∧ DGet H a y o ∧ Q (.bl (o.isSome != n)) H
theorem op_dkIn (hu : X.A.units + 1 < cLine) : OpR X (compareOp .In) (rDk false) := by
  intro pins s σ H y x u v Q I ry rx ⟨a, o, e, g, q⟩
  subst e
  cases rx
  exact d_in hu I g ry fun s3 I3 => ⟨.bl o.isSome, H, I3, rfl, by simpa using q⟩
theorem op_dkNot (hu : X.A.units + 1 < cLine) : OpR X (compareOp .NotIn) (rDk true) := by
  intro pins s σ H y x u v Q I ry rx ⟨a, o, e, g, q⟩
  subst e
  cases rx
  exact d_notIn hu I g ry fun s3 I3 => ⟨.bl (!o.isSome), H, I3, rfl, by simpa using q⟩
theorem OpR.or2 {f : Value → Value → Sem Value} {r r' : R2} (h : OpR X f r) (h' : OpR X f r') : OpR X f fun x y H Q => r x y H Q ∨ r' x y H Q := by
  intro pins s σ H x y v u Q I rx ry q
  rcases q with q | q
  · exact h pins s σ H x y v u Q I rx ry q
  · exact h' pins s σ H x y v u Q I rx ry q
theorem KVs.dget {S : Se} {O : Addr → Prop} {a : Addr} {kvs : List (Key × V)} {l : List (Key × PV)} {y : V} {p : PV} {k : Key} (h : Rd H a (.dK kvs)) (t : KVs S H O kvs l) (ry : RV S H O y p) (hk : keyP p = some k) : DGet H a y (valV kvs k) ∧ (valV kvs k).isSome = (atK l k).isSome :=
  ⟨.inl ⟨kvs, k, h, ry.key hk, rfl⟩, t.some_iff k⟩
theorem bin_inA (hu : X.A.units + 65 < cLine) (hS : F.S = ⟨X.K, X.mg, F.S.T⟩ := by rfl) : BinOk X F (compareOp .In) (pInA false) := by
  intro O
  obtain ⟨r, hr, k0⟩ := bin_in (F := F) hu hS O
  refine ⟨_, OpR.or2 (op_dkIn (by omega)) hr, fun H x y a b c Q hp ra rb e q => ?_⟩
  cases b with
  | dK l =>
    obtain ⟨k, hk, hv⟩ := Option.map_eq_some_iff.mp (show (keyP a).map (fun k => PV.bl ((atK l k).isSome != false)) = some c from e)
    obtain ⟨d, kvs, hx, h1, t⟩ := rb.isD
    obtain ⟨g, gs⟩ := t.dget (.inl h1) ra hk
    refine .inl ⟨d, _, hx, g, ?_⟩
    rw [gs]
    subst hv
    exact q _ H (fun _ _ z => z) (.bl _)
  | fK l =>
    obtain ⟨k, hk, hv⟩ := Option.map_eq_some_iff.mp (show (keyP a).map (fun k => PV.bl ((atK l k).isSome != false)) = some c from e)
    obtain ⟨d, o, kvs, hx, _, h1, t⟩ := rb.isFK
    obtain ⟨g, gs⟩ := t.dget (.inr ⟨o, h1⟩) ra hk
    refine .inl ⟨d, _, hx, g, ?_⟩
    rw [gs]
    subst hv
    exact q _ H (fun _ _ z => z) (.bl _)
  | _ => exact .inr (k0 H x y a _ c Q hp ra rb e q)
theorem bin_notInA (hu : X.A.units + 65 < cLine) (hS : F.S = ⟨X.K, X.mg, F.S.T⟩ := by rfl) : BinOk X F (compareOp .NotIn) (pInA true) := by
  intro O
  obtain ⟨r, hr, k0⟩ := bin_notIn (F := F) hu hS O
  refine ⟨_, OpR.or2 (op_dkNot (by omega)) hr, fun H x y a b c Q hp ra rb e q => ?_⟩
  cases b with
  | dK l =>
    obtain ⟨k, hk, hv⟩ := Option.map_eq_some_iff.mp (show (keyP a).map (fun k => PV.bl ((atK l k).isSome != true)) = some c from e)
    obtain ⟨d, kvs, hx, h1, t⟩ := rb.isD
    obtain ⟨g, gs⟩ := t.dget (.inl h1) ra hk
    refine .inl ⟨d, _, hx, g, ?_⟩
    rw [gs]
    subst hv
    exact q _ H (fun _ _ z => z) (.bl _)
  | fK l =>
    obtain ⟨k, hk, hv⟩ := Option.map_eq_some_iff.mp (show (keyP a).map (fun k => PV.bl ((atK l k).isSome != true)) = some c from e)
    obtain ⟨d, o, kvs, hx, _, h1, t⟩ := rb.isFK
    obtain ⟨g, gs⟩ := t.dget (.inr ⟨o, h1⟩) ra hk
    refine .inl ⟨d, _, hx, g, ?_⟩
    rw [gs]
    subst hv
    exact q _ H (fun _ _ z => z) (.bl _)
  | _ => exact .inr (k0 H x y a _ c Q hp ra rb e q)
/-- .. of one's own -/
def mInO (n : Bool) (i : Nat) (m : Mo PV) : Mo PV := fun e => (m e).bind fun p e1 => match e1[i]? with
  | some (some (.dK l)) => lift ((keyP p).map fun k => .bl ((atK l k).isSome != n)) e1
  | _ => .bad
theorem inO_go {n : Bool} {i : Nat} {m : Mo PV} (hi : i ∈ ow) {σ : L2.St} {H : Hp} {Q : VK} (h : rd F ow (mInO n i m) σ H Q) : rd F ow m σ H fun y H1 => tVar i σ H1 fun x H2 => rDk n y x H2 Q := by
  obtain ⟨e, R, p⟩ := h
  refine ⟨e, R, (Post.unbind p).mono fun b e1 H1 k1 R1 p1 y ry => ?_⟩
  split at p1
  · rename_i l he1
    obtain ⟨c, hc, q⟩ := p1.of_lift R1
    obtain ⟨v', h3, a, kvs, e5, h5, h6⟩ := R1.own i _ he1 hi
    obtain ⟨k, hk, hv⟩ := Option.map_eq_some_iff.mp hc
    obtain ⟨g, gs⟩ := h6.dget (.inl h5) ry hk
    refine ⟨v', h3, a, _, e5, g, ?_⟩
    rw [gs]
    subst hv
    exact q H1 (fun _ _ z => z) _ (.bl _)
  · exact p1.elim
theorem pm_inO (n : Bool) (i : Nat) {x : Str} {a : Expr} {m : Mo PV} {p pos : Pos} {op : CmpOp} (hop : OpR X (compareOp op) (rDk n)) (ha : PE X a (rd F ow m)) (hm : behindInMarks op (.Name x p) = false) (hi : i ∈ ow := by decide) (hN : X.N[i]? = some x := by rfl)
    (hv : Vis X.env.scope x := by first | exact .inl rfl | exact .inr (.inl rfl) | exact .inr (.inr rfl)) (hd : (x == ("__debug__" : Str)) = false := by decide) (hcd : (x == ("__classdict__" : Str)) = false := by decide) :
    PE X (.Compare a [op] [.Name x p] pos) (rd F ow (mInO n i m)) :=
  (pe_cmpR hop ha (pe_var hN hv hd hcd) hm).imp fun σ H Q h => inO_go hi h
theorem pm_tinO (n : Bool) (i : Nat) {x : Str} {a : Expr} {m : Mo PV} {p pos : Pos} {op : CmpOp} (hop : OpR X (compareOp op) (rDk n)) (ha : PE X a (rd F ow m)) (hm : behindInMarks op (.Name x p) = false) (hi : i ∈ ow := by decide) (hN : X.N[i]? = some x := by rfl)
    (hv : Vis X.env.scope x := by first | exact .inl rfl | exact .inr (.inl rfl) | exact .inr (.inr rfl)) (hd : (x == ("__debug__" : Str)) = false := by decide) (hcd : (x == ("__classdict__" : Str)) = false := by decide) :
    PT X (.Compare a [op] [.Name x p] pos) (rdT F ow (mTB (mInO n i m))) :=
  (pt_cmpR hop ha (pe_var hN hv hd hcd) hm).imp fun σ H Q h => inO_go hi (tb_go h)

/-! ### a dict of one's own, written -/
def rSetA : TSet := fun o i v H Q => rSetL o i v H Q ∨ rSetD o i v H Q
theorem set_any (hu : X.A.units + 1 < cLine) : PSet X rSetA := by
  intro pins s σ H o i v ov iv u Q I ro ri rv h
  rcases h with h | h
  · exact set_list pins s σ H o i v ov iv u Q I ro ri rv h
  · exact set_dict hu pins s σ H o i v ov iv u Q I ro ri rv h
def mSetIxA (i : Nat) (mj me : Mo PV) : Ms := fun e => SOut.of (me e) fun p e1 => match e1[i]? with
  | some (some _) => SOut.of (mj e1) fun j e2 => match e2[i]? with
    | some (some (.lst l)) => match j with
      | .int j => match ixN l.length j with
        | some n => .nxt (e2.set i (some (.lst (l.set n p))))
        | none => .bad
      | _ => .bad
    | some (some (.dK l)) => match keyP j with
      | some k => if l.length < sizeLine then .nxt (e2.set i (some (.dK (putP l k p)))) else .bad
      | none => .bad
    | _ => .bad
  | _ => .bad
theorem pmt_setIxA (i : Nat) {x : Str} {b a : Expr} {mj me : Mo PV} {p p2 pos : Pos} (hu : X.A.units + 1 < cLine) (ha : PE X a (rd F ow me)) (hb : PE X b (rd F ow mj)) (hi : i ∈ ow := by decide) (hN : X.N[i]? = some x := by rfl) (hv : Vis X.env.scope x := by first | exact .inl rfl | exact .inr (.inl rfl) | exact .inr (.inr rfl))
    (hd : (x == ("__debug__" : Str)) = false := by decide) (hcd : (x == ("__classdict__" : Str)) = false := by decide)
    (h1 : ∀ v, assign (.Subscript (.Name x p) b p2) X.env v = (do
      let ov ← holding [v] (eval (.Name x p) X.env)
      let iv ← holding [v, ov] (eval b X.env)
      standAt p2
      holding [v, ov, iv] (setItem ov iv v)
      release [v, ov, iv] []) := by intro _; rfl)
    (hs : swapsWithSole [.Subscript (.Name x p) b p2] a pos.line X.env = pure false := by rfl) (hw : swappedStores [.Subscript (.Name x p) b p2] a X.env = pure none := by rfl)
    (h2 : (assignEach [.Subscript (.Name x p) b p2] X.env).map (·.2) = [assign (.Subscript (.Name x p) b p2) X.env] := by rfl) : PS X (.Assign [.Subscript (.Name x p) b p2] a pos) (rdS F ow ow ob (mSetIxA i mj me)) :=
  (ps_asg ha (pg_sub (pe_var hN hv hd hcd) hb (set_any hu) h1) hs hw h2).imp fun D σ H ⟨e, R, p⟩ => ⟨e, R, (Post.stmt p).mono fun q e1 H1 k1 R1 p1 y ry => by
    split at p1
    · rename_i q0 he
      obtain ⟨v, g1, g2⟩ := R1.own i _ he hi
      refine ⟨_, g1, e1, R1, (Post.stmt p1).mono fun j e2 H2 k2 R2 p2 z rz => ?_⟩
      split at p2
      · rename_i l he1
        obtain ⟨v', g5, a', vs, g6, g7, g8⟩ := R2.own i _ he1 hi
        rw [g1] at g5; cases g5
        subst g6
        split at p2
        · rename_i j
          split at p2
          · rename_i n hn
            cases rz
            refine .inl ⟨_, vs, j, n, rfl, rfl, g7, by rw [g8.length]; exact hn, ?_⟩
            have ob : Own ow σ a' := ⟨i, hi, g1⟩
            have kk : Keep (Own ow σ) H2 (upd H2 a' (.lst (vs.set n y))) := Keep.own g7 ob
            obtain ⟨k, R3⟩ := R2.upd g7 hi g1 (List.getElem?_eq_some_iff.mp he1).1 (o := .lst (vs.set n y)) (p := .lst (l.set n q)) ⟨a', vs.set n y, rfl, upd_same, (g8.set (ry.mono k2.gd Less.refl) n).mono kk.gd Less.refl⟩
            exact p2 σ _ (KeepS.of k) Stay.refl R3
          · exact p2.elim
        · exact p2.elim
      · rename_i l he1
        obtain ⟨v', g5, a', kvs, g6, g7, g8⟩ := R2.own i _ he1 hi
        rw [g1] at g5; cases g5
        subst g6
        split at p2
        · rename_i k hk
          split at p2
          · rename_i hl
            refine .inr ⟨a', _, rfl, .inl ⟨kvs, k, g7, rz.key hk, by rw [g8.length]; exact hl, rfl⟩, ?_⟩
            have ob : Own ow σ a' := ⟨i, hi, g1⟩
            have kk : Keep (Own ow σ) H2 (upd H2 a' (.dK (putK kvs k y))) := Keep.own g7 ob
            obtain ⟨k3, R3⟩ := R2.upd g7 hi g1 (List.getElem?_eq_some_iff.mp he1).1 (o := .dK (putK kvs k y)) (p := .dK (putP l k q)) ⟨a', putK kvs k y, rfl, upd_same, KVs.mono kk.gd Less.refl (g8.put (ry.mono k2.gd Less.refl))⟩
            exact p2 σ _ (KeepS.of k3) Stay.refl R3
          · exact p2.elim
        · exact p2.elim
      · exact p2.elim
    · exact p1.elim⟩
end
end M

namespace M
open PySem PySem.Spec PyProof.Rows L2

/-! ### {k: v for ..} -/
def dcLoop (own : List Nat) (f : PV → En → Option En) (mt : Mo Bool) (mk mv : Mo PV) : List PV → List (Key × PV) → En → Out PV
  | [], acc, e => .ok (.dK acc) e
  | p :: l, acc, e => match f p (wipeE e own) with
    | none => .bad
    | some e1 => match mt e1 with
      | .ok true e2 => match mk e2 with
        | .ok kp e3 => match keyP kp with
          | some k => match mv e3 with
            | .ok q e4 => if acc.length < sizeLine then dcLoop own f mt mk mv l (putP acc k q) (restE own e e4) else .bad
            | _ => .bad
          | none => .bad
        | _ => .bad
      | .ok false e2 => dcLoop own f mt mk mv l acc (restE own e e2)
      | _ => .bad
def mDc (own : List Nat) (f : PV → En → Option En) (mt : Mo Bool) (mk mv : Mo PV) (mi : Mo (List PV)) : Mo PV := fun e => (mi e).bind fun l e1 => dcLoop own f mt mk mv l [] e1
theorem dcLoop_noexc {own : List Nat} {f : PV → En → Option En} {mt : Mo Bool} {mk mv : Mo PV} : ∀ {l : List PV} {acc : List (Key × PV)} {e e' : En} {x : Ex}, dcLoop own f mt mk mv l acc e ≠ .exc x e'
  | [], acc, e, e', x => by simp [dcLoop]
  | p :: l, acc, e, e', x => by
    unfold dcLoop
    split
    · simp
    · split
      · split
        · split
          · split
            · split
              · exact dcLoop_noexc
              · simp
            · simp
          · simp
        · simp
      · exact dcLoop_noexc
      · simp
section
variable {X : Cx} {F : Fm} {ow ow' ob : List Nat} {σ σ1 σ2 : L2.St} {H H1 H2 : Hp}
theorem dcM_core {g : TG} {tt : TT} {tk tv : TE} {is own : List Nat} {f : PV → En → Option En} {mt : Mo Bool} {mk mv : Mo PV} {l : List PV} {e1 : En} {J : It} {D : Addr} {Q : VK} {pf : PV} {ef : En}
    (hJ : ItOk F.S J l H1 (Gd F.G ow σ)) (hD : H1 D = none) (R1 : ER F.S F.G ow σ H1 e1)
    (hg : ∀ z, TgOk (F.cmp z) ow is g f) (htt : ∀ z σ H Q, rdT (F.cmp z) ow mt σ H Q → tt σ H Q) (htk : ∀ z σ H Q, rd (F.cmp z) ow mk σ H Q → tk σ H Q) (htv : ∀ z σ H Q, rd (F.cmp z) ow mv σ H Q → tv σ H Q)
    (ho : ∀ i ∈ own, i ∉ ow) (his : ∀ i ∈ is, i ∈ own)
    (hok : dcLoop own f mt mk mv l [] e1 = .ok pf ef)
    (hfin : ∀ H acc vs, pf = .dK acc → Keep (Own ow σ) H1 H → ER F.S (F.cmp D).G ow σ H ef → H D = some (.dK vs) → KVs F.S H (Gd (F.cmp D).G ow σ) vs acc → Q (.ref D) H) :
    ∃ W : Nat → Nat → Hp → Prop, (∃ m, W 0 m (upd H1 D (.dK []))) ∧ ∀ (i m : Nat) (H : Hp), W i m H →
      (J.stop i H ∧ Q (.ref D) H) ∨ (J.go i H ∧ ∃ Nx : Hp → Prop, (∀ H', Nx H' → ∃ m', m' < m ∧ W (i + 1) m' H') ∧ ∀ x H', J.yld i H x H' →
        g x (L2.wipe σ own) H' fun σ2 H2 => L2.wipe σ2 own = L2.wipe σ own ∧ tt σ2 H2 fun b H3 => if b = true then tk σ2 H3 fun y H4 => tv σ2 H4 fun z H5 => ∃ kvs k, y = kV k ∧ H5 D = some (.dK kvs) ∧ kvs.length < sizeLine ∧ Nx (upd H5 D (.dK (putK kvs k z))) else Nx H3) := by
  obtain ⟨T, T0, Ts, Tg⟩ := hJ
  have nOwn : ¬ Own ow σ D := fun z => (R1.ownT z).ne hD
  have lessD : Less H1 (Gd F.G ow σ) (Gd (F.cmp D).G ow σ) := fun a h z => by
    rcases z with (z | z) | z
    · exact .inl z
    · subst z; exact absurd hD h.ne
    · exact .inr z
  refine ⟨fun i m H => m = l.length - i ∧ i ≤ l.length ∧ T H (Gd (F.cmp D).G ow σ) ∧ ∃ e acc vs, ER F.S (F.cmp D).G ow σ H e ∧ H D = some (.dK vs) ∧ KVs F.S H (Gd (F.cmp D).G ow σ) vs acc ∧ Keep (Own ow σ) H1 H ∧ dcLoop own f mt mk mv (l.drop i) acc e = .ok pf ef,
    ⟨l.length, by simp, Nat.zero_le _, Ts _ _ _ _ T0 (Keep.upd hD) lessD, e1, [], [], R1.ext hD, upd_same, .nil, Keep.upd hD, by simpa using hok⟩, ?_⟩
  rintro i m H ⟨rfl, hl, t, e2, acc, vs, R2, hv, ra, k2, p2⟩
  obtain ⟨hgo2, hstop⟩ := Tg i H _ R2.tracked t
  by_cases hlt : i < l.length
  · have hd : l.drop i = l[i] :: l.drop (i + 1) := List.drop_eq_getElem_cons hlt
    rw [hd] at p2
    obtain ⟨go, yld⟩ := hgo2 l[i] (by simp [hlt])
    refine .inr ⟨go, fun H' => T H' (Gd (F.cmp D).G ow σ) ∧ ∃ e acc vs, ER F.S (F.cmp D).G ow σ H' e ∧ H' D = some (.dK vs) ∧ KVs F.S H' (Gd (F.cmp D).G ow σ) vs acc ∧ Keep (Own ow σ) H1 H' ∧ dcLoop own f mt mk mv (l.drop (i + 1)) acc e = .ok pf ef,
      fun H' ⟨t', z⟩ => ⟨l.length - (i + 1), by omega, rfl, hlt, t', z⟩, fun x H' y => ?_⟩
    obtain ⟨kk, rx⟩ := yld x H' y
    have R3 := R2.keep kk
    have Rw := R3.wipe ho
    have sameW : ∀ j, j ∈ ow → (L2.wipe σ own)[j]? = σ[j]? := fun j hj => wipe_out fun z => ho j z hj
    have ow_w : Own ow (L2.wipe σ own) = Own ow σ := funext fun a => propext ⟨fun ⟨i, hi, z⟩ => ⟨i, hi, by rw [← sameW i hi]; exact z⟩, fun ⟨i, hi, z⟩ => ⟨i, hi, by rw [sameW i hi]; exact z⟩⟩
    have gd_w : Gd (F.cmp D).G ow (L2.wipe σ own) = Gd (F.cmp D).G ow σ := by unfold Gd; rw [ow_w]
    cases hf : f l[i] (wipeE e2 own) with
    | none => simp only [dcLoop, hf] at p2; cases p2
    | some e3 =>
      simp only [dcLoop, hf] at p2
      refine hg D Rw (by rw [gd_w]; exact rx) hf _ fun σ' ks st off R4 => ?_
      have hw : L2.wipe σ' own = L2.wipe σ own := by
        have h1 : L2.wipe σ' own = L2.wipe (L2.wipe σ own) own := wipe_eq off.1 fun j hj => off.2 j fun z => hj (his j z)
        rw [h1]
        exact wipe_eq (wipe_length _ _) fun j hj => wipe_out hj
      have same : ∀ j, j ∉ own → σ'[j]? = σ[j]? := fun j hj => by rw [← wipe_out (σ := σ') hj, hw, wipe_out hj]
      have notown : ∀ j, j ∈ ow → j ∉ own := fun j hj z => ho j z hj
      have oe : Own ow σ' = Own ow σ := funext fun a => propext ⟨fun ⟨i, hi, z⟩ => ⟨i, hi, by rw [← same i (notown i hi)]; exact z⟩, fun ⟨i, hi, z⟩ => ⟨i, hi, by rw [same i (notown i hi)]; exact z⟩⟩
      have ge : Gd (F.cmp D).G ow σ' = Gd (F.cmp D).G ow σ := by unfold Gd; rw [oe]
      refine ⟨hw, htt D _ _ _ ⟨e3, R4, ?_⟩⟩
      have vk : ∀ {H5 : Hp}, Keep (Own ow σ) H' H5 → H5 D = some (.dK vs) := fun {H5} k => k.kp D _ (kk D _ hv) nOwn nt_dK
      have rak : ∀ {H5 : Hp}, Keep (Own ow σ) H' H5 → KVs F.S H5 (Gd (F.cmp D).G ow σ) vs acc := fun {H5} k => KVs.mono k.gd Less.refl (KVs.mono (Keep.all kk) Less.refl ra)
      have tk' : ∀ {H5 : Hp}, Keep (Own ow σ) H' H5 → T H5 (Gd (F.cmp D).G ow σ) := fun {H5} k => Ts _ _ _ _ (Ts _ _ _ _ t (Keep.all kk) Less.refl) k.gd Less.refl
      have k2k : ∀ {H5 : Hp}, Keep (Own ow σ) H' H5 → Keep (Own ow σ) H1 H5 := fun {H5} k => (k2.trans (Keep.all kk)).trans k
      cases hmt : mt e3 with
      | bad => simp only [hmt] at p2; cases p2
      | exc x e4 => simp only [hmt] at p2; cases p2
      | ok b e4 =>
        intro H3 k3 R5
        rw [oe] at k3
        cases b with
        | false =>
          simp only [hmt] at p2
          rw [if_neg (by decide)]
          exact ⟨tk' k3, _, acc, vs, ER.rest R3 R5 k3 hw ho, vk k3, rak k3, k2k k3, p2⟩
        | true =>
          simp only [hmt] at p2
          rw [if_pos rfl]
          refine htk D _ _ _ ⟨e4, R5, ?_⟩
          cases hmk : mk e4 with
          | bad => simp only [hmk] at p2; cases p2
          | exc x e5 => simp only [hmk] at p2; cases p2
          | ok kp e5 =>
            simp only [hmk] at p2
            intro H4 k4 R6 yk rk
            rw [oe] at k4
            rw [ge] at rk
            cases hkp : keyP kp with
            | none => simp only [hkp] at p2; cases p2
            | some key =>
              simp only [hkp] at p2
              refine htv D _ _ _ ⟨e5, R6, ?_⟩
              cases hmv : mv e5 with
              | bad => simp only [hmv] at p2; cases p2
              | exc x e6 => simp only [hmv] at p2; cases p2
              | ok q e6 =>
                simp only [hmv] at p2
                intro H5 k5 R7 yv ry
                rw [oe] at k5
                rw [ge] at ry
                split at p2
                · rename_i hsz
                  have k35 := (k3.trans k4).trans k5
                  refine ⟨vs, key, rk.key hkp, vk k35, by rw [(rak k35).length]; exact hsz, ?_⟩
                  have kD : Keep (Gd (F.cmp D).G ow σ) H5 (upd H5 D (.dK (putK vs key yv))) := Keep.own (vk k35) (.inl (.inr rfl))
                  have kU : Keep (Own ow σ) H1 (upd H5 D (.dK (putK vs key yv))) := ⟨fun z u e n nt => by
                    have hz : z ≠ D := fun q => by subst q; rw [e] at hD; cases hD
                    rw [upd_ne hz]; exact (k2k k35).kp z u e n nt⟩
                  have R8 := ER.rest R3 R7 k35 hw ho
                  refine ⟨Ts _ _ _ _ (tk' k35) kD Less.refl, _, putP acc key q, putK vs key yv, ?_, upd_same, KVs.mono kD Less.refl ((rak k35).put ry), kU, p2⟩
                  refine ⟨fun j p h1 h2 => ?_, fun j p h1 h2 => ?_, R8.off, R8.sep, R8.ng, fun a g => ?_, fun p hp => tab_own (vk k35) nt_dK (fun _ z => by cases z) (R8.tb p hp), R8.len⟩
                  · obtain ⟨v, h3, h4⟩ := R8.val j p h1 h2
                    exact ⟨v, h3, h4.mono kD Less.refl⟩
                  · obtain ⟨v, h3, h4⟩ := R8.own j p h1 h2
                    refine ⟨v, h3, h4.mono kD Less.refl fun a z => ?_⟩
                    subst z
                    exact upd_ne fun q => nOwn (q ▸ ⟨j, h2, h3⟩)
                  · by_cases z : a = D
                    · subst z; exact ⟨_, upd_same, nt_dK⟩
                    · obtain ⟨w, q1, q2⟩ := R8.gt a g
                      exact ⟨w, by rw [upd_ne z]; exact q1, q2⟩
                · cases p2
  · have hd : l.drop i = [] := List.drop_eq_nil_of_le (by omega)
    rw [hd] at p2
    simp only [dcLoop] at p2
    cases p2
    exact .inl ⟨hstop (by omega), hfin H acc vs rfl k2 R2 hv ra⟩
theorem dc_go {g : TG} {tt : TT} {tk tv : TE} {is own : List Nat} {f : PV → En → Option En} {mt : Mo Bool} {mk mv : Mo PV} {mi : Mo (List PV)} {σ : L2.St} {H : Hp} {Q : VK}
    (hg : ∀ z, TgOk (F.cmp z) ow is g f) (htt : ∀ z σ H Q, rdT (F.cmp z) ow mt σ H Q → tt σ H Q) (htk : ∀ z σ H Q, rd (F.cmp z) ow mk σ H Q → tk σ H Q) (htv : ∀ z σ H Q, rd (F.cmp z) ow mv σ H Q → tv σ H Q) (ho : ∀ i ∈ own, i ∉ ow) (his : ∀ i ∈ is, i ∈ own)
    (h : rd F ow (mDc own f mt mk mv mi) σ H Q) : tDc (rdI F ow mi) g tt tk tv own σ H Q := by
  obtain ⟨e, R, p⟩ := h
  refine ⟨e, R, (Post.unbind p).mono fun l e1 H1 k1 R1 p1 J hJ D hD => ?_⟩
  cases hok : dcLoop own f mt mk mv l [] e1 with
  | bad => rw [hok] at p1; exact p1.elim
  | exc x e2 => exact absurd hok dcLoop_noexc
  | ok pf ef =>
    rw [hok] at p1
    refine dcM_core (e1 := e1) (is := is) (f := f) hJ hD R1 hg htt htk htv ho his hok fun H2 acc vs e3 k2 R2 hv ra => ?_
    subst e3
    have nG : ¬ Gd F.G ow σ D := fun z => (R1.tracked D z).ne hD
    exact p1 H2 k2 R2.unext _ (.dK nG hv (KVs.mono Keep.refl (fun a _ z => z.imp .inl id) ra))
theorem dcF_go {g : TG} {tt : TT} {tk tv : TE} {is own : List Nat} {f : PV → En → Option En} {mt : Mo Bool} {mk mv : Mo PV} {mi : Mo (List PV)} {σ : L2.St} {H : Hp} {Q : VK}
    (hg : ∀ z, TgOk (F.cmp z) ow is g f) (htt : ∀ z σ H Q, rdT (F.cmp z) ow mt σ H Q → tt σ H Q) (htk : ∀ z σ H Q, rd (F.cmp z) ow mk σ H Q → tk σ H Q) (htv : ∀ z σ H Q, rd (F.cmp z) ow mv σ H Q → tv σ H Q) (ho : ∀ i ∈ own, i ∉ ow) (his : ∀ i ∈ is, i ∈ own)
    (h : rdF F ow (mDc own f mt mk mv mi) σ H Q) : tDc (rdI F ow mi) g tt tk tv own σ H Q := by
  obtain ⟨e, R, p⟩ := h
  refine ⟨e, R, ?_⟩
  unfold mDc at p
  cases q : mi e with
  | bad => simp only [q, Out.bind] at p
  | exc x e1 => simp only [q, Out.bind] at p; exact p
  | ok l e1 =>
    simp only [q, Out.bind] at p
    intro H1 k1 R1 J hJ D hD
    cases hok : dcLoop own f mt mk mv l [] e1 with
    | bad => rw [hok] at p; exact p.elim
    | exc x e2 => exact absurd hok dcLoop_noexc
    | ok pf ef =>
      rw [hok] at p
      refine dcM_core (e1 := e1) (is := is) (f := f) hJ hD R1 hg htt htk htv ho his hok fun H2 acc vs e3 k2 R2 hv ra => ?_
      subst e3
      exact p D H2 (fresh_of R k1 R1 (no_hd hD)) (k1.trans k2) R2 ⟨D, vs, rfl, hv, ra⟩
end
end M

namespace M
open PySem PySem.Spec PyProof.Rows L2

/-! ### d = {k: v for ..} -/
section
variable {X : Cx}
abbrev InBlk (X : Cx) (scope : Scope) (R : Cx → Prop) : Prop := ∀ (s : Shared) (H : Hp) (C : Addr) (cl : List (Str × Addr)) (fp : List Addr), R (X.blk s H scope (compEnvC scope cl C X.env) fp)
theorem swD_true {kx vx : Expr} {gs : List Comprehension} {scope : Scope} {pos py : Pos} {y : Str} {l : Nat} {env : Env} (hk : env.scope.kind = .function) (hy : env.scope.names.lookup y = some .local) (hl : (py.line == pos.line) = true)
    (ha : (scope.names.any fun (n, k) => n == y && (k == .local || k == .cell)) = false) : swapsWith (.DictComp kx vx gs scope pos) (some (.Name y py)) l env = pure true := by
  have e1 : env.kindOf y = some .local := hy
  have e2 : env.blockKind = .function := by
    unfold Env.blockKind
    rw [hk]
    rfl
  simp only [swapsWith, e2, e1, ha, Expr.pos, hl]
  rfl
theorem psM_setDc {i : Nat} {y : Str} {py : Pos} {kx vx tg iter : Expr} {ifs : List Expr} {scope : Scope} {own : List (Str × Nat)} {pos spos : Pos} {wi : TI} {g : TG} {tt : TT} {tk tv : TE} (hc : X.calm = true) (hN : X.N.Nodup) (hy : X.N[i]? = some y) (hyl : X.env.scope.names.lookup y = some .local)
    (hsw : swapsWith (.DictComp kx vx [⟨tg, iter, ifs, 0⟩] scope pos) (some (.Name y py)) spos.line X.env = pure true) (hi : PI X tg iter wi) (ok : BlkOk X.N X.env.scope scope own)
    (hg : InBlk X scope fun Y => PG Y tg g) (ht : InBlk X scope fun Y => PTs Y ifs tt) (hk : InBlk X scope fun Y => PE Y kx tk) (he : InBlk X scope fun Y => PE Y vx tv)
    (hs : ∀ x, foldedSetIterable iter X.env x = pure x := by intro _; rfl) :
    PS X (.Assign [.Name y py] (.DictComp kx vx [⟨tg, iter, ifs, 0⟩] scope pos) spos) (tAsg (tDc wi g tt tk tv (own.map (·.2))) (gName i)) := by
  refine ⟨fun pins s σ H D I h => ?_⟩
  rw [exec_Assign_Name_used _ _ _ _ hsw]
  refine wpAny_bind (wpAny_standAt (wpAny_bind ?_))
  show wpAny _ X.A (do
    let _ ← comprehension (.DictComp kx vx [⟨tg, iter, ifs, 0⟩] scope pos) scope X.env (firstIterPos [⟨tg, iter, ifs, 0⟩] pos) newDict false (eval iter X.env) (some (assign (.Name y py) X.env))) _ _ s
  have h : tDc wi g tt tk tv (own.map (·.2)) σ H (fun x H1 => gName i x σ H1 D.nx) := h
  have main := dc_core (pos := pos) (Qf := fun _ s' => SP X pins D .next s') (use := some (assign (.Name y py) X.env)) (pos' := firstIterPos [⟨tg, iter, ifs, 0⟩] pos) hc hN I hi ok hg ht hk he hs h fun L C s' m H' I' q hn f => by
    show wpAny _ _ (assign (.Name y py) X.env (.ref L)) _ _ _
    refine wpAny_assign_Name (store_ok2 (v := V.ref L) I' hN hy (.inl hyl) rfl (fun s2 I2 ⟨a, sb, ha⟩ => ?_) (.inr hyl))
    obtain ⟨f0, f1, f2, f3, f4, f5⟩ := f
    have ne : C ≠ a := by
      rcases ha with z | z
      · rw [z]
        exact f1
      · exact fun e => f4 y a z e.symm
    refine ⟨m, hn.sameBut sb ne, fun h3 sb3 => ⟨_, H', ?_, q⟩⟩
    exact I2.turned (t' := s2.toks) (fun b o hb e => (sb3.2 b hb).trans e) f0 f1 f3 f4 f5
  exact wpAny_bind (thn main fun _ s' hq => wpAny_pure (wpAny_pure hq))
end
section
variable {X : Cx} {F : Fm} {ow ow' ob : List Nat} {σ : L2.St} {H : Hp}
theorem pm_dc {kx vx tg iter : Expr} {ifs : List Expr} {scope : Scope} {own : List (Str × Nat)} {pos : Pos} {g : TG} {is : List Nat} {f : PV → En → Option En} {mt : Mo Bool} {mk mv : Mo PV} {mi : Mo (List PV)}
    (hN : X.N.Nodup) (hi : PI X tg iter (rdI F ow mi)) (hb : BlkOk X.N X.env.scope scope own) (hpg : InBlk X scope fun Y => PG Y tg g) (hpt : InBlk X scope fun Y => ∀ z, PTs Y ifs (rdT (F.cmp z) ow mt))
    (hpk : InBlk X scope fun Y => ∀ z, PE Y kx (rd (F.cmp z) ow mk)) (hpv : InBlk X scope fun Y => ∀ z, PE Y vx (rd (F.cmp z) ow mv))
    (hg : ∀ z, TgOk (F.cmp z) ow is g f) (ho : ∀ i ∈ own.map (·.2), i ∉ ow := by decide) (his : ∀ i ∈ is, i ∈ own.map (·.2) := by decide) (hc : X.calm = true := by rfl) (hs : ∀ x, foldedSetIterable iter X.env x = pure x := by intro _; rfl) :
    PE X (.DictComp kx vx [{ target := tg, iter := iter, ifs := ifs, is_async := 0 }] scope pos) (rd F ow (mDc (own.map (·.2)) f mt mk mv mi)) :=
  (pe_dc hc hN hi hb hpg (fun s H C cl fp => pts_all (hpt s H C cl fp)) (fun s H C cl fp => pe_all (hpk s H C cl fp)) (fun s H C cl fp => pe_all (hpv s H C cl fp)) hs).imp fun σ H Q h =>
    dc_go hg (fun z _ _ _ q => ⟨z, q⟩) (fun z _ _ _ q => ⟨z, q⟩) (fun z _ _ _ q => ⟨z, q⟩) ho his h
theorem pmf_dc {kx vx tg iter : Expr} {ifs : List Expr} {scope : Scope} {own : List (Str × Nat)} {pos : Pos} {g : TG} {is : List Nat} {f : PV → En → Option En} {mt : Mo Bool} {mk mv : Mo PV} {mi : Mo (List PV)}
    (hN : X.N.Nodup) (hi : PI X tg iter (rdI F ow mi)) (hb : BlkOk X.N X.env.scope scope own) (hpg : InBlk X scope fun Y => PG Y tg g) (hpt : InBlk X scope fun Y => ∀ z, PTs Y ifs (rdT (F.cmp z) ow mt))
    (hpk : InBlk X scope fun Y => ∀ z, PE Y kx (rd (F.cmp z) ow mk)) (hpv : InBlk X scope fun Y => ∀ z, PE Y vx (rd (F.cmp z) ow mv))
    (hg : ∀ z, TgOk (F.cmp z) ow is g f) (ho : ∀ i ∈ own.map (·.2), i ∉ ow := by decide) (his : ∀ i ∈ is, i ∈ own.map (·.2) := by decide) (hc : X.calm = true := by rfl) (hs : ∀ x, foldedSetIterable iter X.env x = pure x := by intro _; rfl) :
    PE X (.DictComp kx vx [{ target := tg, iter := iter, ifs := ifs, is_async := 0 }] scope pos) (rdF F ow (mDc (own.map (·.2)) f mt mk mv mi)) :=
  (pe_dc hc hN hi hb hpg (fun s H C cl fp => pts_all (hpt s H C cl fp)) (fun s H C cl fp => pe_all (hpk s H C cl fp)) (fun s H C cl fp => pe_all (hpv s H C cl fp)) hs).imp fun σ H Q h =>
    dcF_go hg (fun z _ _ _ q => ⟨z, q⟩) (fun z _ _ _ q => ⟨z, q⟩) (fun z _ _ _ q => ⟨z, q⟩) ho his h
theorem pmt_setDc (i : Nat) {y : Str} {py : Pos} {kx vx tg iter : Expr} {ifs : List Expr} {scope : Scope} {own : List (Str × Nat)} {pos spos : Pos} {g : TG} {is : List Nat} {f : PV → En → Option En} {mt : Mo Bool} {mk mv : Mo PV} {mi : Mo (List PV)}
    (hN : X.N.Nodup) (hI : PI X tg iter (rdI F ow mi)) (hb : BlkOk X.N X.env.scope scope own) (hpg : InBlk X scope fun Y => PG Y tg g) (hpt : InBlk X scope fun Y => ∀ z, PTs Y ifs (rdT (F.cmp z) ow mt))
    (hpk : InBlk X scope fun Y => ∀ z, PE Y kx (rd (F.cmp z) ow mk)) (hpv : InBlk X scope fun Y => ∀ z, PE Y vx (rd (F.cmp z) ow mv)) (hg : ∀ z, TgOk (F.cmp z) ow is g f)
    (hsw : swapsWith (.DictComp kx vx [{ target := tg, iter := iter, ifs := ifs, is_async := 0 }] scope pos) (some (.Name y py)) spos.line X.env = pure true)
    (hi : i ∉ ow := by decide) (hio : i ∉ F.io := by first | decide | exact of_decide_eq_true rfl) (hx : X.N[i]? = some y := by rfl) (hl : X.env.scope.names.lookup y = some .local := by rfl)
    (ho : ∀ i ∈ own.map (·.2), i ∉ ow := by decide) (his : ∀ i ∈ is, i ∈ own.map (·.2) := by decide) (hc : X.calm = true := by rfl) (hs : ∀ x, foldedSetIterable iter X.env x = pure x := by intro _; rfl) :
    PS X (.Assign [.Name y py] (.DictComp kx vx [{ target := tg, iter := iter, ifs := ifs, is_async := 0 }] scope pos) spos) (rdS F ow ow ob (mSet i (mDc (own.map (·.2)) f mt mk mv mi))) :=
  (psM_setDc hc hN hx hl hsw hI hb hpg (fun s H C cl fp => pts_all (hpt s H C cl fp)) (fun s H C cl fp => pe_all (hpk s H C cl fp)) (fun s H C cl fp => pe_all (hpv s H C cl fp)) hs).imp fun D σ H ⟨e, R, p⟩ =>
    dc_go hg (fun z _ _ _ q => ⟨z, q⟩) (fun z _ _ _ q => ⟨z, q⟩) (fun z _ _ _ q => ⟨z, q⟩) ho his ⟨e, R, (Post.stmt p).mono fun a e1 H1 k1 R1 p1 v rv => p1 _ H1 (KeepS.set hi) (Stay.set hio) (R1.set hi rv)⟩
theorem pmt_setDcO (i : Nat) {y : Str} {py : Pos} {kx vx tg iter : Expr} {ifs : List Expr} {scope : Scope} {own : List (Str × Nat)} {pos spos : Pos} {g : TG} {is : List Nat} {f : PV → En → Option En} {mt : Mo Bool} {mk mv : Mo PV} {mi : Mo (List PV)}
    (hN : X.N.Nodup) (hI : PI X tg iter (rdI F ow mi)) (hb : BlkOk X.N X.env.scope scope own) (hpg : InBlk X scope fun Y => PG Y tg g) (hpt : InBlk X scope fun Y => ∀ z, PTs Y ifs (rdT (F.cmp z) ow mt))
    (hpk : InBlk X scope fun Y => ∀ z, PE Y kx (rd (F.cmp z) ow mk)) (hpv : InBlk X scope fun Y => ∀ z, PE Y vx (rd (F.cmp z) ow mv)) (hg : ∀ z, TgOk (F.cmp z) ow is g f)
    (hsw : swapsWith (.DictComp kx vx [{ target := tg, iter := iter, ifs := ifs, is_async := 0 }] scope pos) (some (.Name y py)) spos.line X.env = pure true)
    (h1 : ∀ j ∈ ow', j = i ∨ j ∈ ow := by decide) (h2 : ∀ j ∈ ow, j ∈ ow' := by decide) (h3 : i ∈ ow' := by decide) (hio : i ∉ F.io := by first | decide | exact of_decide_eq_true rfl) (hx : X.N[i]? = some y := by rfl) (hl : X.env.scope.names.lookup y = some .local := by rfl)
    (ho : ∀ i ∈ own.map (·.2), i ∉ ow := by decide) (his : ∀ i ∈ is, i ∈ own.map (·.2) := by decide) (hc : X.calm = true := by rfl) (hs : ∀ x, foldedSetIterable iter X.env x = pure x := by intro _; rfl) :
    PS X (.Assign [.Name y py] (.DictComp kx vx [{ target := tg, iter := iter, ifs := ifs, is_async := 0 }] scope pos) spos) (rdS F ow ow' ob (mSetO i (mDc (own.map (·.2)) f mt mk mv mi))) :=
  (psM_setDc hc hN hx hl hsw hI hb hpg (fun s H C cl fp => pts_all (hpt s H C cl fp)) (fun s H C cl fp => pe_all (hpk s H C cl fp)) (fun s H C cl fp => pe_all (hpv s H C cl fp)) hs).imp fun D σ H ⟨e, R, p⟩ => by
    refine dcF_go hg (fun z _ _ _ q => ⟨z, q⟩) (fun z _ _ _ q => ⟨z, q⟩) (fun z _ _ _ q => ⟨z, q⟩) ho his ⟨e, R, ?_⟩
    unfold mSetO at p
    cases q : mDc (own.map (·.2)) f mt mk mv mi e with
    | bad => simp only [q, SOut.of] at p; exact p.elim
    | exc x e1 => simp only [q, SOut.of] at p; exact fun H1 c d k R1 x1 => p σ ow H1 c d (KeepS.of k) Stay.refl R1 x1
    | ok pv e1 =>
      simp only [q, SOut.of] at p
      intro a H1 hn k R1 ra
      split at p
      · rename_i hle
        have hl : i < σ.length := by rw [← R1.len]; exact hle
        have h0 : ∀ z, F.G z → z ≠ a := fun z g e1 => by subst e1; exact hn (R.gt z g)
        exact p _ H1 (KeepS.setO k hn h1 hl) (Stay.set hio) (R1.setO h0 ra h1 h2 h3 hl)
      · exact p.elim
/-- {}, one's own -/
theorem pmf_dict0 {pos : Pos} : PE X (.Dict [] [] pos) (rdF F ow mDict0) :=
  pe_dnewK.imp fun σ H Q ⟨e, R, p⟩ q hq => p q _ (no_hd hq) (Keep.upd hq) (R.ext hq) ⟨q, [], rfl, upd_same, .nil⟩
end
end M

namespace M
open PySem PySem.Spec PyProof.Rows L2

theorem hu1 {n : Nat} (h : n + 65 < cLine) : n + 1 < cLine := by omega
/-! ### list(d), len(d) -/
def keyV : Key → PV
  | .inl i => .int i
  | .inr x => .str x
def gListA : List PV → Option PV
  | [.dK l] => some (.lst (l.map fun kv => keyV kv.1))
  | l => gList l
section
variable {X : Cx} {F : Fm} {ow ow' ob : List Nat} {σ : L2.St} {H : Hp}
theorem WV.isD {S : Se} {O : Addr → Prop} {v : V} {l : List (Key × PV)} (r : WV S H O v (.dK l)) : ∃ a kvs, v = .ref a ∧ H a = some (.dK kvs) ∧ KVs S H O kvs l := by
  rcases r with r | r
  · exact r.isD
  · exact r
theorem KVs.keys {S : Se} {O : Addr → Prop} : ∀ {kvs : List (Key × V)} {l : List (Key × PV)}, KVs S H O kvs l → RVs S H O (kvs.map fun kv => kV kv.1) (l.map fun kv => keyV kv.1)
  | _, _, .nil => .nil
  | _, _, .cons (k := k) r t => .cons (by cases k with
    | inl i => exact .int i
    | inr x => exact .str x) (KVs.keys t)
theorem CallR.or2 {f : Value} {r r' : List V → Hp → VK → Prop} (h : CallR X f r) (h' : CallR X f r') : CallR X f fun xs H Q => r xs H Q ∨ r' xs H Q := by
  intro pins s σ H xs us Q I rs q
  rcases q with q | q
  · exact h pins s σ H xs us Q I rs q
  · exact h' pins s σ H xs us Q I rs q
theorem co_listA (hc : X.calm = true := by rfl) (hS : F.S = ⟨X.K, X.mg, F.S.T⟩ := by rfl) : CallOk X F (.type "list") gListA := by
  intro O
  obtain ⟨r, hr, k0⟩ := co_list (F := F) hS O
  refine ⟨_, CallR.or2 (call_listD hc) hr, fun H xs ps c Q hp rs e q => ?_⟩
  unfold gListA at e
  split at e
  · rename_i l
    cases e
    obtain ⟨x, rfl, rx⟩ := rs.one
    obtain ⟨a, kvs, rfl, h1, t1⟩ := rx.isD
    exact .inl ⟨a, kvs, rfl, .inl h1, fun p hn => q _ _ (upd_keep hn) (t1.keys.newL hn hp)⟩
  · exact .inr (k0 H xs _ c Q hp rs e q)
end
end M

namespace M
open PySem PySem.Spec PyProof.Rows L2

/-! ### (*t, x, ..) -/
def seqP : PV → Option (List PV)
  | .tup l => some l
  | .lst l => some l
  | _ => none
def mStar (m : Mo PV) (ml : Mo (List PV)) : Mo (List PV) := fun e => (m e).bind fun p e1 => match seqP p with
  | some r => (ml e1).bind fun l e2 => .ok (r ++ l) e2
  | none => .bad
section
variable {X : Cx} {F : Fm} {ow : List Nat} {σ : L2.St} {H : Hp}
theorem star_go (hK : F.S.K = X.K) {m : Mo PV} {ml : Mo (List PV)} {σ : L2.St} {H : Hp} {Q : List V → Hp → Prop} (h : rdA F ow (mStar m ml) σ H Q) : StX.tStar X.K (rd F ow m) (rdA F ow ml) σ H Q := by
  obtain ⟨e, R, p⟩ := h
  refine ⟨e, R, (Post.unbind p).mono fun a e1 H1 k1 R1 p1 x rx => ?_⟩
  cases hs : seqP a with
  | none => simp only [hs] at p1; exact p1.elim
  | some r =>
    simp only [hs] at p1
    have key : ∃ q xs, x = V.ref q ∧ (SqT X.K H1 q xs ∨ SqL X.K H1 q xs) ∧ RVs F.S H1 (Gd F.G ow σ) xs r := by
      unfold seqP at hs
      split at hs
      · cases hs
        obtain ⟨q, vs, e2, h1, t⟩ := rx.isT
        rw [hK] at h1
        exact ⟨q, vs, e2, .inl h1, t⟩
      · cases hs
        obtain ⟨q, vs, e2, h1, t⟩ := rx.isL
        exact ⟨q, vs, e2, .inr (.inl (.inl h1)), t⟩
      · cases hs
    obtain ⟨q, xs, e2, h1, t⟩ := key
    refine ⟨q, xs, e2, h1, e1, R1, (Post.unbind p1).mono fun l e3 H2 k2 R2 p2 ys rs => ?_⟩
    exact p2 H2 Keep.refl R2 _ ((t.mono k2.gd Less.refl).append rs)
theorem pma_star {a : Expr} {es : List Expr} {m : Mo PV} {ml : Mo (List PV)} {p : Pos} (ha : PE X a (rd F ow m)) (hr : PA X es (rdA F ow ml)) (hS : F.S = ⟨X.K, X.mg, F.S.T⟩ := by rfl)
    (hs : starEach (.Starred a p :: es) X.env = (true, eval a X.env) :: starEach es X.env := by rfl) : PA X (.Starred a p :: es) (rdA F ow (mStar m ml)) :=
  (StX.pa_star ha hr hs).imp fun σ H Q h => star_go (by rw [hS]) h
end
end M

namespace M
open PySem PySem.Spec PyProof.Rows L2

section
variable {X : Cx} {F : Fm} {ow ow' ob : List Nat} {σ : L2.St} {H : Hp}
/-- is not True -/
def pNotB : PV → PV → Option PV
  | .bl a, .bl b => some (.bl (!decide (a = b)))
  | _, _ => none
theorem bin_notB : BinOk X F (compareOp .IsNot) pNotB := by
  intro O
  refine ⟨_, op_notBl, fun H x y a b c Q hp ra rb e q => ?_⟩
  unfold pNotB at e
  split at e
  · cases e
    cases ra
    cases rb
    exact ⟨_, _, rfl, rfl, q _ H (fun _ _ z => z) (.bl _)⟩
  · cases e
/-! ### xs[i] op= e -/
def rGetL : V → V → Hp → VK → Prop := fun o i H Q => ∃ (p : Addr) (xs : List V) (k : Int) (v : V), o = .ref p ∧ i = .int k ∧ H p = some (.lst xs) ∧ L2.atI xs k = some v ∧ Q v H
theorem get_lst : PGet X rGetL := by
  intro pins s σ H o i ov iv Q I ro ri ⟨p, xs, k, z, e1, e2, hp, he, q⟩
  subst e1 e2
  cases ro
  obtain ⟨t, rfl⟩ := ri
  obtain ⟨its, r, pl, hz⟩ := I.list (.inl (.inl hp))
  obtain ⟨j, h1, h2, h3, h4, h5⟩ := atI_get he
  obtain ⟨w, ew, rw'⟩ := r.get h2
  have hl := r.length
  have hn := line63
  have fin : EP X pins σ Q w s := ⟨z, H, I, rw', q⟩
  by_cases h0 : 0 ≤ k
  · have hj : k.toNat = j := by
      rw [seqIndex_of h0 h5] at h1
      exact Option.some.inj h1
    exact wpAny_getItem_list pl.isList h0 (by omega) (by rw [hj]; simpa using ew) fin
  · have hj : (k + (its.toArray.size : Int)).toNat = j := by
      rw [seqIndex_neg (by omega) h4] at h1
      rw [List.size_toArray, ← hl]
      exact Option.some.inj h1
    exact wpAny_getItem_list_neg pl.isList (by omega) (by rw [List.size_toArray] <;> omega) (by omega) (by rw [hj]; simpa using ew) fin
def mAugIx (f : Int → Int → Int) (i : Nat) (mj me : Mo PV) : Ms := fun e => match e[i]? with
  | some (some _) => SOut.of (mj e) fun j e1 => match e1[i]?, j with
    | some (some (.lst l)), .int k => match atI l k with
      | some (.int u) => SOut.of (me e1) fun p e2 => match e2[i]?, p with
        | some (some (.lst l2)), .int w => match ixN l2.length k with
          | some n => if l2.length = l.length then .nxt (e2.set i (some (.lst (l2.set n (.int (f u w)))))) else .bad
          | none => .bad
        | _, _ => .bad
      | _ => .bad
    | _, _ => .bad
  | _ => .bad
theorem pmt_augIx (f : Int → Int → Int) (i : Nat) {x : Str} {b a : Expr} {mj me : Mo PV} {op : Operator} {p p2 pos : Pos} (ho : PIp X op (ipI f)) (hb : PE X b (rd F ow mj)) (ha : PE X a (rd F ow me)) (hi : i ∈ ow := by decide) (hN : X.N[i]? = some x := by rfl)
    (hv : Vis X.env.scope x := by first | exact .inl rfl | exact .inr (.inl rfl) | exact .inr (.inr rfl)) (hd : (x == ("__debug__" : Str)) = false := by decide) (hcd : (x == ("__classdict__" : Str)) = false := by decide)
    (haug : ∀ ov iv new, augStore b ov iv new = (do holding [new, ov, iv] (setItem ov iv new); release [new, ov, iv] []; pure .next) := by intros; rfl) :
    PS X (.AugAssign (.Subscript (.Name x p) b p2) op a pos) (rdS F ow ow ob (mAugIx f i mj me)) :=
  (ps_augS (pe_var hN hv hd hcd) hb get_lst ha ho set_list haug).imp fun D σ H ⟨e, R, p⟩ => by
    unfold mAugIx at p
    split at p
    · rename_i q0 he
      obtain ⟨v, g1, g2⟩ := R.own i _ he hi
      refine ⟨v, g1, e, R, (Post.stmt p).mono fun j e1 H1 k1 R1 p1 z rz => ?_⟩
      split at p1
      · rename_i l k he1
        obtain ⟨v', g5, a', vs, g6, g7, g8⟩ := R1.own i _ he1 hi
        rw [g1] at g5; cases g5
        subst g6
        cases rz
        split at p1
        · rename_i u hu
          obtain ⟨w, h7, h8⟩ := g8.atI hu
          cases h8
          refine ⟨a', vs, k, .int u, rfl, rfl, g7, h7, e1, R1, (Post.stmt p1).mono fun q e2 H2 k2 R2 p2 y ry => ?_⟩
          split at p2
          · rename_i l2 w he2
            cases ry
            split at p2
            · rename_i n hn
              split at p2
              · rename_i hlen
                obtain ⟨v', g5, a2, vs2, g6, g9, g10⟩ := R2.own i _ he2 hi
                rw [g1] at g5; cases g5
                cases g6
                refine ⟨u, w, rfl, rfl, a', vs2, k, n, rfl, rfl, g9, by rw [g10.length]; exact hn, ?_⟩
                have ob : Own ow σ a' := ⟨i, hi, g1⟩
                have kk : Keep (Own ow σ) H2 (upd H2 a' (.lst (vs2.set n (.int (f u w))))) := Keep.own g9 ob
                obtain ⟨k3, R3⟩ := R2.upd g9 hi g1 (List.getElem?_eq_some_iff.mp he2).1 (o := .lst (vs2.set n (.int (f u w)))) (p := .lst (l2.set n (.int (f u w)))) ⟨a', vs2.set n (.int (f u w)), rfl, upd_same, (g10.set (.int _) n).mono kk.gd Less.refl⟩
                exact p2 σ _ (KeepS.of k3) Stay.refl R3
              · exact p2.elim
            · exact p2.elim
          · exact p2.elim
        · exact p1.elim
      · exact p1.elim
    · exact p.elim
end
end M

namespace M
open PySem PySem.Spec PyProof.Rows L2

/-! ### a list of lists of one's own: each of its lists can grow -/
abbrev inN (a : Addr) (bs : List Addr) (z : Addr) : Prop := z = a ∨ z ∈ bs
structure Nst (S : Se) (O : Addr → Prop) (H : Hp) (a : Addr) (bs : List Addr) (ll : List (List PV)) : Prop where
  top : H a = some (.lst (bs.map V.ref))
  len : bs.length = ll.length
  at_ : ∀ (j : Nat) (b : Addr), bs[j]? = some b → ∃ vs l, ll[j]? = some l ∧ H b = some (.lst vs) ∧ RVs S H O vs l
inductive SO2 where
  | nxt (e : En) (ll : List (List PV)) | exc (x : Ex) (e : En) | bad
abbrev Ms2 := En → List (List PV) → SO2
structure KeepN (a : Addr) (bs : List Addr) (ow : List Nat) (σ : L2.St) (H : Hp) (oz : List Nat) (σ' : L2.St) (H' : Hp) : Prop where
  kp : ∀ z o, H z = some o → ¬ Own ow σ z → ¬ inN a bs z → NT o → H' z = some o ∧ ¬ Own oz σ' z
/-- what stands all along -/
structure NsF (F : Fm) (i : Nat) (a : Addr) (bs : List Addr) : Prop where
  io : i ∈ F.io
  g : ∀ z, inN a bs z → F.G z
  nd : bs.Nodup
  na : a ∉ bs
def PostN (F : Fm) (a : Addr) (bs : List Addr) (ow : List Nat) (σ : L2.St) (H : Hp) (D : Ends) : SO2 → Prop
  | .nxt e ll => ∀ σ' H', KeepN a bs ow σ H ow σ' H' → Stay F.io σ σ' → ER F.S F.G ow σ' H' e → Nst F.S (Gd F.G ow σ') H' a bs ll → D.nx σ' H'
  | .exc x e => ∀ σ' oz H' cls d, KeepN a bs ow σ H oz σ' H' → Stay F.io σ σ' → ER F.S F.G oz σ' H' e → ExAt F.S H' (Gd F.G oz σ') cls d x → F.W cls d σ' H'
  | .bad => False
def rdN (F : Fm) (i : Nat) (a : Addr) (bs : List Addr) (ow : List Nat) (M : Ms2) : TS := fun D σ H => ∃ e ll, ER F.S F.G ow σ H e ∧ σ[i]? = some (some (.ref a)) ∧ Nst F.S (Gd F.G ow σ) H a bs ll ∧ PostN F a bs ow σ H D (M e ll)
section
variable {X : Cx} {F : Fm} {i : Nat} {a : Addr} {bs : List Addr} {ow oz ow1 ob : List Nat} {σ σ1 σ2 : L2.St} {H H1 H2 : Hp}
theorem KeepN.refl : KeepN a bs ow σ H ow σ H := ⟨fun z o e n _ _ => ⟨e, n⟩⟩
theorem KeepN.trans (k : KeepN a bs ow σ H ow1 σ1 H1) (k2 : KeepN a bs ow1 σ1 H1 oz σ2 H2) : KeepN a bs ow σ H oz σ2 H2 := ⟨fun z o e n m t => let ⟨e1, n1⟩ := k.kp z o e n m t; k2.kp z o e1 n1 m t⟩
theorem KeepN.of (k : KeepS ow σ H oz σ1 H1) : KeepN a bs ow σ H oz σ1 H1 := ⟨fun z o e n _ t => k.kp z o e n t⟩
theorem KeepN.keep (N : NsF F i a bs) (k : KeepN a bs ow σ H oz σ1 H1) : Keep (Gd F.G ow σ) H H1 := ⟨fun z o e n t => (k.kp z o e (fun w => n (.inr w)) (fun w => n (.inl (N.g z w))) t).1⟩
theorem KeepN.less (N : NsF F i a bs) (k : KeepN a bs ow σ H oz σ1 H1) : Less H (Gd F.G ow σ) (Gd F.G oz σ1) := fun z h g => by
  rcases g with g | g
  · exact .inl g
  · by_cases w : Own ow σ z
    · exact .inr w
    · by_cases m : inN a bs z
      · exact .inl (N.g z m)
      · obtain ⟨o, e, t⟩ := h
        exact absurd g (k.kp z o e w m t).2
theorem PostN.from {D : Ends} {o : SO2} (p : PostN F a bs ow σ H D o) (k : KeepN a bs ow σ H ow σ1 H1) (st : Stay F.io σ σ1) : PostN F a bs ow σ1 H1 D o := by
  cases o with
  | nxt e ll => exact fun σ2 H2 k2 s2 R n => p σ2 H2 (k.trans k2) (st.trans s2) R n
  | exc x e => exact fun σ2 oz H2 c d k2 s2 R xa => p σ2 oz H2 c d (k.trans k2) (st.trans s2) R xa
  | bad => exact p
/-- other steps leave the lists as they are -/
theorem Nst.stay (N : NsF F i a bs) (R : ER F.S F.G ow σ H e) {ll : List (List PV)} (n : Nst F.S (Gd F.G ow σ) H a bs ll) (k : KeepS ow σ H oz σ1 H1) : Nst F.S (Gd F.G oz σ1) H1 a bs ll := by
  have no : ∀ z, inN a bs z → ¬ Own ow σ z := fun z hz ⟨j, hj, e⟩ => R.ng j z hj e (N.g z hz)
  have kk : Keep (Gd F.G ow σ) H H1 := KeepN.keep N (KeepN.of k)
  have ls := KeepN.less (F := F) N (KeepN.of (a := a) (bs := bs) k)
  refine ⟨(k.kp a _ n.top (no a (.inl rfl)) nt_lst).1, n.len, fun j b hb => ?_⟩
  obtain ⟨vs, l, h1, h2, h3⟩ := n.at_ j b hb
  exact ⟨vs, l, h1, (k.kp b _ h2 (no b (.inr (List.mem_of_getElem? hb))) nt_lst).1, h3.mono kk ls⟩
def liftN (m : Ms) : Ms2 := fun e ll => match m e with
  | .nxt e1 => .nxt e1 ll
  | .exc x e1 => .exc x e1
  | _ => .bad
theorem pmn_lift {st : Stmt} {m : Ms} (N : NsF F i a bs) (h : PS X st (rdS F ow ow ob m)) : PS X st (rdN F i a bs ow (liftN m)) :=
  h.imp fun D σ H ⟨e, ll, R, hi, n, p⟩ => by
    refine ⟨e, R, ?_⟩
    unfold liftN at p
    cases q : m e with
    | nxt e1 => simp only [q] at p; exact fun σ' H' ks st R' => p σ' H' (KeepN.of ks) st R' (n.stay N R ks)
    | exc x e1 => simp only [q] at p; exact fun σ' oz H' cls d ks st R' xa => p σ' oz H' cls d (KeepN.of ks) st R' xa
    | ret v e1 => simp only [q] at p; exact p.elim
    | brk e1 => simp only [q] at p; exact p.elim
    | cnt e1 => simp only [q] at p; exact p.elim
    | bad => simp only [q] at p; exact p.elim
def mSeq2 (m1 m2 : Ms2) : Ms2 := fun e ll => match m1 e ll with
  | .nxt e1 l1 => m2 e1 l1
  | o => o
def mNext2 : Ms2 := fun e ll => .nxt e ll
theorem pmn_nil : PSs X [] (rdN F i a bs ow mNext2) := pss_nil.imp fun D σ H ⟨e, ll, R, hi, n, p⟩ => p σ H KeepN.refl Stay.refl R n
theorem pmn_cons {st : Stmt} {rest : List Stmt} {m1 m2 : Ms2} (N : NsF F i a bs) (h1 : PS X st (rdN F i a bs ow m1)) (h2 : PSs X rest (rdN F i a bs ow m2)) : PSs X (st :: rest) (rdN F i a bs ow (mSeq2 m1 m2)) :=
  (pss_cons h1 h2).imp fun D σ H ⟨e, ll, R, hi, n, p⟩ => by
    refine ⟨e, ll, R, hi, n, ?_⟩
    unfold mSeq2 at p
    cases q : m1 e ll with
    | nxt e1 l1 => simp only [q] at p; exact fun σ1 H1 k st R1 n1 => ⟨e1, l1, R1, (st i N.io).trans hi, n1, PostN.from p k st⟩
    | exc x e1 => simp only [q] at p; exact p
    | bad => simp only [q] at p; exact p
def mIf2 (t : Mo Bool) (m1 m2 : Ms2) : Ms2 := fun e ll => match t e with
  | .ok k e1 => if k = true then m1 e1 ll else m2 e1 ll
  | .exc x e1 => .exc x e1
  | .bad => .bad
theorem pmn_if {c : Expr} {p q : List Stmt} {t : Mo Bool} {m1 m2 : Ms2} {pos : Pos} (N : NsF F i a bs) (hc : PT X c (rdT F ow t)) (ha : PSs X p (rdN F i a bs ow m1)) (hb : PSs X q (rdN F i a bs ow m2)) : PS X (.If c p q pos) (rdN F i a bs ow (mIf2 t m1 m2)) :=
  (ps_if hc ha hb).imp fun D σ H ⟨e, ll, R, hi, n, p⟩ => by
    refine ⟨e, R, ?_⟩
    unfold mIf2 at p
    cases q : t e with
    | ok k e1 =>
      simp only [q] at p
      intro H1 k1 R1
      have ks : KeepS ow σ H ow σ H1 := KeepS.of k1
      have n1 := n.stay N R ks
      cases k with
      | true => exact ⟨e1, ll, R1, hi, n1, PostN.from p (KeepN.of ks) Stay.refl⟩
      | false => exact ⟨e1, ll, R1, hi, n1, PostN.from p (KeepN.of ks) Stay.refl⟩
    | exc x e1 => simp only [q] at p; exact fun H1 c d k1 R1 xa => p σ ow H1 c d (KeepN.of (KeepS.of k1)) Stay.refl R1 xa
    | bad => simp only [q] at p; exact p.elim
end
end M

namespace M
open PySem PySem.Spec PyProof.Rows L2

section
variable {X : Cx} {F : Fm} {i : Nat} {a : Addr} {bs : List Addr} {ow oz ow1 ob : List Nat} {σ σ1 σ2 : L2.St} {H H1 H2 : Hp}
/-! ### the loop -/
def loop2 (f : PV → En → Option En) (b : Ms2) : List PV → Ms2
  | [], e, ll => .nxt e ll
  | p :: l, e, ll => match f p e with
    | none => .bad
    | some e1 => match b e1 ll with
      | .nxt e2 l2 => loop2 f b l e2 l2
      | .exc x e2 => .exc x e2
      | .bad => .bad
def mFor2 (mi : Mo (List PV)) (f : PV → En → Option En) (b : Ms2) : Ms2 := fun e ll => match mi e with
  | .ok l e1 => loop2 f b l e1 ll
  | .exc x e1 => .exc x e1
  | .bad => .bad
theorem pmn_for {is : List Nat} {tg iter : Expr} {body : List Stmt} {g : TG} {f : PV → En → Option En} {mi : Mo (List PV)} {b : Ms2} {pos : Pos} (N : NsF F i a bs) (hp : PassesOwn (model X.prog X.w) X.A X.env X.xe) (hi : PI X tg iter (rdI F ow mi)) (hg : PG X tg g) (ht : TgOk F ow is g f)
    (hb : PSs X body (rdN F i a bs ow b)) (hc : X.calm = true := by rfl) (hs : ∀ x, foldedSetIterable iter X.env x = pure x := by intro _; rfl) : PS X (.For tg iter body [] pos) (rdN F i a bs ow (mFor2 mi f b)) :=
  (ps_for hp hc hi hg hb hs).imp fun D σ0 H0 ⟨e, ll, R, hi, n, p⟩ => by
    refine ⟨e, R, ?_⟩
    unfold mFor2 at p
    cases hmi : mi e with
    | bad => simp only [hmi] at p; exact p.elim
    | exc x e1 => simp only [hmi] at p; exact fun H1 c d k1 R1 xa => p σ0 ow H1 c d (KeepN.of (KeepS.of k1)) Stay.refl R1 xa
    | ok l e1 =>
      simp only [hmi] at p
      intro H1 k1 R1 J ⟨T, T0, Ts, Tg⟩
      have ks1 : KeepS ow σ0 H0 ow σ0 H1 := KeepS.of k1
      refine ⟨fun k m σ H => m = l.length - k ∧ k ≤ l.length ∧ T H (Gd F.G ow σ) ∧ ∃ e ll, ER F.S F.G ow σ H e ∧ σ[i]? = some (some (.ref a)) ∧ Nst F.S (Gd F.G ow σ) H a bs ll ∧ PostN F a bs ow σ H D (loop2 f b (l.drop k) e ll),
        ⟨l.length, by simp, Nat.zero_le _, T0, e1, ll, R1, hi, n.stay N R ks1, by simpa using PostN.from p (KeepN.of ks1) Stay.refl⟩, ?_⟩
      rintro k m σ H ⟨rfl, hl, t, e2, l2, R2, hi2, n2, p2⟩
      obtain ⟨hgo, hstop⟩ := Tg k H _ R2.tracked t
      by_cases hlt : k < l.length
      · have hd : l.drop k = l[k] :: l.drop (k + 1) := List.drop_eq_getElem_cons hlt
        rw [hd] at p2
        obtain ⟨go, yld⟩ := hgo l[k] (by simp [hlt])
        refine .inr ⟨go, fun σ' H' => T H' (Gd F.G ow σ') ∧ ∃ e ll, ER F.S F.G ow σ' H' e ∧ σ'[i]? = some (some (.ref a)) ∧ Nst F.S (Gd F.G ow σ') H' a bs ll ∧ PostN F a bs ow σ' H' D (loop2 f b (l.drop (k + 1)) e ll),
          fun σ' H' ⟨t', z⟩ => ⟨l.length - (k + 1), by omega, rfl, hlt, t', z⟩, fun x H' y => ?_⟩
        obtain ⟨kk, rx⟩ := yld x H' y
        have R3 := R2.keep kk
        have t3 := Ts _ _ _ _ t (Keep.all kk) (Less.refl (O := Gd F.G ow σ))
        have ka : KeepS ow σ H ow σ H' := KeepS.of (Keep.all kk)
        have n3 := n2.stay N R2 ka
        cases hf : f l[k] e2 with
        | none => simp only [loop2, hf] at p2; exact p2.elim
        | some e3 =>
          simp only [loop2, hf] at p2
          refine ht R3 rx hf _ fun σ' ks st _ R4 => ⟨e3, l2, R4, (st i N.io).trans hi2, n3.stay N R3 ks, ?_⟩
          have ks0 : KeepN a bs ow σ H ow σ' H' := KeepN.of (ka.trans ks)
          have t4 := Ts _ _ _ _ t3 (KeepN.keep N (KeepN.of ks)) (KeepN.less N (KeepN.of (a := a) (bs := bs) ks))
          cases hbd : b e3 l2 with
          | nxt e5 l5 =>
            simp only [hbd] at p2
            exact fun σ5 H5 k5 s5 R5 n5 => ⟨Ts _ _ _ _ t4 (KeepN.keep N k5) (KeepN.less N k5), e5, l5, R5, (s5 i N.io).trans ((st i N.io).trans hi2), n5, PostN.from p2 (ks0.trans k5) (st.trans s5)⟩
          | exc q e5 => simp only [hbd] at p2; exact (PostN.from (o := .exc q e5) p2 ks0 st : PostN F a bs ow σ' H' D (.exc q e5))
          | bad => simp only [hbd] at p2; exact p2.elim
      · have hd : l.drop k = [] := List.drop_eq_nil_of_le (by omega)
        rw [hd] at p2
        exact .inl ⟨hstop (by omega), p2 σ H KeepN.refl Stay.refl R2 n2⟩
/-! ### x[j].append(e) -/
def mApp2 (mj me : Mo PV) : Ms2 := fun e ll => match mj e with
  | .ok j e1 => match j with
    | .int j => match ixN ll.length j with
      | some n => match me e1 with
        | .ok p e2 => match ll[n]? with
          | some l => if l.length < sizeLine then .nxt e2 (ll.set n (l ++ [p])) else .bad
          | none => .bad
        | .exc x e2 => .exc x e2
        | .bad => .bad
      | none => .bad
    | _ => .bad
  | .exc x e1 => .exc x e1
  | .bad => .bad
theorem Nst.upd (N : NsF F i a bs) {ll : List (List PV)} (n : Nst F.S (Gd F.G ow σ) H a bs ll) {j : Nat} {b : Addr} {vs : List V} {l : List PV} {y : V} {p : PV} (hb : bs[j]? = some b) (h1 : ll[j]? = some l) (h2 : H b = some (.lst vs)) (h3 : RVs F.S H (Gd F.G ow σ) vs l) (ry : RV F.S H (Gd F.G ow σ) y p) :
    Nst F.S (Gd F.G ow σ) (upd H b (.lst (vs ++ [y]))) a bs (ll.set j (l ++ [p])) := by
  have mb : b ∈ bs := List.mem_of_getElem? hb
  have kD : Keep (Gd F.G ow σ) H (L2.upd H b (.lst (vs ++ [y]))) := Keep.own h2 (.inl (N.g b (.inr mb)))
  have nab : a ≠ b := fun z => N.na (z ▸ mb)
  refine ⟨by rw [upd_ne nab]; exact n.top, by rw [List.length_set]; exact n.len, fun k c hc => ?_⟩
  obtain ⟨ws, m, g1, g2, g3⟩ := n.at_ k c hc
  by_cases q : j = k
  · subst q
    rw [hb] at hc
    cases hc
    refine ⟨vs ++ [y], l ++ [p], ?_, upd_same, (h3.append (.cons ry .nil)).mono kD Less.refl⟩
    rw [List.getElem?_set_self (List.getElem?_eq_some_iff.mp h1).1]
  · have hne : c ≠ b := fun z => by
      subst z
      obtain ⟨l1, e1⟩ := List.getElem?_eq_some_iff.mp hb
      obtain ⟨l2, e2⟩ := List.getElem?_eq_some_iff.mp hc
      have pw := List.pairwise_iff_getElem.mp N.nd
      rcases Nat.lt_or_gt_of_ne q with w | w
      · exact pw j k l1 l2 w (e1.trans e2.symm)
      · exact pw k j l2 l1 w (e2.trans e1.symm)
    exact ⟨ws, m, by rw [List.getElem?_set_ne q]; exact g1, by rw [upd_ne hne]; exact g2, g3.mono kD Less.refl⟩
theorem pmn_app {x : Str} {bx c : Expr} {mj me : Mo PV} {p p2 apos cpos spos : Pos} (N : NsF F i a bs) (hj : PE X bx (rd F ow mj)) (he : PE X c (rd F ow me)) (hN : X.N[i]? = some x := by rfl) (hv : Vis X.env.scope x := by first | exact .inl rfl | exact .inr (.inl rfl) | exact .inr (.inr rfl))
    (hd : (x == ("__debug__" : Str)) = false := by decide) (hcd : (x == ("__classdict__" : Str)) = false := by decide) (hs : PlainIx bx := by exact fun _ _ => rfl)
    (h1 : attributeBase (.Subscript (.Name x p) bx p2) "append" X.env (eval (.Subscript (.Name x p) bx p2) X.env) = eval (.Subscript (.Name x p) bx p2) X.env := by rfl)
    (h2 : (((backTo cpos (starEach [c] X.env)).all fun x => !x.1) && (backToKw cpos (keywordEach [] X.env)).all (fun x => x.1.isSome) && decide ((([c] : List Expr).length + ([] : List Keyword).length + if ([] : List Keyword).isEmpty = true then 0 else 1) < 30)) = true := by rfl)
    (h3 : (apos.endLine == cpos.line) = true := by rfl) (h4 : starEach [c] X.env = (false, eval c X.env) :: starEach [] X.env := by rfl) (h5 : ((backTo cpos (starEach [] X.env)).any fun x => x.1) = false := by rfl)
    (hsw : swapsWith (.Call (.Attribute (.Subscript (.Name x p) bx p2) "append" apos) [c] [] cpos) none spos.line X.env = pure false := by rfl) :
    PS X (.Expr (.Call (.Attribute (.Subscript (.Name x p) bx p2) "append" apos) [c] [] cpos) spos) (rdN F i a bs ow (mApp2 mj me)) :=
  (ps_expr (pe_bm PySem.F.plainAttrs_list PySem.F.slot_list_append PySem.F.type_list_append mt_append (pe_ix ix_seq (pe_var hN hv hd hcd) hj hs) (pa_cons he pa_nil h4) h1 h2 h3 h4 h5) hsw).imp fun D σ H ⟨e, ll, R, hi, n, p⟩ => by
    refine ⟨_, hi, e, R, ?_⟩
    unfold mApp2 at p
    cases hmj : mj e with
    | bad => simp only [hmj] at p; exact p.elim
    | exc z e1 => simp only [hmj] at p; exact fun H1 cl d k1 R1 xa => p σ ow H1 cl d (KeepN.of (KeepS.of k1)) Stay.refl R1 xa
    | ok j e1 =>
      simp only [hmj] at p
      intro H1 k1 R1 y ry
      split at p
      · rename_i j
        split at p
        · rename_i m hm
          have n1 := n.stay N R (KeepS.of k1)
          cases ry
          have hlt : m < ll.length := by
            obtain ⟨_, h, _⟩ := ixN_seq hm
            first | exact h | omega
          obtain ⟨b, hb⟩ : ∃ b, bs[m]? = some b := ⟨bs[m]'(by rw [n1.len]; exact hlt), List.getElem?_eq_getElem _⟩
          have mb : b ∈ bs := List.mem_of_getElem? hb
          obtain ⟨vs0, l0, g1, g2, g3⟩ := n1.at_ m b hb
          refine .inl ⟨a, bs.map V.ref, j, .ref b, rfl, rfl, .inl (.inl n1.top), ?_, .inl ⟨rfl, _, .inl (.inl g2)⟩, e1, R1, ?_⟩
          · unfold L2.atI
            rw [List.length_map, n1.len, hm]
            simp [hb]
          · cases hme : me e1 with
            | bad => simp only [hme] at p; exact p.elim
            | exc z e2 => simp only [hme] at p; exact fun H2 cl d k2 R2 xa => p σ ow H2 cl d (KeepN.of (KeepS.of (k1.trans k2))) Stay.refl R2 xa
            | ok q e2 =>
              simp only [hme] at p
              intro H2 k2 R2 y ry
              have n2 := n1.stay N R1 (KeepS.of k2)
              obtain ⟨vs, l, g4, g5, g6⟩ := n2.at_ m b hb
              simp only [g4] at p
              split at p
              · rename_i hl
                refine ⟨b, vs, y, rfl, rfl, g5, by rw [g6.length]; exact hl, ?_⟩
                have hG := N.g b (.inr mb)
                have R3 := R2.guard (o := .lst (vs ++ [y])) g5 hG (no := nt_lst)
                refine p σ _ ⟨fun z o e1 nw ni t => ?_⟩ Stay.refl R3 (n2.upd N hb g4 g5 g6 ry)
                have e2 := (k1.trans k2).kp z o e1 nw t
                have ne : z ≠ b := fun w => ni (.inr (by rw [w]; exact mb))
                exact ⟨by rw [upd_ne ne]; exact e2, nw⟩
              · exact p.elim
        · exact p.elim
      · exact p.elim
end
end M

namespace M
open PySem PySem.Spec PyProof.Rows L2

/-! ### x = no lists yet; a loop; the rest -/
def spNst (T : List (Addr × Str)) : Sp := fun vs H Q _ => ∃ k : Nat, vs = [V.int k] ∧ k ≤ 1000 ∧ (∀ p ∈ T, LamX.TabS H p.1 p.2) ∧ ∀ (a : Addr) (bs : List Addr) (H' : Hp), bs.length = k → bs.Nodup → a ∉ bs → (∀ z, inN a bs z → ¬ Hd H z) → KeepA H H' → LamX.Tabs T H' →
  H' a = some (.lst (bs.map V.ref)) → (∀ b ∈ bs, H' b = some (.lst [])) → Q (.ref a) H'
structure DnN (P : Program) (w : World) (K : PySem.W.Frag) (mg : Str → Option Value) (T : List (Addr × Str)) (base : Heap) (x : Str) (k : Nat) : Prop where
  ex : ∃ f fd ps, FnOk P w K mg base CX0 k f fd ps (spNst T) ∧ mg x = some (.ref f) ∧ PySem.W.keepIn K (.ref f) = true ∧ L2.Binds K fd ps []
def Fm.nst (F : Fm) (i : Nat) (a : Addr) (bs : List Addr) : Fm := ⟨F.S, fun z => F.G z ∨ inN a bs z, i :: F.io, F.W⟩
def mNest (i : Nat) (ma : Mo PV) (B2 : Ms2) (b : Ms) : Ms := fun e => match ma e with
  | .ok p e1 => match p with
    | .int k => if 0 ≤ k ∧ k ≤ 1000 ∧ i < e1.length then match B2 (e1.set i none) (List.replicate k.toNat []) with
      | .nxt e2 ll => b (e2.set i (some (.lst (ll.map PV.lst))))
      | .exc x e2 => .exc x e2
      | .bad => .bad
      else .bad
    | _ => .bad
  | .exc x e1 => .exc x e1
  | .bad => .bad
section
variable {X : Cx} {F : Fm} {i : Nat} {a : Addr} {bs : List Addr} {ow ow' oz ow1 ob : List Nat} {σ σ1 σ2 : L2.St} {H H1 H2 : Hp}
theorem ER.extN {S : Se} {G : Addr → Prop} {e : En} (R : ER S G ow σ H e) (hn : ∀ z, inN a bs z → ¬ Hd H z) (k : KeepA H H1) (htb : ∀ p ∈ S.T, LamX.TabS H1 p.1 p.2) (hs : ∀ z, inN a bs z → Hd H1 z) : ER S (fun z => G z ∨ inN a bs z) ow σ H1 e := by
  have q : Less H (Gd G ow σ) (Gd (fun z => G z ∨ inN a bs z) ow σ) := fun z h w => by
    rcases w with (w | w) | w
    · exact .inl w
    · exact absurd h (hn z w)
    · exact .inr w
  have same : ∀ a, Hd H a → H1 a = H a := fun a ⟨o, z, nt⟩ => by rw [z]; exact k.kp a o z id nt
  refine ⟨fun i p1 h1 h2 => ?_, fun i p1 h1 h2 => ?_, R.off, R.sep, fun i z hi h w => ?_, fun z g => ?_, htb, R.len⟩
  · obtain ⟨v, h3, h4⟩ := R.val i p1 h1 h2
    exact ⟨v, h3, h4.mono k.of_all q⟩
  · obtain ⟨v, h3, h4⟩ := R.own i p1 h1 h2
    refine ⟨v, h3, h4.mono k.of_all q fun a z => ?_⟩
    subst z
    obtain ⟨b, e3, e4⟩ := h4.ref
    cases e3
    exact same _ e4
  · rcases w with w | w
    · exact R.ng i z hi h w
    · exact hn z w (R.ownT ⟨i, hi, h⟩)
  · rcases g with g | g
    · obtain ⟨o, q1, q2⟩ := R.gt z g
      exact ⟨o, k.kp z o q1 id q2, q2⟩
    · exact hs z g
/-- the name's value is not told -/
theorem ER.hide {S : Se} {G : Addr → Prop} {e : En} (R : ER S G ow σ H e) {v : Option V} (hi : i ∉ ow) : ER S G ow (σ.set i v) H (e.set i none) := by
  have og := own_set (σ := σ) (v := v) hi
  have gg : Gd G ow (σ.set i v) = Gd G ow σ := by unfold Gd; rw [og]
  have ne : ∀ j, j ∈ ow → i ≠ j := fun j hj z => hi (z ▸ hj)
  refine ⟨fun j q h1 h2 => ?_, fun j q h1 h2 => ?_, fun j hj h1 a => ?_, fun j k a hj hk h1 h2 => ?_, fun j a hj h1 => ?_, R.gt, R.tb, by rw [List.length_set, List.length_set]; exact R.len⟩
  · rw [gg]
    by_cases z : i = j
    · subst z
      have hl := (List.getElem?_eq_some_iff.mp h1).1
      rw [List.length_set] at hl
      rw [List.getElem?_set_self hl] at h1
      cases h1
    · rw [List.getElem?_set_ne z] at h1
      obtain ⟨w, h3, h4⟩ := R.val j q h1 h2
      exact ⟨w, by rw [List.getElem?_set_ne z]; exact h3, h4⟩
  · rw [gg]
    rw [List.getElem?_set_ne (ne j h2)] at h1
    obtain ⟨w, h3, h4⟩ := R.own j q h1 h2
    exact ⟨w, by rw [List.getElem?_set_ne (ne j h2)]; exact h3, h4⟩
  · rw [List.getElem?_set_ne (ne j hj)]
    exact R.off j hj (fun p z => h1 p (by rw [List.getElem?_set_ne (ne j hj)]; exact z)) a
  · rw [List.getElem?_set_ne (ne j hj)] at h1
    rw [List.getElem?_set_ne (ne k hk)] at h2
    exact R.sep j k a hj hk h1 h2
  · rw [List.getElem?_set_ne (ne j hj)] at h1
    exact R.ng j a hj h1
theorem ER.drop {S : Se} {G : Addr → Prop} {e : En} (R : ER S (fun z => G z ∨ inN a bs z) ow σ H e) : ER S G ow σ H e := by
  have q : Less H (Gd (fun z => G z ∨ inN a bs z) ow σ) (Gd G ow σ) := fun a _ z => z.imp .inl id
  exact ⟨fun i p h1 h2 => let ⟨v, h3, h4⟩ := R.val i p h1 h2; ⟨v, h3, h4.mono Keep.refl q⟩, fun i p h1 h2 => let ⟨v, h3, h4⟩ := R.own i p h1 h2; ⟨v, h3, h4.mono Keep.refl q fun _ _ => rfl⟩, R.off, R.sep, fun i a hi h g => R.ng i a hi h (.inl g), fun a g => R.gt a (.inl g), R.tb, R.len⟩
theorem nst_vals {S : Se} {O : Addr → Prop} : ∀ {bs : List Addr} {ll : List (List PV)}, bs.length = ll.length → (∀ (j : Nat) (b : Addr), bs[j]? = some b → ¬ O b ∧ ∃ vs l, ll[j]? = some l ∧ H b = some (.lst vs) ∧ RVs S H O vs l) → RVs S H O (bs.map V.ref) (ll.map PV.lst)
  | [], [], _, _ => .nil
  | b :: bs, l :: ll, hl, h => by
    obtain ⟨n0, vs, l0, h1, h2, h3⟩ := h 0 b rfl
    cases h1
    exact .cons (.lst n0 h2 h3) (nst_vals (by simpa using hl) fun j c hc => h (j + 1) c (by simpa using hc))
theorem ER.unnest {S : Se} {G : Addr → Prop} {e : En} {ll : List (List PV)} (R : ER S (fun z => G z ∨ inN a bs z) ow σ H e) (n : Nst S (Gd (fun z => G z ∨ inN a bs z) ow σ) H a bs ll) (hσ : σ[i]? = some (some (.ref a))) (hi : i ∉ ow) (nG : ∀ z, inN a bs z → ¬ G z) :
    ER S G ow σ H (e.set i (some (.lst (ll.map PV.lst)))) := by
  have R2 := R.drop
  have hl : i < e.length := by rw [R.len]; exact (List.getElem?_eq_some_iff.mp hσ).1
  have no : ∀ z, inN a bs z → ¬ Gd G ow σ z := fun z hz g => by
    rcases g with g | ⟨j, hj, e1⟩
    · exact nG z hz g
    · exact R.ng j z hj e1 (.inr hz)
  have q : Less H (Gd (fun z => G z ∨ inN a bs z) ow σ) (Gd G ow σ) := fun a _ z => z.imp .inl id
  refine ⟨fun j p h1 h2 => ?_, fun j p h1 h2 => ?_, fun j hj h1 b => ?_, R2.sep, R2.ng, R2.gt, R2.tb, by rw [List.length_set]; exact R2.len⟩
  · by_cases z : i = j
    · subst z
      rw [List.getElem?_set_self hl] at h1
      cases h1
      refine ⟨_, hσ, .lst (no a (.inl rfl)) n.top (nst_vals n.len fun j b hb => ⟨no b (.inr (List.mem_of_getElem? hb)), ?_⟩)⟩
      obtain ⟨vs, l, g1, g2, g3⟩ := n.at_ j b hb
      exact ⟨vs, l, g1, g2, g3.mono Keep.refl q⟩
    · rw [List.getElem?_set_ne z] at h1
      exact R2.val j p h1 h2
  · have z : i ≠ j := fun z => hi (z ▸ h2)
    rw [List.getElem?_set_ne z] at h1
    exact R2.own j p h1 h2
  · have z : i ≠ j := fun z => hi (z ▸ hj)
    exact R2.off j hj (fun p w => h1 p (by rw [List.getElem?_set_ne z]; exact w)) b
theorem ps_all {st : Stmt} {B2 : Ms2} (h : ∀ a bs, NsF (F.nst i a bs) i a bs → PS X st (rdN (F.nst i a bs) i a bs ow B2)) : PS X st fun D σ H => ∃ a bs, NsF (F.nst i a bs) i a bs ∧ rdN (F.nst i a bs) i a bs ow B2 D σ H :=
  ⟨fun pins s σ H D I ⟨a, bs, N, q⟩ => (h a bs N).run pins s σ H D I q⟩
theorem pms_nest (i : Nat) {x y : Str} {arg : Expr} {ma : Mo PV} {fst : Stmt} {rest : List Stmt} {B2 : Ms2} {b : Ms} {k : Nat} {px p pos spos : Pos} (D : DnN X.prog X.w X.K X.mg F.S.T X.base y k) (hr : Room k X.A) (hg : Gl X y) (hx : Passes CX0 X (fun _ _ _ => False)) (hN : X.N.Nodup) (ha : PE X arg (rd F ow ma))
    (hfor : ∀ a bs, NsF (F.nst i a bs) i a bs → PS X fst (rdN (F.nst i a bs) i a bs ow B2)) (hrest : PSs X rest (rdS F ow ow' ob b))
    (hi : i ∉ ow := by decide) (hio : i ∉ F.io := by first | decide | exact of_decide_eq_true rfl) (hNi : X.N[i]? = some x := by rfl) (hl : L2.Loc X.env.scope x := by first | exact .inl rfl | exact .inr rfl)
    (hs : swapsWith (.Call (.Name y p) [arg] [] pos) (some (.Name x px)) spos.line X.env = pure false := by rfl) (hf : X.fn x = true ∨ X.env.scope.names.lookup x = some .local := by first | exact .inl rfl | exact .inr rfl)
    (hdb : (y == ("__debug__" : Str)) = false := by decide) (he : starEach [arg] X.env = (false, eval arg X.env) :: starEach [] X.env := by rfl) (hpl : (backTo pos (starEach [] X.env)).any (·.1) = false := by rfl) :
    PSs X (.Assign [.Name x px] (.Call (.Name y p) [arg] [] pos) spos :: fst :: rest) (rdS F ow ow' ob (mNest i ma B2 b)) := by
  obtain ⟨f, fd, ps, G, hm, hk, hb⟩ := D.ex
  refine (pss_cons (ps_set hN hNi hl (pe_call G hr hg hm hk hb .nil hx (pa_cons ha pa_nil he) hdb he hpl) hs hf) (pss_cons (ps_all hfor) hrest)).imp fun De σ H ⟨e, R, pp⟩ => ?_
  refine ⟨e, R, ?_⟩
  unfold mNest at pp
  cases hma : ma e with
  | bad => simp only [hma] at pp; exact pp.elim
  | exc z e1 => simp only [hma] at pp; exact fun H1 cl d k1 R1 xa => pp σ ow H1 cl d (KeepS.of k1) Stay.refl R1 xa
  | ok pv e1 =>
    simp only [hma] at pp
    intro H1 k1 R1 v rv
    split at pp
    · rename_i kk
      split at pp
      · rename_i hk0
        cases rv
        refine ⟨kk.toNat, by rw [Int.toNat_of_nonneg hk0.1]; rfl, by omega, R1.tb, fun a bs H2 h1 h2 h3 h4 h5 h6 h7 h8 => ?_⟩
        have hs2 : ∀ z, inN a bs z → Hd H2 z := fun z hz => by
          rcases hz with hz | hz
          · subst hz; exact ⟨_, h7, nt_lst⟩
          · exact ⟨_, h8 z hz, nt_lst⟩
        have R2 := (R1.extN h4 h5 h6 hs2).hide (v := some (.ref a)) hi
        have hlen : i < σ.length := by rw [← R1.len]; exact hk0.2.2
        have og := own_set (σ := σ) (v := some (V.ref a)) hi
        refine ⟨a, bs, ⟨List.mem_cons_self, fun z hz => .inr hz, h2, h3⟩, e1.set i none, List.replicate kk.toNat [], R2, List.getElem?_set_self hlen, ⟨h7, by simp [h1], fun j b hb => ⟨[], [], ?_, h8 b (List.mem_of_getElem? hb), .nil⟩⟩, ?_⟩
        · have := (List.getElem?_eq_some_iff.mp hb).1
          rw [List.getElem?_replicate, if_pos (by omega)]
        · have ks : ∀ {oz : List Nat} {σ' : L2.St} {H' : Hp}, KeepN a bs ow (σ.set i (some (.ref a))) H2 oz σ' H' → KeepS ow σ H oz σ' H' := fun {oz σ' H'} kn => ⟨fun z o e n t => by
            have e1 := k1.kp z o e n t
            have e2 := h5.kp z o e1 id t
            exact kn.kp z o e2 (by rw [og]; exact n) (fun w => h4 z w ⟨o, e1, t⟩) t⟩
          have sty : ∀ {σ' : L2.St}, Stay (F.nst i a bs).io (σ.set i (some (.ref a))) σ' → Stay F.io σ σ' := fun {σ'} st => (Stay.set hio).trans fun j hj => st j (List.mem_cons_of_mem _ hj)
          have nG : ∀ z, inN a bs z → ¬ F.G z := fun z hz g => h4 z hz (R1.gt z g)
          cases hM : B2 (e1.set i none) (List.replicate kk.toNat []) with
          | bad => simp only [hM] at pp; exact pp.elim
          | exc z e2 =>
            simp only [hM] at pp
            intro σ' oz H' cls d kn st R' xa
            refine pp σ' oz H' cls d (ks kn) (sty st) (ER.drop (G := F.G) R') ⟨xa.1, ?_⟩
            have x2 := xa.2
            cases d with
            | none => exact x2
            | some d =>
              obtain ⟨nd, fs, hd, hf⟩ := x2
              exact ⟨fun w => nd (w.imp .inl id), fs, hd, hf.mono Keep.refl fun a _ w => w.imp .inl id⟩
          | nxt e2 ll =>
            simp only [hM] at pp
            intro σ' H' kn st R' n'
            have hσ : σ'[i]? = some (some (.ref a)) := (st i List.mem_cons_self).trans (List.getElem?_set_self hlen)
            exact ⟨_, ER.unnest (G := F.G) R' n' hσ hi nG, PostS.from pp (ks kn) (sty st)⟩
      · exact pp.elim
    · exact pp.elim
end
end M

namespace M
open PySem PySem.Spec PyProof.Rows L2

/-! ### the def that makes lists that are empty -/
abbrev tLcN : TE := tLc (iRng1 (tCons (tVar 0) fun σ H Q => Q [] H)) (gName 1) (fun σ H Q => Q true H) (tLst fun σ H Q => Q [] H) [1]
def rdNst (T : List (Addr × Str)) : TS := fun D σ H => ∃ k : Nat, σ[0]? = some (some (V.int k)) ∧ 1 < σ.length ∧ k ≤ 1000 ∧ (∀ p ∈ T, LamX.TabS H p.1 p.2) ∧ ∀ (a : Addr) (bs : List Addr) (H' : Hp), bs.length = k → bs.Nodup → a ∉ bs → (∀ z, inN a bs z → ¬ Hd H z) → KeepA H H' → LamX.Tabs T H' →
  H' a = some (.lst (bs.map V.ref)) → (∀ b ∈ bs, H' b = some (.lst [])) → D.rt (.ref a) H'
section
variable {X : Cx} {σ : L2.St} {H : Hp}
theorem ps_nst {T : List (Addr × Str)} {e : Expr} {pos : Pos} (h : PE X e tLcN) : PS X (.Return (some e) pos) (rdNst T) :=
  (ps_ret h).imp fun D σ H ⟨k, h0, h1, hk, tb, q⟩ => by
    refine ⟨.int k, h0, (k : Int), rfl, by omega, by omega, fun a ha => ?_⟩
    show ∃ W : Nat → Nat → Hp → Prop, _
    have e : ((k : Int)).toNat = k := by simp
    rw [e]
    refine lc_range (lo := 0) (n := k) (g := gName 1) (tt := fun σ H Q => Q true H) (te := tLst fun σ H Q => Q [] H) (vs := [1]) (σ := σ) (Qd := fun H2 => D.rt (.ref a) H2) (fun i H2 => ∃ bs : List Addr, bs.length = i ∧ bs.Nodup ∧ a ∉ bs ∧ (∀ b ∈ bs, H b = none) ∧ H2 a = some (.lst (bs.map V.ref)) ∧ (∀ b ∈ bs, H2 b = some (.lst [])) ∧ ∀ z o, H z = some o → H2 z = some o)
      ⟨[], rfl, .nil, by simp, by simp, upd_same, by simp, fun z o hz => by rw [upd_ne (ne_of_none hz ha)]; exact hz⟩ (fun i H2 hi ⟨bs, b1, b2, b3, b4, b5, b6, b7⟩ => ?_) fun H2 ⟨bs, b1, b2, b3, b4, b5, b6, b7⟩ => ?_
    · refine ⟨?_, ?_⟩
      · show wipe ((wipe σ [1]).set 1 _) [1] = wipe σ [1]
        simp [wipe]
      · show if true = true then _ else _
        rw [if_pos rfl]
        refine ⟨by simp, fun p hp => ⟨bs.map V.ref, by rw [upd_ne (ne_of_none b5 hp)]; exact b5, by rw [List.length_map, b1, sizeLine_eq]; omega, bs ++ [p], by simp [b1], ?_, ?_, ?_, ?_, ?_, ?_⟩⟩
        · refine List.nodup_append.mpr ⟨b2, by simp, fun x hx y hy => ?_⟩
          simp at hy
          subst hy
          intro z
          subst z
          rw [b6 x hx] at hp
          cases hp
        · intro z
          rcases List.mem_append.mp z with z | z
          · exact b3 z
          · simp at z
            subst z
            rw [b5] at hp
            cases hp
        · intro b hb
          rcases List.mem_append.mp hb with z | z
          · exact b4 b z
          · simp at z
            subst z
            cases hz : H b with
            | none => rfl
            | some o => rw [b7 b o hz] at hp; cases hp
        · rw [upd_same]; simp
        · intro b hb
          have nb : b ≠ a := fun z => by
            subst z
            rcases List.mem_append.mp hb with z | z
            · exact b3 z
            · simp at z
              subst z
              rw [b5] at hp
              cases hp
          rw [upd_ne nb]
          rcases List.mem_append.mp hb with z | z
          · rw [upd_ne (ne_of_none (b6 b z) hp)]; exact b6 b z
          · simp at z
            subst z
            exact upd_same
        · intro z o hz
          have nz : z ≠ a := ne_of_none hz ha
          have np : z ≠ p := ne_of_none (b7 z o hz) hp
          rw [upd_ne nz, upd_ne np]
          exact b7 z o hz
    · refine q a bs H2 b1 b2 b3 (fun z hz => ?_) ⟨fun z o hz _ _ => b7 z o hz⟩ (fun p hp => (tb p hp).ext b7) b5 b6
      rintro ⟨o, ho, _⟩
      rcases hz with hz | hz
      · subst hz; rw [ha] at ho; cases ho
      · rw [b4 z hz] at ho; cases ho
end
theorem fn_nst {P : Program} {w : World} {K : PySem.W.Frag} {mg : Str → Option Value} {T : List (Addr × Str)} {base : Heap} {x qual : Str} {params : Arguments} {body : List Stmt} {scope : Scope} {f : Addr} {fd : FuncData} {N ps : List Str} {k : Nat}
    (Fd : FunD K x qual params body scope [] [] f fd) (sc : FnScope N ps scope)
    (hb : ∀ (cdv : Value) (A : Around) (outer : List Env) (s : Shared) (H : Hp) (E : XK), Room k (A.deeper (PyProof.Rows.envOfC qual scope s.heap.objs.size f cdv)) → PSs (cxOf CX0 P w K mg base N qual scope f cdv A outer s H E).nox body (rdNst T))
    (hn : ps.length = 1 := by rfl) (hN : 1 < N.length := by decide) : FnOk P w K mg base CX0 (k + 1) f fd ps (spNst T) := by
  refine Fd.ok sc (fun vs H Q E h => ?_) (fun cdv A outer s H vs Q E hr h => ?_)
  · obtain ⟨k, e, _⟩ := h
    rw [e, hn]
    rfl
  · obtain ⟨k, e, hk, tb, q⟩ := h
    subst e
    refine ⟨_, PSs.nox (hb cdv A outer s H E hr), k, start_of rfl, ?_, hk, tb, q⟩
    unfold L2.start
    simp
    omega
end M

namespace M
open PySem PySem.Spec PyProof.Rows L2

/-! ### a dict that is never written again: it can be walked -/
def mFz (m : Mo PV) : Mo PV := fun e => (m e).bind fun p e1 => lift (match p with
  | .dK l => some (.fK l)
  | _ => none) e1
def keysOf : PV → Option (List PV)
  | .fK l => some (l.map fun kv => keyV kv.1)
  | _ => none
def mItK (m : Mo PV) : Mo (List PV) := fun e => (m e).bind fun p e1 => lift (keysOf p) e1
section
variable {X : Cx} {F : Fm} {ow ow' ob : List Nat} {σ : L2.St} {H : Hp}
theorem pe_lockD {e : Expr} {t : TE} (h : PE X e t) : PE X e fun σ H Q => t σ H fun v H1 => ∃ a kvs, v = .ref a ∧ H1 a = some (.dK kvs) ∧ ∀ o, Q v (upd H1 a (.frz o (.dK kvs))) :=
  ⟨fun pins s σ H Q I q => thn (h.run pins s σ H _ I q) fun u s1 ⟨x, H1, I1, rx, a, kvs, ex, ha, q1⟩ => by
    obtain ⟨od, I2⟩ := I1.lock ha trivial
    exact ⟨x, _, I2, rx, q1 od⟩⟩
theorem pm_frz {e : Expr} {m : Mo PV} (h : PE X e (rdF F ow m)) : PE X e (rd F ow (mFz m)) :=
  (pe_lockD h).imp fun σ H Q ⟨e, R, p⟩ => by
    refine ⟨e, R, ?_⟩
    unfold mFz at p
    cases q : m e with
    | bad => simp only [q, Out.bind] at p; exact p.elim
    | exc x e1 => simp only [q, Out.bind] at p; exact p
    | ok v e1 =>
      simp only [q, Out.bind] at p
      intro a H' hn k R1 ha
      cases v with
      | dK l =>
        obtain ⟨a', kvs, ea, hH, rs⟩ := ha
        cases ea
        refine ⟨a, kvs, rfl, hH, fun o => ?_⟩
        have kk : Keep (Own ow σ) H (upd H' a (.frz o (.dK kvs))) := ⟨fun z u hz nz nt => by
          have ne : z ≠ a := fun w => by subst w; exact hn ⟨u, hz, nt⟩
          rw [upd_ne ne]
          exact k.kp z u hz nz nt⟩
        have R2 : ER F.S (F.ext a).G ow σ (upd H' a (.frz o (.dK kvs))) e1 := R1.guard hH (.inr rfl) (no := nt_frz)
        have nd : ¬ Gd F.G ow σ a := fun z => hn (R.tracked a z)
        have kD : Keep (Gd (F.ext a).G ow σ) H' (upd H' a (.frz o (.dK kvs))) := Keep.own hH (.inl (.inr rfl))
        have le : Less (upd H' a (.frz o (.dK kvs))) (Gd (F.ext a).G ow σ) (Gd F.G ow σ) := fun b _ z => z.elim (fun g => .inl (.inl g)) .inr
        exact p _ kk R2.unext _ (.fK nd upd_same (KVs.mono Keep.refl le (KVs.mono kD Less.refl rs)))
      | _ => exact p.elim
theorem it_fK {S : Se} {O : Addr → Prop} {a : Addr} {o : Obj} {kvs : List (Key × V)} {l : List (Key × PV)} (n : ¬ O a) (h : H a = some (.frz o (.dK kvs))) (t : KVs S H O kvs l) : ItOk S (Itk a o kvs) (l.map fun kv => keyV kv.1) H O := by
  refine ⟨fun H O => ¬ O a ∧ H a = some (.frz o (.dK kvs)) ∧ KVs S H O kvs l, ⟨n, h, t⟩, fun H1 H2 O1 O2 ⟨n, h, t⟩ k q => ⟨fun z => n (q _ ⟨_, h, nt_frz⟩ z), k.kp _ _ h n nt_frz, KVs.mono k q t⟩, fun i H1 O1 _ ⟨n, h, t⟩ => ⟨fun p hp => ?_, fun hl => ?_⟩⟩
  · have rs := t.keys
    obtain ⟨v, h3, h4⟩ := rs.get hp
    have hlt : i < kvs.length := by
      have := (List.getElem?_eq_some_iff.mp h3).1
      rwa [List.length_map] at this
    refine ⟨⟨h, hlt⟩, fun x H' ⟨e, k, w, g1, g2⟩ => ?_⟩
    subst e
    rw [List.getElem?_map, g1] at h3
    cases h3
    subst g2
    exact ⟨fun _ _ z => z, h4⟩
  · refine ⟨h, ?_⟩
    rw [List.length_map] at hl
    rw [t.length]
    exact hl
theorem pmi_keys {tg a : Expr} {m : Mo PV} (ha : PE X a (rd F ow m)) : PI X tg a (rdI F ow (mItK m)) :=
  (pi_keys ha).imp fun σ H Q ⟨e, R, p⟩ => by
    refine ⟨e, R, (Post.unbind p).mono fun q e1 H1 k1 R1 p1 v rv => ?_⟩
    obtain ⟨c, hc, q⟩ := p1.of_lift R1
    unfold keysOf at hc
    split at hc
    · cases hc
      obtain ⟨d, o, kvs, rfl, n, h1, t⟩ := rv.isFK
      exact ⟨d, o, rfl, .inl ⟨kvs, h1, q H1 (fun _ _ z => z) _ (it_fK n h1 t)⟩⟩
    · cases hc
end
end M

namespace M
open PySem PySem.Spec PyProof.Rows L2

/-! ### evaluation -/
section
variable {e : En}
@[simp] theorem mIxOA_ap {i : Nat} {mb : Mo PV} : mIxOA i mb e = getE e[i]? fun _ => (mb e).bind fun b e1 => getE e1[i]? fun p => lift (pIxA p b) e1 := by
  unfold mIxOA getE; exact (rfl)
@[simp] theorem gLenC_lst {c fld : Str} {l : List PV} : gLenC c fld [.lst l] = gLen [.lst l] := (rfl)
@[simp] theorem gLenC_tup {c fld : Str} {l : List PV} : gLenC c fld [.tup l] = gLen [.tup l] := (rfl)
@[simp] theorem gLenC_fz {c fld : Str} {l : List PV} : gLenC c fld [.fz l] = gLen [.fz l] := (rfl)
@[simp] theorem pIxA_lst {l : List PV} {b : PV} : pIxA (.lst l) b = pIx (.lst l) b := (rfl)
@[simp] theorem pIxA_tup {l : List PV} {b : PV} : pIxA (.tup l) b = pIx (.tup l) b := (rfl)
@[simp] theorem pIxA_fz {l : List PV} {b : PV} : pIxA (.fz l) b = pIx (.fz l) b := (rfl)
@[simp] theorem pIxA_dK {l : List (Key × PV)} {b : PV} : pIxA (.dK l) b = (keyP b).bind (atK l) := (rfl)
@[simp] theorem pIxA_fK {l : List (Key × PV)} {b : PV} : pIxA (.fK l) b = (keyP b).bind (atK l) := (rfl)
def setIxA (q p j : PV) (i : Nat) (e : En) : SOut := match q with
  | .lst l => match j with
    | .int j => match ixN l.length j with
      | some n => .nxt (e.set i (some (.lst (l.set n p))))
      | none => .bad
    | _ => .bad
  | .dK l => match keyP j with
    | some k => if l.length < sizeLine then .nxt (e.set i (some (.dK (putP l k p)))) else .bad
    | none => .bad
  | _ => .bad
@[simp] theorem setIxA_int {l : List PV} {p : PV} {j : Int} {i : Nat} : setIxA (.lst l) p (.int j) i e = setN (ixN l.length j) fun n => .nxt (e.set i (some (.lst (l.set n p)))) := by
  simp only [setIxA]; unfold setN; rfl
@[simp] theorem mSetIxA_ap {i : Nat} {mj me : Mo PV} : mSetIxA i mj me e = SOut.of (me e) fun p e1 => getS e1[i]? fun _ => SOut.of (mj e1) fun j e2 => getS e2[i]? fun q => setIxA q p j i e2 := by
  unfold mSetIxA
  congr 1
  funext p e1
  unfold getS
  split <;> rename_i h2
  · simp only [h2]
    congr 1
    funext j e2
    split <;> rename_i h3
    · simp only [h3]; cases j <;> rfl
    · simp only [h3]; rfl
    · split
      · rename_i q h4
        cases q <;> first | rfl | (exfalso; simp_all)
      · rfl
  · first | rfl | (split <;> first | rfl | (exfalso; simp_all))
@[simp] theorem mUn_ap {g : PV → Option PV} {m : Mo PV} : mUn g m e = (m e).bind fun p e1 => lift (g p) e1 := (rfl)
@[simp] theorem mOne_ap {g : PV → Option PV} {m : Mo PV} : mOne g m e = (m e).bind fun p e1 => lift (g p) e1 := (rfl)
@[simp] theorem mFz_ap {m : Mo PV} : mFz m e = (m e).bind fun p e1 => lift (match p with
  | .dK l => some (.fK l)
  | _ => none) e1 := (rfl)
@[simp] theorem mItK_ap {m : Mo PV} : mItK m e = (m e).bind fun p e1 => lift (keysOf p) e1 := (rfl)
end
end M

namespace K25
open PySem PySem.Spec PyProof.Rows L2 M
def top (i : Nat) : Stmt := PySem.Challenge.pw_risenets_k25_errors_of_kinds.main.body.getD i (.Pass ⟨0, 0, 0, 0⟩)
abbrev s_is_whole : Stmt := top 7
def d_is_whole : He.DefD := ⟨("is_whole", none), "is_whole", "is_whole", defArgs s_is_whole, defBody s_is_whole, defScope s_is_whole, [], []⟩
abbrev s_is_index : Stmt := top 8
def d_is_index : He.DefD := ⟨("is_index", none), "is_index", "is_index", defArgs s_is_index, defBody s_is_index, defScope s_is_index, [], []⟩
abbrev s_is_row : Stmt := top 9
def d_is_row : He.DefD := ⟨("is_row", none), "is_row", "is_row", defArgs s_is_row, defBody s_is_row, defScope s_is_row, [], []⟩
abbrev s_is_tuple_of : Stmt := top 10
def d_is_tuple_of : He.DefD := ⟨("is_tuple_of", none), "is_tuple_of", "is_tuple_of", defArgs s_is_tuple_of, defBody s_is_tuple_of, defScope s_is_tuple_of, [], []⟩
abbrev s_ascends : Stmt := top 11
def d_ascends : He.DefD := ⟨("ascends", none), "ascends", "ascends", defArgs s_ascends, defBody s_ascends, defScope s_ascends, [], []⟩
abbrev s_no_arcs : Stmt := top 13
def d_no_arcs : He.DefD := ⟨("no_arcs", none), "no_arcs", "no_arcs", defArgs s_no_arcs, defBody s_no_arcs, defScope s_no_arcs, [], []⟩
abbrev s_ways_along : Stmt := top 14
def d_ways_along : He.DefD := ⟨("ways_along", none), "ways_along", "ways_along", defArgs s_ways_along, defBody s_ways_along, defScope s_ways_along, [], []⟩
abbrev s_is_rise : Stmt := top 18
def d_is_rise : He.DefD := ⟨("is_rise", none), "is_rise", "is_rise", defArgs s_is_rise, defBody s_is_rise, defScope s_is_rise, [], []⟩
abbrev s_is_far_point : Stmt := top 19
def d_is_far_point : He.DefD := ⟨("is_far_point", none), "is_far_point", "is_far_point", defArgs s_is_far_point, defBody s_is_far_point, defScope s_is_far_point, [], []⟩
abbrev s_are_corners : Stmt := top 20
def d_are_corners : He.DefD := ⟨("are_corners", none), "are_corners", "are_corners", defArgs s_are_corners, defBody s_are_corners, defScope s_are_corners, [], []⟩
abbrev s_other_kind : Stmt := top 21
def d_other_kind : He.DefD := ⟨("other_kind", none), "other_kind", "other_kind", defArgs s_other_kind, defBody s_other_kind, defScope s_other_kind, [], []⟩
abbrev s_kind_between : Stmt := top 22
def d_kind_between : He.DefD := ⟨("kind_between", none), "kind_between", "kind_between", defArgs s_kind_between, defBody s_kind_between, defScope s_kind_between, [], []⟩
abbrev s_corners_in : Stmt := top 23
def d_corners_in : He.DefD := ⟨("corners_in", none), "corners_in", "corners_in", defArgs s_corners_in, defBody s_corners_in, defScope s_corners_in, [], []⟩
abbrev s_size_of : Stmt := top 24
def d_size_of : He.DefD := ⟨("size_of", none), "size_of", "size_of", defArgs s_size_of, defBody s_size_of, defScope s_size_of, [], []⟩
abbrev s_is_cut : Stmt := top 31
def d_is_cut : He.DefD := ⟨("is_cut", none), "is_cut", "is_cut", defArgs s_is_cut, defBody s_is_cut, defScope s_is_cut, [], []⟩
abbrev s_is_loop : Stmt := top 32
def d_is_loop : He.DefD := ⟨("is_loop", none), "is_loop", "is_loop", defArgs s_is_loop, defBody s_is_loop, defScope s_is_loop, [], []⟩
abbrev s_cut_wires : Stmt := top 33
def d_cut_wires : He.DefD := ⟨("cut_wires", none), "cut_wires", "cut_wires", defArgs s_cut_wires, defBody s_cut_wires, defScope s_cut_wires, [], []⟩
abbrev s_check_net : Stmt := top 34
def d_check_net : He.DefD := ⟨("check_net", none), "check_net", "check_net", defArgs s_check_net, defBody s_check_net, defScope s_check_net, [], []⟩
abbrev s_check_knot : Stmt := top 35
def d_check_knot : He.DefD := ⟨("check_knot", none), "check_knot", "check_knot", defArgs s_check_knot, defBody s_check_knot, defScope s_check_knot, [], []⟩
abbrev s_check_wire : Stmt := top 36
def d_check_wire : He.DefD := ⟨("check_wire", none), "check_wire", "check_wire", defArgs s_check_wire, defBody s_check_wire, defScope s_check_wire, [], []⟩
abbrev s_check_cut : Stmt := top 37
def d_check_cut : He.DefD := ⟨("check_cut", none), "check_cut", "check_cut", defArgs s_check_cut, defBody s_check_cut, defScope s_check_cut, [], []⟩
abbrev s_are_net_parts : Stmt := top 38
def d_are_net_parts : He.DefD := ⟨("are_net_parts", none), "are_net_parts", "are_net_parts", defArgs s_are_net_parts, defBody s_are_net_parts, defScope s_are_net_parts, [], []⟩
abbrev s_is_wire : Stmt := top 39
def d_is_wire : He.DefD := ⟨("is_wire", none), "is_wire", "is_wire", defArgs s_is_wire, defBody s_is_wire, defScope s_is_wire, [], []⟩
abbrev s_is_step : Stmt := top 40
def d_is_step : He.DefD := ⟨("is_step", none), "is_step", "is_step", defArgs s_is_step, defBody s_is_step, defScope s_is_step, [], []⟩
abbrev s_surplus_by : Stmt := top 41
def d_surplus_by : He.DefD := ⟨("surplus_by", none), "surplus_by", "surplus_by", defArgs s_surplus_by, defBody s_surplus_by, defScope s_surplus_by, [], []⟩
abbrev s_drops_by : Stmt := top 42
def d_drops_by : He.DefD := ⟨("drops_by", none), "drops_by", "drops_by", defArgs s_drops_by, defBody s_drops_by, defScope s_drops_by, [], []⟩
abbrev s_currents_by : Stmt := top 43
def d_currents_by : He.DefD := ⟨("currents_by", none), "currents_by", "currents_by", defArgs s_currents_by, defBody s_currents_by, defScope s_currents_by, [], []⟩
abbrev s_heights_by : Stmt := top 44
def d_heights_by : He.DefD := ⟨("heights_by", none), "heights_by", "heights_by", defArgs s_heights_by, defBody s_heights_by, defScope s_heights_by, [], []⟩
abbrev s_step_start : Stmt := top 45
def d_step_start : He.DefD := ⟨("step_start", none), "step_start", "step_start", defArgs s_step_start, defBody s_step_start, defScope s_step_start, [], []⟩
abbrev s_step_goal : Stmt := top 46
def d_step_goal : He.DefD := ⟨("step_goal", none), "step_goal", "step_goal", defArgs s_step_goal, defBody s_step_goal, defScope s_step_goal, [], []⟩
abbrev s_shortest_ways : Stmt := top 47
def d_shortest_ways : He.DefD := ⟨("shortest_ways", none), "shortest_ways", "shortest_ways", defArgs s_shortest_ways, defBody s_shortest_ways, defScope s_shortest_ways, [], []⟩
abbrev s_is_kinds : Stmt := top 49
def d_is_kinds : He.DefD := ⟨("is_kinds", none), "is_kinds", "is_kinds", defArgs s_is_kinds, defBody s_is_kinds, defScope s_is_kinds, [], []⟩
abbrev s_is_loop_of : Stmt := top 50
def d_is_loop_of : He.DefD := ⟨("is_loop_of", none), "is_loop_of", "is_loop_of", defArgs s_is_loop_of, defBody s_is_loop_of, defScope s_is_loop_of, [], []⟩
abbrev s_is_cut_of : Stmt := top 51
def d_is_cut_of : He.DefD := ⟨("is_cut_of", none), "is_cut_of", "is_cut_of", defArgs s_is_cut_of, defBody s_is_cut_of, defScope s_is_cut_of, [], []⟩
abbrev s_loop_or_cut : Stmt := top 52
def d_loop_or_cut : He.DefD := ⟨("loop_or_cut", none), "loop_or_cut", "loop_or_cut", defArgs s_loop_or_cut, defBody s_loop_or_cut, defScope s_loop_or_cut, [], []⟩
abbrev s_is_loop_or_cut : Stmt := top 53
def d_is_loop_or_cut : He.DefD := ⟨("is_loop_or_cut", none), "is_loop_or_cut", "is_loop_or_cut", defArgs s_is_loop_or_cut, defBody s_is_loop_or_cut, defScope s_is_loop_or_cut, [], []⟩
abbrev s_reached : Stmt := top 54
def d_reached : He.DefD := ⟨("reached", none), "reached", "reached", defArgs s_reached, defBody s_reached, defScope s_reached, [], []⟩
abbrev s_parted : Stmt := top 55
def d_parted : He.DefD := ⟨("parted", none), "parted", "parted", defArgs s_parted, defBody s_parted, defScope s_parted, [], []⟩
abbrev s_witness : Stmt := top 56
def d_witness : He.DefD := ⟨("witness", none), "witness", "witness", defArgs s_witness, defBody s_witness, defScope s_witness, [], []⟩
abbrev s_is_witness : Stmt := top 57
def d_is_witness : He.DefD := ⟨("is_witness", none), "is_witness", "is_witness", defArgs s_is_witness, defBody s_is_witness, defScope s_is_witness, [], []⟩
abbrev s_check_kinds : Stmt := top 58
def d_check_kinds : He.DefD := ⟨("check_kinds", none), "check_kinds", "check_kinds", defArgs s_check_kinds, defBody s_check_kinds, defScope s_check_kinds, [], []⟩
abbrev s_check_paint : Stmt := top 59
def d_check_paint : He.DefD := ⟨("check_paint", none), "check_paint", "check_paint", defArgs s_check_paint, defBody s_check_paint, defScope s_check_paint, [], []⟩
abbrev s_wires_of : Stmt := top 60
def d_wires_of : He.DefD := ⟨("wires_of", none), "wires_of", "wires_of", defArgs s_wires_of, defBody s_wires_of, defScope s_wires_of, [], []⟩
abbrev s_steps_of : Stmt := top 61
def d_steps_of : He.DefD := ⟨("steps_of", none), "steps_of", "steps_of", defArgs s_steps_of, defBody s_steps_of, defScope s_steps_of, [], []⟩
abbrev s_answer_by : Stmt := top 62
def d_answer_by : He.DefD := ⟨("answer_by", none), "answer_by", "answer_by", defArgs s_answer_by, defBody s_answer_by, defScope s_answer_by, [], []⟩
abbrev s_added : Stmt := top 63
def d_added : He.DefD := ⟨("added", none), "added", "added", defArgs s_added, defBody s_added, defScope s_added, [], []⟩
abbrev s_is_shown : Stmt := top 64
def d_is_shown : He.DefD := ⟨("is_shown", none), "is_shown", "is_shown", defArgs s_is_shown, defBody s_is_shown, defScope s_is_shown, [], []⟩
abbrev s__law_pail : Stmt := top 66
def d__law_pail : He.DefD := ⟨("_law_pail", none), "_law_pail", "_law_pail", defArgs s__law_pail, defBody s__law_pail, defScope s__law_pail, [], []⟩
abbrev s__law_scooped : Stmt := top 67
def d__law_scooped : He.DefD := ⟨("_law_scooped", none), "_law_scooped", "_law_scooped", defArgs s__law_scooped, defBody s__law_scooped, defScope s__law_scooped, [], []⟩
abbrev s__law_any_of : Stmt := top 68
def d__law_any_of : He.DefD := ⟨("_law_any_of", none), "_law_any_of", "_law_any_of", defArgs s__law_any_of, defBody s__law_any_of, defScope s__law_any_of, [], []⟩
abbrev s__law_met : Stmt := top 69
def d__law_met : He.DefD := ⟨("_law_met", none), "_law_met", "_law_met", defArgs s__law_met, defBody s__law_met, defScope s__law_met, [], []⟩
abbrev s__law_right : Stmt := top 70
def d__law_right : He.DefD := ⟨("_law_right", none), "_law_right", "_law_right", defArgs s__law_right, defBody s__law_right, defScope s__law_right, [], []⟩
abbrev s__law_met_two : Stmt := top 71
def d__law_met_two : He.DefD := ⟨("_law_met_two", none), "_law_met_two", "_law_met_two", defArgs s__law_met_two, defBody s__law_met_two, defScope s__law_met_two, [], []⟩
abbrev s_law : Stmt := top 72
def d_law : He.DefD := ⟨("law", none), "law", "law", defArgs s_law, defBody s_law, defScope s_law, [], []⟩
abbrev i_InvalidNumber : Stmt := (clsBody (top 5)).getD 0 (.Pass ⟨0, 0, 0, 0⟩)
def d_iInvalidNumber : He.DefD := ⟨("InvalidNumber", some "__init__"), "__init__", "InvalidNumber.__init__", defArgs i_InvalidNumber, defBody i_InvalidNumber, defScope i_InvalidNumber, [], []⟩
theorem sc_iInvalidNumber : FnScope ["self", "given"] ["self", "given"] (defScope i_InvalidNumber) := ⟨rfl, rfl, rfl, by decide +kernel, rfl, by decide +kernel, by decide +kernel⟩
abbrev i_Net___init__ : Stmt := (clsBody (top 30)).getD 0 (.Pass ⟨0, 0, 0, 0⟩)
def d_Net___init__ : He.DefD := ⟨("Net", some "__init__"), "__init__", "Net.__init__", defArgs i_Net___init__, defBody i_Net___init__, defScope i_Net___init__, [], []⟩
abbrev i_Net_knots : Stmt := (clsBody (top 30)).getD 1 (.Pass ⟨0, 0, 0, 0⟩)
def d_Net_knots : He.DefD := ⟨("Net", some "knots"), "knots", "Net.knots", defArgs i_Net_knots, defBody i_Net_knots, defScope i_Net_knots, [], []⟩
abbrev i_Net_wires : Stmt := (clsBody (top 30)).getD 2 (.Pass ⟨0, 0, 0, 0⟩)
def d_Net_wires : He.DefD := ⟨("Net", some "wires"), "wires", "Net.wires", defArgs i_Net_wires, defBody i_Net_wires, defScope i_Net_wires, [], []⟩
abbrev i_Net___len__ : Stmt := (clsBody (top 30)).getD 3 (.Pass ⟨0, 0, 0, 0⟩)
def d_Net___len__ : He.DefD := ⟨("Net", some "__len__"), "__len__", "Net.__len__", defArgs i_Net___len__, defBody i_Net___len__, defScope i_Net___len__, [], []⟩
def gs : List He.DefD := [d_Net_knots, d_Net_wires]
def fn : List He.DefD := [d_is_whole, d_is_index, d_is_row, d_is_tuple_of, d_ascends, d_no_arcs, d_ways_along, d_is_rise, d_is_far_point, d_are_corners, d_other_kind, d_kind_between, d_corners_in, d_size_of, d_is_cut, d_is_loop, d_cut_wires, d_check_net, d_check_knot, d_check_wire, d_check_cut, d_are_net_parts, d_is_wire, d_is_step, d_surplus_by, d_drops_by, d_currents_by, d_heights_by, d_step_start, d_step_goal, d_shortest_ways, d_is_kinds, d_is_loop_of, d_is_cut_of, d_loop_or_cut, d_is_loop_or_cut, d_reached, d_parted, d_witness, d_is_witness, d_check_kinds, d_check_paint, d_wires_of, d_steps_of, d_answer_by, d_added, d_is_shown, d__law_pail, d__law_scooped, d__law_any_of, d__law_met, d__law_right, d__law_met_two, d_law, d_iInvalidNumber, d_Net___init__, d_Net___len__]
def fa : List He.Fa := [.glo "is_whole", .glo "is_index", .glo "is_row", .glo "is_tuple_of", .glo "ascends", .glo "no_arcs", .glo "ways_along", .glo "is_rise", .glo "is_far_point", .glo "are_corners", .glo "other_kind", .glo "kind_between", .glo "corners_in", .glo "size_of", .glo "is_cut", .glo "is_loop", .glo "cut_wires", .glo "check_net", .glo "check_knot", .glo "check_wire", .glo "check_cut", .glo "are_net_parts", .glo "is_wire", .glo "is_step", .glo "surplus_by", .glo "drops_by", .glo "currents_by", .glo "heights_by", .glo "step_start", .glo "step_goal", .glo "shortest_ways", .glo "is_kinds", .glo "is_loop_of", .glo "is_cut_of", .glo "loop_or_cut", .glo "is_loop_or_cut", .glo "reached", .glo "parted", .glo "witness", .glo "is_witness", .glo "check_kinds", .glo "check_paint", .glo "wires_of", .glo "steps_of", .glo "answer_by", .glo "added", .glo "is_shown", .glo "_law_pail", .glo "_law_scooped", .glo "_law_any_of", .glo "_law_met", .glo "_law_right", .glo "_law_met_two", .glo "law", .glo "RiseError", .glo "InvalidNet", .glo "InvalidKinds", .glo "InvalidOperation", .glo "InvalidNumber", .glo "Net", .free "abs", .free "all", .free "any", .free "bool", .free "enumerate", .free "int", .free "isinstance", .free "len", .free "list", .free "max", .free "min", .free "range", .free "repr", .free "set", .free "sorted", .free "tuple", .int "FAR" 1000000000000000000, .int "MOST_CORNERS" 400, .int "MOST_KNOTS" 12, .int "MOST_TURNS" 40, .int "MOST_WIRES" 24, .int "NEAR" 1000000000000]
structure Tx (mg : Str → Option Value) : Prop where
  g_abs : mg "abs" = none
  g_all : mg "all" = none
  g_any : mg "any" = none
  g_bool : mg "bool" = none
  g_enumerate : mg "enumerate" = none
  g_int : mg "int" = none
  g_isinstance : mg "isinstance" = none
  g_len : mg "len" = none
  g_list : mg "list" = none
  g_max : mg "max" = none
  g_min : mg "min" = none
  g_range : mg "range" = none
  g_repr : mg "repr" = none
  g_set : mg "set" = none
  g_sorted : mg "sorted" = none
  g_tuple : mg "tuple" = none
  g_FAR : ∃ t, mg "FAR" = some (.int 1000000000000000000 t)
  g_MOST_CORNERS : ∃ t, mg "MOST_CORNERS" = some (.int 400 t)
  g_MOST_KNOTS : ∃ t, mg "MOST_KNOTS" = some (.int 12 t)
  g_MOST_TURNS : ∃ t, mg "MOST_TURNS" = some (.int 40 t)
  g_MOST_WIRES : ∃ t, mg "MOST_WIRES" = some (.int 24 t)
  g_NEAR : ∃ t, mg "NEAR" = some (.int 1000000000000 t)
abbrev FnP (K : PySem.W.Frag) (x : Str) (st : Stmt) (f : Addr) (fd : FuncData) : Prop := FunD K x x (defArgs st) (defBody st) (defScope st) [] [] f fd
def tabs (K : PySem.W.Frag) : List (Addr × Str) := [((He.cT K ("_law_right", none)).2, lamQ "_law_right"), ((He.cT K ("_law_met_two", none)).2, lamQ "_law_met_two")]
def xmL : List (Str × Str × Bool) := [("InvalidKinds", "InvalidKinds", true), ("InvalidKinds", "InvalidNet", false), ("InvalidKinds", "InvalidNumber", false), ("InvalidKinds", "InvalidOperation", false), ("InvalidNet", "InvalidKinds", false), ("InvalidNet", "InvalidNet", true), ("InvalidNet", "InvalidNumber", false), ("InvalidNet", "InvalidOperation", false), ("InvalidNumber", "InvalidKinds", false), ("InvalidNumber", "InvalidNet", false), ("InvalidNumber", "InvalidNumber", true), ("InvalidNumber", "InvalidOperation", false), ("InvalidOperation", "InvalidKinds", false), ("InvalidOperation", "InvalidNet", false), ("InvalidOperation", "InvalidNumber", false), ("InvalidOperation", "InvalidOperation", true)]
def exL (K : PySem.W.Frag) : List Bool := [xmB K xmL, tabsB (tabs K), ocB K "Net" ["_knots", "_wires"], propB K (He.ga K "Net") "knots", propB K (He.ga K "Net") "wires", lenB K "Net", xpB K "InvalidKinds" "ValueError.__new__" PySem.HandSPX.veTail, xpB K "InvalidNet" "ValueError.__new__" PySem.HandSPX.veTail, xgB K "InvalidNumber" "given" "IndexError.__new__" ieTail, xpB K "InvalidOperation" "ValueError.__new__" PySem.HandSPX.veTail, xfBB K "InvalidNumber" "given"]
def exB (K : PySem.W.Frag) : Bool := (exL K).all id
theorem tabs_at {K : PySem.W.Frag} {H : Hp} (h : ∀ p ∈ [(("_law_right", none) : He.Defn), (("_law_met_two", none) : He.Defn)].map (He.cT K), H p.2 = some (.tbl #[])) : ∀ p ∈ tabs K, LamX.TabS H p.1 p.2 := by
  intro p hp
  unfold tabs at hp
  simp only [List.mem_cons, List.not_mem_nil, or_false] at hp
  rcases hp with rfl | rfl
  · exact LamX.TabS.nil (h (He.cT K ("_law_right", none)) (List.mem_map.mpr ⟨_, by simp, rfl⟩))
  · exact LamX.TabS.nil (h (He.cT K ("_law_met_two", none)) (List.mem_map.mpr ⟨_, by simp, rfl⟩))
section
variable {P : Program} {w : World} {K : PySem.W.Frag} {mg : Str → Option Value} {base : Heap} {tt : List (Addr × Str)}
theorem sc_is_whole : FnScope ["value"] ["value"] (defScope s_is_whole) := ⟨rfl, rfl, rfl, by decide +kernel, rfl, by decide +kernel, by decide +kernel⟩
def ms_is_whole : Ms := (mRet (mAndV (mCall gIsi (mCons (mVar 0) (mCons (mC (.ty "int")) mNil))) (mNotV (mCall gIsi (mCons (mVar 0) (mCons (mC (.ty "bool")) mNil))))))
def m_is_whole : List PV → Out PV := runN 1 ms_is_whole
instance : NoEx m_is_whole := runN_noex _ _
theorem ok_is_whole (T : Tx mg) {f : Addr} {fd : FuncData} (Fd : FnP K "is_whole" s_is_whole f fd) : FnOk P w K mg base CX0 3 f fd ["value"] (spM ⟨K, mg, tt⟩ 1 [] m_is_whole) :=
  have nd := (sc_is_whole).nd
  fnN (oz := []) Fd sc_is_whole fun G cdv A outer s H E hr => (pms_one (ow1 := []) (pmt_ret (pm_andV (pm_callB co_isi rfl T.g_isinstance (by decide +kernel) (pma_cons (pm_var 0) (pma_cons (pm_ty rfl T.g_int (by decide +kernel)) pma_nil))) (pe_one (pm_notV (pm_callB co_isi rfl T.g_isinstance (by decide +kernel) (pma_cons (pm_var 0) (pma_cons (pm_ty rfl T.g_bool (by decide +kernel)) pma_nil))))))))
theorem dn_is_whole (T : Tx mg) {f : Addr} {fd : FuncData} (Fd : FnP K "is_whole" s_is_whole f fd) (hm : mg "is_whole" = some (.ref f)) : Dn P w K mg tt base CX0 "is_whole" 3 1 [] m_is_whole :=
  ⟨f, fd, ["value"], ok_is_whole T  Fd, hm, Fd.kp, Fd.bindsN fun _ _ _ _ _ _ us hl => match us, hl with | [_], _ => rfl⟩
theorem sc_is_index : FnScope ["value", "count"] ["value", "count"] (defScope s_is_index) := ⟨rfl, rfl, rfl, by decide +kernel, rfl, by decide +kernel, by decide +kernel⟩
def ms_is_index : Ms := (mRet (mAndV (mDef 1 [] m_is_whole (mrV (mVar 0) mrNil)) (mChain (pB fun i j => decide (i ≤ j)) (pB fun i j => decide (i < j)) (mC (.int 0)) (mVar 0) (mVar 1))))
def m_is_index : List PV → Out PV := runN 2 ms_is_index
instance : NoEx m_is_index := runN_noex _ _
theorem ok_is_index (T : Tx mg) (c_is_whole : Dn P w K mg tt base CX0 "is_whole" 3 1 [] m_is_whole) {f : Addr} {fd : FuncData} (Fd : FnP K "is_index" s_is_index f fd) : FnOk P w K mg base CX0 4 f fd ["value", "count"] (spM ⟨K, mg, tt⟩ 2 [] m_is_index) :=
  have nd := (sc_is_index).nd
  fnN (oz := []) Fd sc_is_index fun G cdv A outer s H E hr => (pms_one (ow1 := []) (pmt_ret (pm_andV (pm_def c_is_whole (hr.mono (by decide)) rfl pass0 (fun _ _ _ _ z => z) (pmr_v (pm_var 0) pmr_nil)) (pe_one (pm_chain bin_le bin_lt pm_int (pm_var 0) (pm_var 1))))))
theorem dn_is_index (T : Tx mg) (c_is_whole : Dn P w K mg tt base CX0 "is_whole" 3 1 [] m_is_whole) {f : Addr} {fd : FuncData} (Fd : FnP K "is_index" s_is_index f fd) (hm : mg "is_index" = some (.ref f)) : Dn P w K mg tt base CX0 "is_index" 4 2 [] m_is_index :=
  ⟨f, fd, ["value", "count"], ok_is_index T c_is_whole Fd, hm, Fd.kp, Fd.bindsN fun _ _ _ _ _ _ us hl => match us, hl with | [_, _], _ => rfl⟩
theorem sc_is_tuple_of : FnScope ["value", "count"] ["value", "count"] (defScope s_is_tuple_of) := ⟨rfl, rfl, rfl, by decide +kernel, rfl, by decide +kernel, by decide +kernel⟩
def ms_is_tuple_of : Ms := (mRet (mAndV (mCall gIsi (mCons (mVar 0) (mCons (mC (.ty "tuple")) mNil))) (mBin pEq (mCall (gLenC "Net" "_wires") (mCons (mVar 0) mNil)) (mVar 1))))
def m_is_tuple_of : List PV → Out PV := runN 2 ms_is_tuple_of
instance : NoEx m_is_tuple_of := runN_noex _ _
theorem ok_is_tuple_of (T : Tx mg) (N_Net : LnX P w K mg base "Net" "_wires") (T_Net : OC K mg "Net" ["_knots", "_wires"]) {f : Addr} {fd : FuncData} (Fd : FnP K "is_tuple_of" s_is_tuple_of f fd) : FnOk P w K mg base CX0 3 f fd ["value", "count"] (spM ⟨K, mg, tt⟩ 2 [] m_is_tuple_of) :=
  have nd := (sc_is_tuple_of).nd
  fnN (oz := []) Fd sc_is_tuple_of fun G cdv A outer s H E hr => (pms_one (ow1 := []) (pmt_ret (pm_andV (pm_callB co_isi rfl T.g_isinstance (by decide +kernel) (pma_cons (pm_var 0) (pma_cons (pm_ty rfl T.g_tuple (by decide +kernel)) pma_nil))) (pe_one (pm_cmp (bin_eq (room64 hr)) (pm_callB (co_lenC T_Net N_Net (hr.mono (by decide))) rfl T.g_len (by decide +kernel) (pma_cons (pm_var 0) pma_nil)) (pm_var 1) (nomark _))))))
theorem dn_is_tuple_of (T : Tx mg) (N_Net : LnX P w K mg base "Net" "_wires") (T_Net : OC K mg "Net" ["_knots", "_wires"]) {f : Addr} {fd : FuncData} (Fd : FnP K "is_tuple_of" s_is_tuple_of f fd) (hm : mg "is_tuple_of" = some (.ref f)) : Dn P w K mg tt base CX0 "is_tuple_of" 3 2 [] m_is_tuple_of :=
  ⟨f, fd, ["value", "count"], ok_is_tuple_of T N_Net T_Net Fd, hm, Fd.kp, Fd.bindsN fun _ _ _ _ _ _ us hl => match us, hl with | [_, _], _ => rfl⟩
theorem sc_is_row : FnScope ["value", "count", "item"] ["value", "count"] (defScope s_is_row) := ⟨rfl, rfl, rfl, by decide +kernel, rfl, by decide +kernel, by decide +kernel⟩
def cE1_is_row : Mo PV := (mDef 1 [] m_is_whole (mrV (mVar 2) mrNil))
def ms_is_row : Ms := (mRet (mAndV (mDef 2 [] m_is_tuple_of (mrV (mVar 0) (mrV (mVar 1) mrNil))) (mCall gAll (mCons (mLc [2] (tN 2) mYes cE1_is_row (mIt (mVar 0))) mNil))))
def m_is_row : List PV → Out PV := runN 3 ms_is_row
instance : NoEx m_is_row := runN_noex _ _
theorem ok_is_row (T : Tx mg) (c_is_tuple_of : Dn P w K mg tt base CX0 "is_tuple_of" 3 2 [] m_is_tuple_of) (c_is_whole : Dn P w K mg tt base CX0 "is_whole" 3 1 [] m_is_whole) {f : Addr} {fd : FuncData} (Fd : FnP K "is_row" s_is_row f fd) : FnOk P w K mg base CX0 4 f fd ["value", "count"] (spM ⟨K, mg, tt⟩ 2 [] m_is_row) :=
  have nd := (sc_is_row).nd
  fnN (oz := []) Fd sc_is_row fun G cdv A outer s H E hr => (pms_one (ow1 := []) (pmt_ret (pm_andV (pm_def c_is_tuple_of (hr.mono (by decide)) rfl pass0 (fun _ _ _ _ z => z) (pmr_v (pm_var 0) (pmr_v (pm_var 1) pmr_nil))) (pe_one (pm_callB co_all rfl T.g_all (by decide +kernel) (pma_cons (pm_lc (own := [("item", 2)]) nd (pmi_seq (pm_var 0)) (blkOk_by (own := [("item", 2)]) (N := ["value", "count", "item"]) (sc := defScope s_is_row) (by decide +kernel)) (fun _ _ _ _ _ => (pg_name (i := 2) nd rfl (.inl rfl))) (fun _ _ _ _ _ _ => pmts_nil) (fun _ _ _ _ _ _ => (pm_def c_is_whole (hr.mono (by decide)) rfl pass0 (fun _ _ _ _ z => z) (pmr_v (pm_var 2) pmr_nil))) (fun _ => (tg_name 2))) pma_nil))))))
theorem dn_is_row (T : Tx mg) (c_is_tuple_of : Dn P w K mg tt base CX0 "is_tuple_of" 3 2 [] m_is_tuple_of) (c_is_whole : Dn P w K mg tt base CX0 "is_whole" 3 1 [] m_is_whole) {f : Addr} {fd : FuncData} (Fd : FnP K "is_row" s_is_row f fd) (hm : mg "is_row" = some (.ref f)) : Dn P w K mg tt base CX0 "is_row" 4 2 [] m_is_row :=
  ⟨f, fd, ["value", "count"], ok_is_row T c_is_tuple_of c_is_whole Fd, hm, Fd.kp, Fd.bindsN fun _ _ _ _ _ _ us hl => match us, hl with | [_, _], _ => rfl⟩
theorem sc_ascends : FnScope ["row", "k"] ["row"] (defScope s_ascends) := ⟨rfl, rfl, rfl, by decide +kernel, rfl, by decide +kernel, by decide +kernel⟩
def cE1_ascends : Mo PV := (mBin (pB fun i j => decide (i < j)) (mBin pIxA (mVar 0) (mVar 1)) (mBin pIxA (mVar 0) (mBin pAdd (mVar 1) (mC (.int 1)))))
def ms_ascends : Ms := (mRet (mCall gAll (mCons (mLc [1] (tN 1) mYes cE1_ascends (mItA iRange1 (mCons (mBin (pI fun i j => i - j) (mCall (gLenC "Net" "_wires") (mCons (mVar 0) mNil)) (mC (.int 1))) mNil))) mNil)))
def m_ascends : List PV → Out PV := runN 2 ms_ascends
instance : NoEx m_ascends := runN_noex _ _
theorem ok_ascends (T : Tx mg) (N_Net : LnX P w K mg base "Net" "_wires") (T_Net : OC K mg "Net" ["_knots", "_wires"]) {f : Addr} {fd : FuncData} (Fd : FnP K "ascends" s_ascends f fd) : FnOk P w K mg base CX0 3 f fd ["row"] (spM ⟨K, mg, tt⟩ 1 [] m_ascends) :=
  have nd := (sc_ascends).nd
  fnN (oz := []) Fd sc_ascends fun G cdv A outer s H E hr => (pms_one (ow1 := []) (pmt_ret (pm_callB co_all rfl T.g_all (by decide +kernel) (pma_cons (pm_lc (own := [("k", 1)]) nd (pmi_range1 rfl T.g_range (pma_cons (pm_bin bin_sub (pm_callB (co_lenC T_Net N_Net (hr.mono (by decide))) rfl T.g_len (by decide +kernel) (pma_cons (pm_var 0) pma_nil)) pm_int) pma_nil)) (blkOk_by (own := [("k", 1)]) (N := ["row", "k"]) (sc := defScope s_ascends) (by decide +kernel)) (fun _ _ _ _ _ => (pg_name (i := 1) nd rfl (.inl rfl))) (fun _ _ _ _ _ _ => pmts_nil) (fun _ _ _ _ _ _ => (pm_cmp bin_lt (pm_ixA (hu1 (room65 hr)) (pm_var 0) (pm_var 1)) (pm_ixA (hu1 (room65 hr)) (pm_var 0) (pm_bin bin_add (pm_var 1) pm_int)) (nomark _))) (fun _ => (tg_name 1))) pma_nil))))
theorem dn_ascends (T : Tx mg) (N_Net : LnX P w K mg base "Net" "_wires") (T_Net : OC K mg "Net" ["_knots", "_wires"]) {f : Addr} {fd : FuncData} (Fd : FnP K "ascends" s_ascends f fd) (hm : mg "ascends" = some (.ref f)) : Dn P w K mg tt base CX0 "ascends" 3 1 [] m_ascends :=
  ⟨f, fd, ["row"], ok_ascends T N_Net T_Net Fd, hm, Fd.kp, Fd.bindsN fun _ _ _ _ _ _ us hl => match us, hl with | [_], _ => rfl⟩
theorem sc_no_arcs : FnScope ["knots", "_"] ["knots"] (defScope s_no_arcs) := ⟨rfl, rfl, rfl, by decide +kernel, rfl, by decide +kernel, by decide +kernel⟩
theorem ok_no_arcs (T : Tx mg) {f : Addr} {fd : FuncData} (Fd : FnP K "no_arcs" s_no_arcs f fd) : FnOk P w K mg base CX0 3 f fd ["knots"] (spNst tt) :=
  have nd := (sc_no_arcs).nd
  fn_nst Fd sc_no_arcs fun cdv A outer s H E hr => pss_one (ps_nst (pe_lc (own := [("_", 1)]) rfl nd (pi_range1 rfl T.g_range (pa_cons (pe_var (i := 0) rfl (.inl rfl) rfl rfl) pa_nil)) (blkOk_by (own := [("_", 1)]) (N := ["knots", "_"]) (sc := defScope s_no_arcs) (by decide +kernel)) (fun _ _ _ _ _ => pg_name nd rfl (.inl rfl)) (fun _ _ _ _ _ => pts_nil) (fun _ _ _ _ _ => pe_lst pa_nil)))
theorem dn_no_arcs (T : Tx mg) {f : Addr} {fd : FuncData} (Fd : FnP K "no_arcs" s_no_arcs f fd) (hm : mg "no_arcs" = some (.ref f)) : DnN P w K mg tt base "no_arcs" 3 :=
  ⟨f, fd, ["knots"], ok_no_arcs T Fd, hm, Fd.kp, Fd.bindsN fun _ _ _ _ _ _ us hl => match us, hl with | [_], _ => rfl⟩
theorem sc_ways_along : FnScope ["arcs", "starts", "knot", "ways", "queue", "at", "goal", "step"] ["arcs", "starts"] (defScope s_ways_along) := ⟨rfl, rfl, rfl, by decide +kernel, rfl, by decide +kernel, by decide +kernel⟩
def lB1_ways_along : Ms := (mIfS (mTB (mInO true 3 (mVar 6))) (mSeq (mSetIxA 3 (mVar 6) (mTup (mStar (mIxOA 3 (mVar 2)) (mCons (mVar 7) mNil)))) (mExpr (mApp 4 (mVar 6)))) mNext)
def wT1_ways_along : Mo Bool := (mTB (mBin (pB fun i j => decide (i < j)) (mVar 5) (mCallO (gLenC "Net" "_wires") 4)))
def wB1_ways_along : Ms := (mSeq (mSet 2 (mIxOA 4 (mVar 5))) (mSeq (mAug (pI fun i j => i + j) 5 (mC (.int 1))) (mFor (mIt (mBin pIxA (mVar 0) (mVar 2))) (tT [6, 7]) lB1_ways_along)))
def ms_ways_along : Ms := (mSeq (mSetO 3 (mDc [2] (tN 2) mYes (mVar 2) (mTup mNil) (mIt (mVar 1)))) (mSeq (mSetO 4 (mCall gList (mCons (mVar 1) mNil))) (mSeq (mSet 5 (mC (.int 0))) (mSeq (wloop wT1_ways_along wB1_ways_along 1000000000) (mRet (mVar 3))))))
def m_ways_along : List PV → Out PV := runN 8 ms_ways_along
instance : NoEx m_ways_along := runN_noex _ _
theorem ok_ways_along (T : Tx mg) (N_Net : LnX P w K mg base "Net" "_wires") (T_Net : OC K mg "Net" ["_knots", "_wires"]) {f : Addr} {fd : FuncData} (Fd : FnP K "ways_along" s_ways_along f fd) : FnOk P w K mg base CX0 3 f fd ["arcs", "starts"] (spM ⟨K, mg, tt⟩ 2 [] m_ways_along) :=
  have nd := (sc_ways_along).nd
  fnN (oz := []) Fd sc_ways_along fun G cdv A outer s H E hr => (pms_cons (ow1 := [3]) (ow2 := [3]) (pmt_setDcO 3 (ow' := [3]) (own := [("knot", 2)]) nd (pmi_seq (pm_var 1)) (blkOk_by (own := [("knot", 2)]) (N := ["arcs", "starts", "knot", "ways", "queue", "at", "goal", "step"]) (sc := defScope s_ways_along) (by decide +kernel)) (fun _ _ _ _ _ => (pg_name (i := 2) nd rfl (.inl rfl))) (fun _ _ _ _ _ _ => pmts_nil) (fun _ _ _ _ _ _ => (pm_var 2)) (fun _ _ _ _ _ _ => (pm_tup pma_nil)) (fun _ => (tg_name 2)) (swD_true rfl rfl rfl (by decide +kernel))) (pms_cons (ow1 := [3, 4]) (ow2 := [3, 4]) (pmt_setO 4 (ow' := [3, 4]) nd (pmf_callTy cf_list rfl T.g_list (by decide +kernel) (pma_cons (pm_var 1) pma_nil))) (pms_cons (ow1 := [3, 4]) (ow2 := [3, 4]) (pmt_set 5 nd pm_int) (pms_cons (ow1 := [3, 4]) (ow2 := []) (pmt_while 1000000000 PassesOwn.never (pm_tcmp bin_lt (pm_var 5) (pm_callBO 4 (co_lenC T_Net N_Net (hr.mono (by decide))) rfl T.g_len (by decide +kernel)) (nomark _)) (pms_cons (ow1 := [3, 4]) (ow2 := [3, 4]) (pmt_set 2 nd (pm_ixOA 4 (hu1 (room65 hr)) (pm_var 5))) (pms_cons (ow1 := [3, 4]) (ow2 := [3, 4]) (pmt_aug 5 nd ip_addM pm_int) (pms_one (ow1 := [3, 4]) (pmt_for PassesOwn.never (pmi_seq (pm_ixA (hu1 (room65 hr)) (pm_var 0) (pm_var 2))) (pg_tup (n := 2) rfl (pgs_cons (pg_name (i := 6) nd rfl (by first | exact .inl rfl | exact .inr rfl)) (pgs_cons (pg_name (i := 7) nd rfl (by first | exact .inl rfl | exact .inr rfl)) pgs_nil))) (tg_tup [6, 7]) (pms_one (ow1 := [3, 4]) (pmt_if (pm_tinO true 3 (op_dkNot (hu1 (room65 hr))) (pm_var 6) rfl) (pms_cons (ow1 := [3, 4]) (ow2 := [3, 4]) (pmt_setIxA 3 (hu1 (room65 hr)) (pm_tup (pma_star (pm_ixOA 3 (hu1 (room65 hr)) (pm_var 2)) (pma_cons (pm_var 7) pma_nil))) (pm_var 6)) (pms_one (ow1 := [3, 4]) (pmt_expr (pm_app 4 (pm_var 6))))) (pms_nil)))))))) (pms_one (ow1 := []) (pmt_ret (pm_var 3)))))))
theorem dn_ways_along (T : Tx mg) (N_Net : LnX P w K mg base "Net" "_wires") (T_Net : OC K mg "Net" ["_knots", "_wires"]) {f : Addr} {fd : FuncData} (Fd : FnP K "ways_along" s_ways_along f fd) (hm : mg "ways_along" = some (.ref f)) : Dn P w K mg tt base CX0 "ways_along" 3 2 [] m_ways_along :=
  ⟨f, fd, ["arcs", "starts"], ok_ways_along T N_Net T_Net Fd, hm, Fd.kp, Fd.bindsN fun _ _ _ _ _ _ us hl => match us, hl with | [_, _], _ => rfl⟩
theorem sc_is_far_point : FnScope ["value"] ["value"] (defScope s_is_far_point) := ⟨rfl, rfl, rfl, by decide +kernel, rfl, by decide +kernel, by decide +kernel⟩
def ms_is_far_point : Ms := (mRet (mAndV (mDef 2 [] m_is_row (mrV (mVar 0) (mrV (mC (.int 2)) mrNil))) (mAndV (mBin (pB fun i j => decide (i ≤ j)) (mCall gAbs (mCons (mBin pIxA (mVar 0) (mC (.int 0))) mNil)) (mC (.int 1000000000000000000))) (mBin (pB fun i j => decide (i ≤ j)) (mCall gAbs (mCons (mBin pIxA (mVar 0) (mC (.int 1))) mNil)) (mC (.int 1000000000000000000))))))
def m_is_far_point : List PV → Out PV := runN 1 ms_is_far_point
instance : NoEx m_is_far_point := runN_noex _ _
theorem ok_is_far_point (T : Tx mg) (c_is_row : Dn P w K mg tt base CX0 "is_row" 4 2 [] m_is_row) {f : Addr} {fd : FuncData} (Fd : FnP K "is_far_point" s_is_far_point f fd) : FnOk P w K mg base CX0 5 f fd ["value"] (spM ⟨K, mg, tt⟩ 1 [] m_is_far_point) :=
  have nd := (sc_is_far_point).nd
  fnN (oz := []) Fd sc_is_far_point fun G cdv A outer s H E hr => (pms_one (ow1 := []) (pmt_ret (pm_andV (pm_def c_is_row (hr.mono (by decide)) rfl pass0 (fun _ _ _ _ z => z) (pmr_v (pm_var 0) (pmr_v pm_int pmr_nil))) (pm_andV (pm_cmp bin_le (pm_callB co_abs rfl T.g_abs (by decide +kernel) (pma_cons (pm_ixA (hu1 (room65 hr)) (pm_var 0) pm_int) pma_nil)) (pm_glE rfl T.g_FAR) (nomark _)) (pe_one (pm_cmp bin_le (pm_callB co_abs rfl T.g_abs (by decide +kernel) (pma_cons (pm_ixA (hu1 (room65 hr)) (pm_var 0) pm_int) pma_nil)) (pm_glE rfl T.g_FAR) (nomark _)))))))
theorem dn_is_far_point (T : Tx mg) (c_is_row : Dn P w K mg tt base CX0 "is_row" 4 2 [] m_is_row) {f : Addr} {fd : FuncData} (Fd : FnP K "is_far_point" s_is_far_point f fd) (hm : mg "is_far_point" = some (.ref f)) : Dn P w K mg tt base CX0 "is_far_point" 5 1 [] m_is_far_point :=
  ⟨f, fd, ["value"], ok_is_far_point T c_is_row Fd, hm, Fd.kp, Fd.bindsN fun _ _ _ _ _ _ us hl => match us, hl with | [_], _ => rfl⟩
theorem sc_kind_between : FnScope ["start", "end"] ["start", "end"] (defScope s_kind_between) := ⟨rfl, rfl, rfl, by decide +kernel, rfl, by decide +kernel, by decide +kernel⟩
def ms_kind_between : Ms := (mSeq (mIfS (mAnd (mTB (mBin pEq (mBin pIxA (mVar 0) (mC (.int 1))) (mBin pIxA (mVar 1) (mC (.int 1))))) (mTB (mBin (pB fun i j => decide (i < j)) (mBin pIxA (mVar 0) (mC (.int 0))) (mBin pIxA (mVar 1) (mC (.int 0)))))) (mRet (mC (.str "flat"))) mNext) (mSeq (mIfS (mAnd (mTB (mBin pEq (mBin pIxA (mVar 0) (mC (.int 0))) (mBin pIxA (mVar 1) (mC (.int 0))))) (mTB (mBin (pB fun i j => decide (i < j)) (mBin pIxA (mVar 0) (mC (.int 1))) (mBin pIxA (mVar 1) (mC (.int 1)))))) (mRet (mC (.str "steep"))) mNext) (mRet (mC .non))))
def m_kind_between : List PV → Out PV := runN 2 ms_kind_between
instance : NoEx m_kind_between := runN_noex _ _
theorem ok_kind_between (T : Tx mg) {f : Addr} {fd : FuncData} (Fd : FnP K "kind_between" s_kind_between f fd) : FnOk P w K mg base CX0 3 f fd ["start", "end"] (spM ⟨K, mg, tt⟩ 2 [] m_kind_between) :=
  have nd := (sc_kind_between).nd
  fnN (oz := []) Fd sc_kind_between fun G cdv A outer s H E hr => (pms_cons (ow1 := []) (ow2 := []) (pmt_if (PW.pt (pw_andM (pm_tcmp (bin_eq (room64 hr)) (pm_ixA (hu1 (room65 hr)) (pm_var 0) pm_int) (pm_ixA (hu1 (room65 hr)) (pm_var 1) pm_int) (nomark _)) (pw_and1 (pm_tcmp bin_lt (pm_ixA (hu1 (room65 hr)) (pm_var 0) pm_int) (pm_ixA (hu1 (room65 hr)) (pm_var 1) pm_int) (nomark _))))) (pms_one (ow1 := []) (pmt_ret pm_str)) (pms_nil)) (pms_cons (ow1 := []) (ow2 := []) (pmt_if (PW.pt (pw_andM (pm_tcmp (bin_eq (room64 hr)) (pm_ixA (hu1 (room65 hr)) (pm_var 0) pm_int) (pm_ixA (hu1 (room65 hr)) (pm_var 1) pm_int) (nomark _)) (pw_and1 (pm_tcmp bin_lt (pm_ixA (hu1 (room65 hr)) (pm_var 0) pm_int) (pm_ixA (hu1 (room65 hr)) (pm_var 1) pm_int) (nomark _))))) (pms_one (ow1 := []) (pmt_ret pm_str)) (pms_nil)) (pms_one (ow1 := []) (pmt_ret pm_non))))
theorem dn_kind_between (T : Tx mg) {f : Addr} {fd : FuncData} (Fd : FnP K "kind_between" s_kind_between f fd) (hm : mg "kind_between" = some (.ref f)) : Dn P w K mg tt base CX0 "kind_between" 3 2 [] m_kind_between :=
  ⟨f, fd, ["start", "end"], ok_kind_between T  Fd, hm, Fd.kp, Fd.bindsN fun _ _ _ _ _ _ us hl => match us, hl with | [_, _], _ => rfl⟩
theorem sc_other_kind : FnScope ["kind"] ["kind"] (defScope s_other_kind) := ⟨rfl, rfl, rfl, by decide +kernel, rfl, by decide +kernel, by decide +kernel⟩
def ms_other_kind : Ms := (mRet (mIf (mTB (mBin pEq (mVar 0) (mC (.str "flat")))) (mC (.str "steep")) (mC (.str "flat"))))
def m_other_kind : List PV → Out PV := runN 1 ms_other_kind
instance : NoEx m_other_kind := runN_noex _ _
theorem ok_other_kind (T : Tx mg) {f : Addr} {fd : FuncData} (Fd : FnP K "other_kind" s_other_kind f fd) : FnOk P w K mg base CX0 3 f fd ["kind"] (spM ⟨K, mg, tt⟩ 1 [] m_other_kind) :=
  have nd := (sc_other_kind).nd
  fnN (oz := []) Fd sc_other_kind fun G cdv A outer s H E hr => (pms_one (ow1 := []) (pmt_ret (pm_if (pm_tcmp (bin_eq (room64 hr)) (pm_var 0) pm_str (nomark _)) pm_str pm_str)))
theorem dn_other_kind (T : Tx mg) {f : Addr} {fd : FuncData} (Fd : FnP K "other_kind" s_other_kind f fd) (hm : mg "other_kind" = some (.ref f)) : Dn P w K mg tt base CX0 "other_kind" 3 1 [] m_other_kind :=
  ⟨f, fd, ["kind"], ok_other_kind T  Fd, hm, Fd.kp, Fd.bindsN fun _ _ _ _ _ _ us hl => match us, hl with | [_], _ => rfl⟩
theorem sc_are_corners : FnScope ["first", "value", "kind", "k", "point"] ["first", "value"] (defScope s_are_corners) := ⟨rfl, rfl, rfl, by decide +kernel, rfl, by decide +kernel, by decide +kernel⟩
def cE1_are_corners : Mo PV := (mDef 1 [] m_is_far_point (mrV (mVar 4) mrNil))
def lB1_are_corners : Ms := (mSeq (mSet 2 (mDef 1 [] m_other_kind (mrV (mVar 2) mrNil))) (mIfS (mTB (mBin pNe (mDef 2 [] m_kind_between (mrV (mBin pIxA (mVar 1) (mVar 3)) (mrV (mBin pIxA (mVar 1) (mBin pAdd (mVar 3) (mC (.int 1)))) mrNil))) (mVar 2))) (mRet (mC (.bl false))) mNext))
def ms_are_corners : Ms := (mSeq (mIfS (mOr (mNot (mTr (mCall gIsi (mCons (mVar 1) (mCons (mC (.ty "tuple")) mNil))))) (mNot (mTB (mChain (pB fun i j => decide (i ≤ j)) (pB fun i j => decide (i ≤ j)) (mC (.int 1)) (mCall (gLenC "Net" "_wires") (mCons (mVar 1) mNil)) (mC (.int 400)))))) (mRet (mC (.bl false))) mNext) (mSeq (mIfS (mNot (mTr (mCall gAll (mCons (mLc [4] (tN 4) mYes cE1_are_corners (mIt (mVar 1))) mNil)))) (mRet (mC (.bl false))) mNext) (mSeq (mSet 2 (mVar 0)) (mSeq (mFor (mItA iRange1 (mCons (mBin (pI fun i j => i - j) (mCall (gLenC "Net" "_wires") (mCons (mVar 1) mNil)) (mC (.int 1))) mNil)) (tN 3) lB1_are_corners) (mRet (mC (.bl true)))))))
def m_are_corners : List PV → Out PV := runN 5 ms_are_corners
instance : NoEx m_are_corners := runN_noex _ _
theorem ok_are_corners (T : Tx mg) (c_is_far_point : Dn P w K mg tt base CX0 "is_far_point" 5 1 [] m_is_far_point) (c_kind_between : Dn P w K mg tt base CX0 "kind_between" 3 2 [] m_kind_between) (c_other_kind : Dn P w K mg tt base CX0 "other_kind" 3 1 [] m_other_kind) (N_Net : LnX P w K mg base "Net" "_wires") (T_Net : OC K mg "Net" ["_knots", "_wires"]) {f : Addr} {fd : FuncData} (Fd : FnP K "are_corners" s_are_corners f fd) : FnOk P w K mg base CX0 6 f fd ["first", "value"] (spM ⟨K, mg, tt⟩ 2 [] m_are_corners) :=
  have nd := (sc_are_corners).nd
  fnN (oz := []) Fd sc_are_corners fun G cdv A outer s H E hr => (pms_cons (ow1 := []) (ow2 := []) (pmt_if (PW.pt (pw_orM (pm_not (pm_tr (pm_callB co_isi rfl T.g_isinstance (by decide +kernel) (pma_cons (pm_var 1) (pma_cons (pm_ty rfl T.g_tuple (by decide +kernel)) pma_nil))))) (pw_or1 (pm_not (pm_tchain bin_le bin_le pm_int (pm_callB (co_lenC T_Net N_Net (hr.mono (by decide))) rfl T.g_len (by decide +kernel) (pma_cons (pm_var 1) pma_nil)) (pm_glE rfl T.g_MOST_CORNERS)))))) (pms_one (ow1 := []) (pmt_ret pm_bl)) (pms_nil)) (pms_cons (ow1 := []) (ow2 := []) (pmt_if (pm_not (pm_tr (pm_callB co_all rfl T.g_all (by decide +kernel) (pma_cons (pm_lc (own := [("point", 4)]) nd (pmi_seq (pm_var 1)) (blkOk_by (own := [("point", 4)]) (N := ["first", "value", "kind", "k", "point"]) (sc := defScope s_are_corners) (by decide +kernel)) (fun _ _ _ _ _ => (pg_name (i := 4) nd rfl (.inl rfl))) (fun _ _ _ _ _ _ => pmts_nil) (fun _ _ _ _ _ _ => (pm_def c_is_far_point (hr.mono (by decide)) rfl pass0 (fun _ _ _ _ z => z) (pmr_v (pm_var 4) pmr_nil))) (fun _ => (tg_name 4))) pma_nil)))) (pms_one (ow1 := []) (pmt_ret pm_bl)) (pms_nil)) (pms_cons (ow1 := []) (ow2 := []) (pmt_set 2 nd (pm_var 0)) (pms_cons (ow1 := []) (ow2 := []) (pmt_for PassesOwn.never (pmi_range1 rfl T.g_range (pma_cons (pm_bin bin_sub (pm_callB (co_lenC T_Net N_Net (hr.mono (by decide))) rfl T.g_len (by decide +kernel) (pma_cons (pm_var 1) pma_nil)) pm_int) pma_nil)) (pg_name (i := 3) nd rfl (by first | exact .inl rfl | exact .inr rfl)) (tg_name 3) (pms_cons (ow1 := []) (ow2 := []) (pmt_set 2 nd (pm_def c_other_kind (hr.mono (by decide)) rfl pass0 (fun _ _ _ _ z => z) (pmr_v (pm_var 2) pmr_nil))) (pms_one (ow1 := []) (pmt_if (pm_tcmp (bin_ne (room64 hr)) (pm_def c_kind_between (hr.mono (by decide)) rfl pass0 (fun _ _ _ _ z => z) (pmr_v (pm_ixA (hu1 (room65 hr)) (pm_var 1) (pm_var 3)) (pmr_v (pm_ixA (hu1 (room65 hr)) (pm_var 1) (pm_bin bin_add (pm_var 3) pm_int)) pmr_nil))) (pm_var 2) (nomark _)) (pms_one (ow1 := []) (pmt_ret pm_bl)) (pms_nil))))) (pms_one (ow1 := []) (pmt_ret pm_bl))))))
theorem dn_are_corners (T : Tx mg) (c_is_far_point : Dn P w K mg tt base CX0 "is_far_point" 5 1 [] m_is_far_point) (c_kind_between : Dn P w K mg tt base CX0 "kind_between" 3 2 [] m_kind_between) (c_other_kind : Dn P w K mg tt base CX0 "other_kind" 3 1 [] m_other_kind) (N_Net : LnX P w K mg base "Net" "_wires") (T_Net : OC K mg "Net" ["_knots", "_wires"]) {f : Addr} {fd : FuncData} (Fd : FnP K "are_corners" s_are_corners f fd) (hm : mg "are_corners" = some (.ref f)) : Dn P w K mg tt base CX0 "are_corners" 6 2 [] m_are_corners :=
  ⟨f, fd, ["first", "value"], ok_are_corners T c_is_far_point c_kind_between c_other_kind N_Net T_Net Fd, hm, Fd.kp, Fd.bindsN fun _ _ _ _ _ _ us hl => match us, hl with | [_, _], _ => rfl⟩
theorem sc_is_rise : FnScope ["value", "word", "told"] ["value"] (defScope s_is_rise) := ⟨rfl, rfl, rfl, by decide +kernel, rfl, by decide +kernel, by decide +kernel⟩
def ms_is_rise : Ms := (mSeq (mIfS (mNot (mTr (mDef 2 [] m_is_tuple_of (mrV (mVar 0) (mrV (mC (.int 2)) mrNil))))) (mRet (mC (.bl false))) mNext) (mSeq (mUnp [1, 2] (mVar 0)) (mSeq (mIfS (mTB (mBin (pInA false) (mVar 1) (mTup (mCons (mC (.str "level")) (mCons (mC (.str "plumb")) mNil))))) (mRet (mAndV (mDef 1 [] m_is_whole (mrV (mVar 2) mrNil)) (mBin (pB fun i j => decide (i ≤ j)) (mCall gAbs (mCons (mVar 2) mNil)) (mC (.int 1000000000000000000))))) mNext) (mRet (mAndV (mBin (pInA false) (mVar 1) (mTup (mCons (mC (.str "flat")) (mCons (mC (.str "steep")) mNil)))) (mDef 2 [] m_are_corners (mrV (mVar 1) (mrV (mVar 2) mrNil))))))))
def m_is_rise : List PV → Out PV := runN 3 ms_is_rise
instance : NoEx m_is_rise := runN_noex _ _
theorem ok_is_rise (T : Tx mg) (c_are_corners : Dn P w K mg tt base CX0 "are_corners" 6 2 [] m_are_corners) (c_is_tuple_of : Dn P w K mg tt base CX0 "is_tuple_of" 3 2 [] m_is_tuple_of) (c_is_whole : Dn P w K mg tt base CX0 "is_whole" 3 1 [] m_is_whole) {f : Addr} {fd : FuncData} (Fd : FnP K "is_rise" s_is_rise f fd) : FnOk P w K mg base CX0 7 f fd ["value"] (spM ⟨K, mg, tt⟩ 1 [] m_is_rise) :=
  have nd := (sc_is_rise).nd
  fnN (oz := []) Fd sc_is_rise fun G cdv A outer s H E hr => (pms_cons (ow1 := []) (ow2 := []) (pmt_if (pm_not (pm_tr (pm_def c_is_tuple_of (hr.mono (by decide)) rfl pass0 (fun _ _ _ _ z => z) (pmr_v (pm_var 0) (pmr_v pm_int pmr_nil))))) (pms_one (ow1 := []) (pmt_ret pm_bl)) (pms_nil)) (pms_cons (ow1 := []) (ow2 := []) (pmt_unp [1, 2] (pm_var 0) (pgs_cons (pg_name (i := 1) nd rfl (by first | exact .inl rfl | exact .inr rfl)) (pgs_cons (pg_name (i := 2) nd rfl (by first | exact .inl rfl | exact .inr rfl)) pgs_nil))) (pms_cons (ow1 := []) (ow2 := []) (pmt_if (pm_tcmp (bin_inA (room65 hr)) (pm_var 1) (pm_tup (pma_cons pm_str (pma_cons pm_str pma_nil))) rfl) (pms_one (ow1 := []) (pmt_ret (pm_andV (pm_def c_is_whole (hr.mono (by decide)) rfl pass0 (fun _ _ _ _ z => z) (pmr_v (pm_var 2) pmr_nil)) (pe_one (pm_cmp bin_le (pm_callB co_abs rfl T.g_abs (by decide +kernel) (pma_cons (pm_var 2) pma_nil)) (pm_glE rfl T.g_FAR) (nomark _)))))) (pms_nil)) (pms_one (ow1 := []) (pmt_ret (pm_andV (pm_cmp (bin_inA (room65 hr)) (pm_var 1) (pm_tup (pma_cons pm_str (pma_cons pm_str pma_nil))) rfl) (pe_one (pm_def c_are_corners (hr.mono (by decide)) rfl pass0 (fun _ _ _ _ z => z) (pmr_v (pm_var 1) (pmr_v (pm_var 2) pmr_nil))))))))))
theorem dn_is_rise (T : Tx mg) (c_are_corners : Dn P w K mg tt base CX0 "are_corners" 6 2 [] m_are_corners) (c_is_tuple_of : Dn P w K mg tt base CX0 "is_tuple_of" 3 2 [] m_is_tuple_of) (c_is_whole : Dn P w K mg tt base CX0 "is_whole" 3 1 [] m_is_whole) {f : Addr} {fd : FuncData} (Fd : FnP K "is_rise" s_is_rise f fd) (hm : mg "is_rise" = some (.ref f)) : Dn P w K mg tt base CX0 "is_rise" 7 1 [] m_is_rise :=
  ⟨f, fd, ["value"], ok_is_rise T c_are_corners c_is_tuple_of c_is_whole Fd, hm, Fd.kp, Fd.bindsN fun _ _ _ _ _ _ us hl => match us, hl with | [_], _ => rfl⟩
theorem sc_corners_in : FnScope ["rise"] ["rise"] (defScope s_corners_in) := ⟨rfl, rfl, rfl, by decide +kernel, rfl, by decide +kernel, by decide +kernel⟩
def ms_corners_in : Ms := (mRet (mIf (mTB (mBin (pInA false) (mBin pIxA (mVar 0) (mC (.int 0))) (mTup (mCons (mC (.str "level")) (mCons (mC (.str "plumb")) mNil))))) (mTup mNil) (mBin pIxA (mVar 0) (mC (.int 1)))))
def m_corners_in : List PV → Out PV := runN 1 ms_corners_in
instance : NoEx m_corners_in := runN_noex _ _
theorem ok_corners_in (T : Tx mg) {f : Addr} {fd : FuncData} (Fd : FnP K "corners_in" s_corners_in f fd) : FnOk P w K mg base CX0 3 f fd ["rise"] (spM ⟨K, mg, tt⟩ 1 [] m_corners_in) :=
  have nd := (sc_corners_in).nd
  fnN (oz := []) Fd sc_corners_in fun G cdv A outer s H E hr => (pms_one (ow1 := []) (pmt_ret (pm_if (pm_tcmp (bin_inA (room65 hr)) (pm_ixA (hu1 (room65 hr)) (pm_var 0) pm_int) (pm_tup (pma_cons pm_str (pma_cons pm_str pma_nil))) rfl) (pm_tup pma_nil) (pm_ixA (hu1 (room65 hr)) (pm_var 0) pm_int))))
theorem dn_corners_in (T : Tx mg) {f : Addr} {fd : FuncData} (Fd : FnP K "corners_in" s_corners_in f fd) (hm : mg "corners_in" = some (.ref f)) : Dn P w K mg tt base CX0 "corners_in" 3 1 [] m_corners_in :=
  ⟨f, fd, ["rise"], ok_corners_in T  Fd, hm, Fd.kp, Fd.bindsN fun _ _ _ _ _ _ us hl => match us, hl with | [_], _ => rfl⟩
theorem sc_size_of : FnScope ["rise", "x", "y"] ["rise"] (defScope s_size_of) := ⟨rfl, rfl, rfl, by decide +kernel, rfl, by decide +kernel, by decide +kernel⟩
def cE1_size_of : Mo PV := (mCall gMax (mCons (mCall gAbs (mCons (mVar 1) mNil)) (mCons (mCall gAbs (mCons (mVar 2) mNil)) mNil)))
def ms_size_of : Ms := (mSeq (mIfS (mTB (mBin (pInA false) (mBin pIxA (mVar 0) (mC (.int 0))) (mTup (mCons (mC (.str "level")) (mCons (mC (.str "plumb")) mNil))))) (mRet (mCall gAbs (mCons (mBin pIxA (mVar 0) (mC (.int 1))) mNil))) mNext) (mRet (mCall gMax (mCons (mLc [1, 2] (tT [1, 2]) mYes cE1_size_of (mIt (mBin pIxA (mVar 0) (mC (.int 1))))) mNil))))
def m_size_of : List PV → Out PV := runN 3 ms_size_of
instance : NoEx m_size_of := runN_noex _ _
theorem ok_size_of (T : Tx mg) {f : Addr} {fd : FuncData} (Fd : FnP K "size_of" s_size_of f fd) : FnOk P w K mg base CX0 3 f fd ["rise"] (spM ⟨K, mg, tt⟩ 1 [] m_size_of) :=
  have nd := (sc_size_of).nd
  fnN (oz := []) Fd sc_size_of fun G cdv A outer s H E hr => (pms_cons (ow1 := []) (ow2 := []) (pmt_if (pm_tcmp (bin_inA (room65 hr)) (pm_ixA (hu1 (room65 hr)) (pm_var 0) pm_int) (pm_tup (pma_cons pm_str (pma_cons pm_str pma_nil))) rfl) (pms_one (ow1 := []) (pmt_ret (pm_callB co_abs rfl T.g_abs (by decide +kernel) (pma_cons (pm_ixA (hu1 (room65 hr)) (pm_var 0) pm_int) pma_nil)))) (pms_nil)) (pms_one (ow1 := []) (pmt_ret (pm_callB co_max rfl T.g_max (by decide +kernel) (pma_cons (pm_lc (own := [("x", 1), ("y", 2)]) nd (pmi_seq (pm_ixA (hu1 (room65 hr)) (pm_var 0) pm_int)) (blkOk_by (own := [("x", 1), ("y", 2)]) (N := ["rise", "x", "y"]) (sc := defScope s_size_of) (by decide +kernel)) (fun _ _ _ _ _ => (pg_tup (n := 2) rfl (pgs_cons (pg_name (i := 1) nd rfl (.inl rfl)) (pgs_cons (pg_name (i := 2) nd rfl (.inl rfl)) pgs_nil)))) (fun _ _ _ _ _ _ => pmts_nil) (fun _ _ _ _ _ _ => (pm_callB co_max rfl T.g_max (by decide +kernel) (pma_cons (pm_callB co_abs rfl T.g_abs (by decide +kernel) (pma_cons (pm_var 1) pma_nil)) (pma_cons (pm_callB co_abs rfl T.g_abs (by decide +kernel) (pma_cons (pm_var 2) pma_nil)) pma_nil)))) (fun _ => (tg_tup [1, 2]))) pma_nil)))))
theorem dn_size_of (T : Tx mg) {f : Addr} {fd : FuncData} (Fd : FnP K "size_of" s_size_of f fd) (hm : mg "size_of" = some (.ref f)) : Dn P w K mg tt base CX0 "size_of" 3 1 [] m_size_of :=
  ⟨f, fd, ["rise"], ok_size_of T  Fd, hm, Fd.kp, Fd.bindsN fun _ _ _ _ _ _ us hl => match us, hl with | [_], _ => rfl⟩
theorem sc_check_net : FnScope ["value"] ["value"] (defScope s_check_net) := ⟨rfl, rfl, rfl, by decide +kernel, rfl, by decide +kernel, by decide +kernel⟩
def ms_check_net : Ms := (mIfS (mNot (mTr (mCall (gIsiC "Net") (mCons (mVar 0) (mCons (mC (.gl "Net")) mNil))))) (mRaise "InvalidNet") mNext)
def m_check_net : List PV → Out PV := runE 1 ms_check_net
instance : MayEx m_check_net := ⟨trivial⟩
theorem ok_check_net (T : Tx mg) (T_Net : OC K mg "Net" ["_knots", "_wires"]) (x_InvalidNet : XP K mg "InvalidNet" "ValueError.__new__" PySem.HandSPX.veTail) {f : Addr} {fd : FuncData} (Fd : FnP K "check_net" s_check_net f fd) : FnOk P w K mg base (L2.CX P w) 3 f fd ["value"] (spM ⟨K, mg, tt⟩ 1 [] m_check_net) :=
  have nd := (sc_check_net).nd
  fnE (oz := []) Fd sc_check_net fun G cdv A outer s H E hr => (pms_one (ow1 := []) (pmt_if (pm_not (pm_tr (pm_callB (co_isiC T_Net) rfl T.g_isinstance (by decide +kernel) (pma_cons (pm_var 0) (pma_cons (pm_glC T_Net rfl) pma_nil))))) (pms_one (ow1 := []) (pmt_raiseP PySem.F.excBase_ValueError x_InvalidNet takesE rfl)) (pms_nil)))
theorem dn_check_net (T : Tx mg) (T_Net : OC K mg "Net" ["_knots", "_wires"]) (x_InvalidNet : XP K mg "InvalidNet" "ValueError.__new__" PySem.HandSPX.veTail) {f : Addr} {fd : FuncData} (Fd : FnP K "check_net" s_check_net f fd) (hm : mg "check_net" = some (.ref f)) : Dn P w K mg tt base (L2.CX P w) "check_net" 3 1 [] m_check_net :=
  ⟨f, fd, ["value"], ok_check_net T T_Net x_InvalidNet Fd, hm, Fd.kp, Fd.bindsN fun _ _ _ _ _ _ us hl => match us, hl with | [_], _ => rfl⟩
theorem sc_is_cut : FnScope ["net", "value", "knot"] ["net", "value"] (defScope s_is_cut) := ⟨rfl, rfl, rfl, by decide +kernel, rfl, by decide +kernel, by decide +kernel⟩
def cE1_is_cut : Mo PV := (mDef 2 [] m_is_index (mrV (mVar 2) (mrV (mUn (gFld "Net" "_knots") (mVar 0)) mrNil)))
def ms_is_cut : Ms := (mSeq (mExpr (mDef 1 [] m_check_net (mrV (mVar 0) mrNil))) (mSeq (mIfS (mOr (mNot (mTr (mCall gIsi (mCons (mVar 1) (mCons (mC (.ty "tuple")) mNil))))) (mNot (mTr (mVar 1)))) (mRet (mC (.bl false))) mNext) (mRet (mAndV (mCall gAll (mCons (mLc [2] (tN 2) mYes cE1_is_cut (mIt (mVar 1))) mNil)) (mDef 1 [] m_ascends (mrV (mVar 1) mrNil))))))
def m_is_cut : List PV → Out PV := runE 3 ms_is_cut
instance : MayEx m_is_cut := ⟨trivial⟩
theorem ok_is_cut (T : Tx mg) (c_ascends : Dn P w K mg tt base CX0 "ascends" 3 1 [] m_ascends) (c_check_net : Dn P w K mg tt base (L2.CX P w) "check_net" 3 1 [] m_check_net) (c_is_index : Dn P w K mg tt base CX0 "is_index" 4 2 [] m_is_index) (P_Net_knots : PrX P w K mg base "Net" "knots" "_knots") (T_Net : OC K mg "Net" ["_knots", "_wires"]) {f : Addr} {fd : FuncData} (Fd : FnP K "is_cut" s_is_cut f fd) : FnOk P w K mg base (L2.CX P w) 5 f fd ["net", "value"] (spM ⟨K, mg, tt⟩ 2 [] m_is_cut) :=
  have nd := (sc_is_cut).nd
  fnE (oz := []) Fd sc_is_cut fun G cdv A outer s H E hr => (pms_cons (ow1 := []) (ow2 := []) (pmt_expr (pm_def c_check_net (hr.mono (by decide)) rfl (passE takesE (fun _ _ _ _ z => z)) (fun _ _ _ _ z => z) (pmr_v (pm_var 0) pmr_nil))) (pms_cons (ow1 := []) (ow2 := []) (pmt_if (PW.pt (pw_orM (pm_not (pm_tr (pm_callB co_isi rfl T.g_isinstance (by decide +kernel) (pma_cons (pm_var 1) (pma_cons (pm_ty rfl T.g_tuple (by decide +kernel)) pma_nil))))) (pw_or1 (pm_not (pm_tr (pm_var 1)))))) (pms_one (ow1 := []) (pmt_ret pm_bl)) (pms_nil)) (pms_one (ow1 := []) (pmt_ret (pm_andV (pm_callB co_all rfl T.g_all (by decide +kernel) (pma_cons (pm_lc (own := [("knot", 2)]) nd (pmi_seq (pm_var 1)) (blkOk_by (own := [("knot", 2)]) (N := ["net", "value", "knot"]) (sc := defScope s_is_cut) (by decide +kernel)) (fun _ _ _ _ _ => (pg_name (i := 2) nd rfl (.inl rfl))) (fun _ _ _ _ _ _ => pmts_nil) (fun _ _ _ _ _ _ => (pm_def c_is_index (hr.mono (by decide)) rfl pass0E (fun _ _ _ _ z => z) (pmr_v (pm_var 2) (pmr_v (pm_prop T_Net P_Net_knots (hr.mono (by decide)) (pm_var 0)) pmr_nil)))) (fun _ => (tg_name 2))) pma_nil)) (pe_one (pm_def c_ascends (hr.mono (by decide)) rfl pass0E (fun _ _ _ _ z => z) (pmr_v (pm_var 1) pmr_nil))))))))
theorem dn_is_cut (T : Tx mg) (c_ascends : Dn P w K mg tt base CX0 "ascends" 3 1 [] m_ascends) (c_check_net : Dn P w K mg tt base (L2.CX P w) "check_net" 3 1 [] m_check_net) (c_is_index : Dn P w K mg tt base CX0 "is_index" 4 2 [] m_is_index) (P_Net_knots : PrX P w K mg base "Net" "knots" "_knots") (T_Net : OC K mg "Net" ["_knots", "_wires"]) {f : Addr} {fd : FuncData} (Fd : FnP K "is_cut" s_is_cut f fd) (hm : mg "is_cut" = some (.ref f)) : Dn P w K mg tt base (L2.CX P w) "is_cut" 5 2 [] m_is_cut :=
  ⟨f, fd, ["net", "value"], ok_is_cut T c_ascends c_check_net c_is_index P_Net_knots T_Net Fd, hm, Fd.kp, Fd.bindsN fun _ _ _ _ _ _ us hl => match us, hl with | [_, _], _ => rfl⟩
theorem sc_is_step : FnScope ["net", "value"] ["net", "value"] (defScope s_is_step) := ⟨rfl, rfl, rfl, by decide +kernel, rfl, by decide +kernel, by decide +kernel⟩
def ms_is_step : Ms := (mRet (mAndV (mDef 2 [] m_is_row (mrV (mVar 1) (mrV (mC (.int 2)) mrNil))) (mAndV (mDef 2 [] m_is_index (mrV (mBin pIxA (mVar 1) (mC (.int 0))) (mrV (mCall (gLenC "Net" "_wires") (mCons (mVar 0) mNil)) mrNil))) (mBin (pInA false) (mBin pIxA (mVar 1) (mC (.int 1))) (mTup (mCons (mC (.int 1)) (mCons (mNeg (mC (.int 1))) mNil)))))))
def m_is_step : List PV → Out PV := runN 2 ms_is_step
instance : NoEx m_is_step := runN_noex _ _
theorem ok_is_step (T : Tx mg) (c_is_index : Dn P w K mg tt base CX0 "is_index" 4 2 [] m_is_index) (c_is_row : Dn P w K mg tt base CX0 "is_row" 4 2 [] m_is_row) (N_Net : LnX P w K mg base "Net" "_wires") (T_Net : OC K mg "Net" ["_knots", "_wires"]) {f : Addr} {fd : FuncData} (Fd : FnP K "is_step" s_is_step f fd) : FnOk P w K mg base CX0 5 f fd ["net", "value"] (spM ⟨K, mg, tt⟩ 2 [] m_is_step) :=
  have nd := (sc_is_step).nd
  fnN (oz := []) Fd sc_is_step fun G cdv A outer s H E hr => (pms_one (ow1 := []) (pmt_ret (pm_andV (pm_def c_is_row (hr.mono (by decide)) rfl pass0 (fun _ _ _ _ z => z) (pmr_v (pm_var 1) (pmr_v pm_int pmr_nil))) (pm_andV (pm_def c_is_index (hr.mono (by decide)) rfl pass0 (fun _ _ _ _ z => z) (pmr_v (pm_ixA (hu1 (room65 hr)) (pm_var 1) pm_int) (pmr_v (pm_callB (co_lenC T_Net N_Net (hr.mono (by decide))) rfl T.g_len (by decide +kernel) (pma_cons (pm_var 0) pma_nil)) pmr_nil))) (pe_one (pm_cmp (bin_inA (room65 hr)) (pm_ixA (hu1 (room65 hr)) (pm_var 1) pm_int) (pm_tup (pma_cons pm_int (pma_cons (pm_neg pm_int) pma_nil))) rfl))))))
theorem dn_is_step (T : Tx mg) (c_is_index : Dn P w K mg tt base CX0 "is_index" 4 2 [] m_is_index) (c_is_row : Dn P w K mg tt base CX0 "is_row" 4 2 [] m_is_row) (N_Net : LnX P w K mg base "Net" "_wires") (T_Net : OC K mg "Net" ["_knots", "_wires"]) {f : Addr} {fd : FuncData} (Fd : FnP K "is_step" s_is_step f fd) (hm : mg "is_step" = some (.ref f)) : Dn P w K mg tt base CX0 "is_step" 5 2 [] m_is_step :=
  ⟨f, fd, ["net", "value"], ok_is_step T c_is_index c_is_row N_Net T_Net Fd, hm, Fd.kp, Fd.bindsN fun _ _ _ _ _ _ us hl => match us, hl with | [_, _], _ => rfl⟩
theorem sc_step_goal : FnScope ["net", "step", "wire", "way"] ["net", "step"] (defScope s_step_goal) := ⟨rfl, rfl, rfl, by decide +kernel, rfl, by decide +kernel, by decide +kernel⟩
def ms_step_goal : Ms := (mSeq (mUnp [2, 3] (mVar 1)) (mRet (mBin pIxA (mBin pIxA (mUn (gFld "Net" "_wires") (mVar 0)) (mVar 2)) (mIf (mTB (mBin pEq (mVar 3) (mC (.int 1)))) (mC (.int 1)) (mC (.int 0))))))
def m_step_goal : List PV → Out PV := runN 4 ms_step_goal
instance : NoEx m_step_goal := runN_noex _ _
theorem ok_step_goal (T : Tx mg) (P_Net_wires : PrX P w K mg base "Net" "wires" "_wires") (T_Net : OC K mg "Net" ["_knots", "_wires"]) {f : Addr} {fd : FuncData} (Fd : FnP K "step_goal" s_step_goal f fd) : FnOk P w K mg base CX0 3 f fd ["net", "step"] (spM ⟨K, mg, tt⟩ 2 [] m_step_goal) :=
  have nd := (sc_step_goal).nd
  fnN (oz := []) Fd sc_step_goal fun G cdv A outer s H E hr => (pms_cons (ow1 := []) (ow2 := []) (pmt_unp [2, 3] (pm_var 1) (pgs_cons (pg_name (i := 2) nd rfl (by first | exact .inl rfl | exact .inr rfl)) (pgs_cons (pg_name (i := 3) nd rfl (by first | exact .inl rfl | exact .inr rfl)) pgs_nil))) (pms_one (ow1 := []) (pmt_ret (pm_ixA (hu1 (room65 hr)) (pm_ixA (hu1 (room65 hr)) (pm_prop T_Net P_Net_wires (hr.mono (by decide)) (pm_var 0)) (pm_var 2)) (pm_if (pm_tcmp (bin_eq (room64 hr)) (pm_var 3) pm_int (nomark _)) pm_int pm_int)))))
theorem dn_step_goal (T : Tx mg) (P_Net_wires : PrX P w K mg base "Net" "wires" "_wires") (T_Net : OC K mg "Net" ["_knots", "_wires"]) {f : Addr} {fd : FuncData} (Fd : FnP K "step_goal" s_step_goal f fd) (hm : mg "step_goal" = some (.ref f)) : Dn P w K mg tt base CX0 "step_goal" 3 2 [] m_step_goal :=
  ⟨f, fd, ["net", "step"], ok_step_goal T P_Net_wires T_Net Fd, hm, Fd.kp, Fd.bindsN fun _ _ _ _ _ _ us hl => match us, hl with | [_, _], _ => rfl⟩
theorem sc_step_start : FnScope ["net", "step", "wire", "way"] ["net", "step"] (defScope s_step_start) := ⟨rfl, rfl, rfl, by decide +kernel, rfl, by decide +kernel, by decide +kernel⟩
def ms_step_start : Ms := (mSeq (mUnp [2, 3] (mVar 1)) (mRet (mBin pIxA (mBin pIxA (mUn (gFld "Net" "_wires") (mVar 0)) (mVar 2)) (mIf (mTB (mBin pEq (mVar 3) (mC (.int 1)))) (mC (.int 0)) (mC (.int 1))))))
def m_step_start : List PV → Out PV := runN 4 ms_step_start
instance : NoEx m_step_start := runN_noex _ _
theorem ok_step_start (T : Tx mg) (P_Net_wires : PrX P w K mg base "Net" "wires" "_wires") (T_Net : OC K mg "Net" ["_knots", "_wires"]) {f : Addr} {fd : FuncData} (Fd : FnP K "step_start" s_step_start f fd) : FnOk P w K mg base CX0 3 f fd ["net", "step"] (spM ⟨K, mg, tt⟩ 2 [] m_step_start) :=
  have nd := (sc_step_start).nd
  fnN (oz := []) Fd sc_step_start fun G cdv A outer s H E hr => (pms_cons (ow1 := []) (ow2 := []) (pmt_unp [2, 3] (pm_var 1) (pgs_cons (pg_name (i := 2) nd rfl (by first | exact .inl rfl | exact .inr rfl)) (pgs_cons (pg_name (i := 3) nd rfl (by first | exact .inl rfl | exact .inr rfl)) pgs_nil))) (pms_one (ow1 := []) (pmt_ret (pm_ixA (hu1 (room65 hr)) (pm_ixA (hu1 (room65 hr)) (pm_prop T_Net P_Net_wires (hr.mono (by decide)) (pm_var 0)) (pm_var 2)) (pm_if (pm_tcmp (bin_eq (room64 hr)) (pm_var 3) pm_int (nomark _)) pm_int pm_int)))))
theorem dn_step_start (T : Tx mg) (P_Net_wires : PrX P w K mg base "Net" "wires" "_wires") (T_Net : OC K mg "Net" ["_knots", "_wires"]) {f : Addr} {fd : FuncData} (Fd : FnP K "step_start" s_step_start f fd) (hm : mg "step_start" = some (.ref f)) : Dn P w K mg tt base CX0 "step_start" 3 2 [] m_step_start :=
  ⟨f, fd, ["net", "step"], ok_step_start T P_Net_wires T_Net Fd, hm, Fd.kp, Fd.bindsN fun _ _ _ _ _ _ us hl => match us, hl with | [_, _], _ => rfl⟩
theorem sc_is_loop : FnScope ["net", "value", "wires", "starts", "goals", "wire", "_", "step"] ["net", "value"] (defScope s_is_loop) := ⟨rfl, rfl, rfl, by decide +kernel, rfl, by decide +kernel, by decide +kernel⟩
def cE1_is_loop : Mo PV := (mDef 2 [] m_is_step (mrV (mVar 0) (mrV (mVar 7) mrNil)))
def cE2_is_loop : Mo PV := (mDef 2 [] m_step_start (mrV (mVar 0) (mrV (mVar 7) mrNil)))
def cE3_is_loop : Mo PV := (mDef 2 [] m_step_goal (mrV (mVar 0) (mrV (mVar 7) mrNil)))
def ms_is_loop : Ms := (mSeq (mExpr (mDef 1 [] m_check_net (mrV (mVar 0) mrNil))) (mSeq (mIfS (mOr (mNot (mTr (mCall gIsi (mCons (mVar 1) (mCons (mC (.ty "tuple")) mNil))))) (mNot (mTr (mVar 1)))) (mRet (mC (.bl false))) mNext) (mSeq (mIfS (mNot (mTr (mCall gAll (mCons (mLc [7] (tN 7) mYes cE1_is_loop (mIt (mVar 1))) mNil)))) (mRet (mC (.bl false))) mNext) (mSeq (mSet 2 (mLc [5, 6] (tT [5, 6]) mYes (mVar 5) (mIt (mVar 1)))) (mSeq (mSet 3 (mLc [7] (tN 7) mYes cE2_is_loop (mIt (mVar 1)))) (mSeq (mSet 4 (mLc [7] (tN 7) mYes cE3_is_loop (mIt (mVar 1)))) (mSeq (mIfS (mOr (mTB (mBin pNe (mOne pLenSet (mVar 2)) (mCall (gLenC "Net" "_wires") (mCons (mVar 2) mNil)))) (mTB (mBin pNe (mOne pLenSet (mVar 3)) (mCall (gLenC "Net" "_wires") (mCons (mVar 3) mNil))))) (mRet (mC (.bl false))) mNext) (mRet (mBin pEq (mVar 4) (mBin pAdd (mSl (mVar 3) (mPart (mC (.int 1))) mNo) (mSl (mVar 3) mNo (mPart (mC (.int 1))))))))))))))
def m_is_loop : List PV → Out PV := runE 8 ms_is_loop
instance : MayEx m_is_loop := ⟨trivial⟩
theorem ok_is_loop (T : Tx mg) (c_check_net : Dn P w K mg tt base (L2.CX P w) "check_net" 3 1 [] m_check_net) (c_is_step : Dn P w K mg tt base CX0 "is_step" 5 2 [] m_is_step) (c_step_goal : Dn P w K mg tt base CX0 "step_goal" 3 2 [] m_step_goal) (c_step_start : Dn P w K mg tt base CX0 "step_start" 3 2 [] m_step_start) (N_Net : LnX P w K mg base "Net" "_wires") (T_Net : OC K mg "Net" ["_knots", "_wires"]) {f : Addr} {fd : FuncData} (Fd : FnP K "is_loop" s_is_loop f fd) : FnOk P w K mg base (L2.CX P w) 6 f fd ["net", "value"] (spM ⟨K, mg, tt⟩ 2 [] m_is_loop) :=
  have nd := (sc_is_loop).nd
  fnE (oz := []) Fd sc_is_loop fun G cdv A outer s H E hr => (pms_cons (ow1 := []) (ow2 := []) (pmt_expr (pm_def c_check_net (hr.mono (by decide)) rfl (passE takesE (fun _ _ _ _ z => z)) (fun _ _ _ _ z => z) (pmr_v (pm_var 0) pmr_nil))) (pms_cons (ow1 := []) (ow2 := []) (pmt_if (PW.pt (pw_orM (pm_not (pm_tr (pm_callB co_isi rfl T.g_isinstance (by decide +kernel) (pma_cons (pm_var 1) (pma_cons (pm_ty rfl T.g_tuple (by decide +kernel)) pma_nil))))) (pw_or1 (pm_not (pm_tr (pm_var 1)))))) (pms_one (ow1 := []) (pmt_ret pm_bl)) (pms_nil)) (pms_cons (ow1 := []) (ow2 := []) (pmt_if (pm_not (pm_tr (pm_callB co_all rfl T.g_all (by decide +kernel) (pma_cons (pm_lc (own := [("step", 7)]) nd (pmi_seq (pm_var 1)) (blkOk_by (own := [("step", 7)]) (N := ["net", "value", "wires", "starts", "goals", "wire", "_", "step"]) (sc := defScope s_is_loop) (by decide +kernel)) (fun _ _ _ _ _ => (pg_name (i := 7) nd rfl (.inl rfl))) (fun _ _ _ _ _ _ => pmts_nil) (fun _ _ _ _ _ _ => (pm_def c_is_step (hr.mono (by decide)) rfl pass0E (fun _ _ _ _ z => z) (pmr_v (pm_var 0) (pmr_v (pm_var 7) pmr_nil)))) (fun _ => (tg_name 7))) pma_nil)))) (pms_one (ow1 := []) (pmt_ret pm_bl)) (pms_nil)) (pms_cons (ow1 := []) (ow2 := []) (pmt_setLc 2 (own := [("wire", 5), ("_", 6)]) nd (pmi_seq (pm_var 1)) (blkOk_by (own := [("wire", 5), ("_", 6)]) (N := ["net", "value", "wires", "starts", "goals", "wire", "_", "step"]) (sc := defScope s_is_loop) (by decide +kernel)) (fun _ _ _ _ _ => (pg_tup (n := 2) rfl (pgs_cons (pg_name (i := 5) nd rfl (.inl rfl)) (pgs_cons (pg_name (i := 6) nd rfl (.inl rfl)) pgs_nil)))) (fun _ _ _ _ _ _ => pmts_nil) (fun _ _ _ _ _ _ => (pm_var 5)) (fun _ => (tg_tup [5, 6])) (sw_true rfl rfl rfl (by decide +kernel))) (pms_cons (ow1 := []) (ow2 := []) (pmt_setLc 3 (own := [("step", 7)]) nd (pmi_seq (pm_var 1)) (blkOk_by (own := [("step", 7)]) (N := ["net", "value", "wires", "starts", "goals", "wire", "_", "step"]) (sc := defScope s_is_loop) (by decide +kernel)) (fun _ _ _ _ _ => (pg_name (i := 7) nd rfl (.inl rfl))) (fun _ _ _ _ _ _ => pmts_nil) (fun _ _ _ _ _ _ => (pm_def c_step_start (hr.mono (by decide)) rfl pass0E (fun _ _ _ _ z => z) (pmr_v (pm_var 0) (pmr_v (pm_var 7) pmr_nil)))) (fun _ => (tg_name 7)) (sw_true rfl rfl rfl (by decide +kernel))) (pms_cons (ow1 := []) (ow2 := []) (pmt_setLc 4 (own := [("step", 7)]) nd (pmi_seq (pm_var 1)) (blkOk_by (own := [("step", 7)]) (N := ["net", "value", "wires", "starts", "goals", "wire", "_", "step"]) (sc := defScope s_is_loop) (by decide +kernel)) (fun _ _ _ _ _ => (pg_name (i := 7) nd rfl (.inl rfl))) (fun _ _ _ _ _ _ => pmts_nil) (fun _ _ _ _ _ _ => (pm_def c_step_goal (hr.mono (by decide)) rfl pass0E (fun _ _ _ _ z => z) (pmr_v (pm_var 0) (pmr_v (pm_var 7) pmr_nil)))) (fun _ => (tg_name 7)) (sw_true rfl rfl rfl (by decide +kernel))) (pms_cons (ow1 := []) (ow2 := []) (pmt_if (PW.pt (pw_orM (pm_tcmp (bin_ne (room64 hr)) (pm_lenSet rfl T.g_len rfl T.g_set (pm_var 2)) (pm_callB (co_lenC T_Net N_Net (hr.mono (by decide))) rfl T.g_len (by decide +kernel) (pma_cons (pm_var 2) pma_nil)) (nomark _)) (pw_or1 (pm_tcmp (bin_ne (room64 hr)) (pm_lenSet rfl T.g_len rfl T.g_set (pm_var 3)) (pm_callB (co_lenC T_Net N_Net (hr.mono (by decide))) rfl T.g_len (by decide +kernel) (pma_cons (pm_var 3) pma_nil)) (nomark _))))) (pms_one (ow1 := []) (pmt_ret pm_bl)) (pms_nil)) (pms_one (ow1 := []) (pmt_ret (pm_cmp (bin_eq (room64 hr)) (pm_var 4) (pm_bin bin_add (pm_sl (pm_var 3) (pmo_some pm_int) pmo_none) (pm_sl (pm_var 3) pmo_none (pmo_some pm_int))) (nomark _)))))))))))
theorem dn_is_loop (T : Tx mg) (c_check_net : Dn P w K mg tt base (L2.CX P w) "check_net" 3 1 [] m_check_net) (c_is_step : Dn P w K mg tt base CX0 "is_step" 5 2 [] m_is_step) (c_step_goal : Dn P w K mg tt base CX0 "step_goal" 3 2 [] m_step_goal) (c_step_start : Dn P w K mg tt base CX0 "step_start" 3 2 [] m_step_start) (N_Net : LnX P w K mg base "Net" "_wires") (T_Net : OC K mg "Net" ["_knots", "_wires"]) {f : Addr} {fd : FuncData} (Fd : FnP K "is_loop" s_is_loop f fd) (hm : mg "is_loop" = some (.ref f)) : Dn P w K mg tt base (L2.CX P w) "is_loop" 6 2 [] m_is_loop :=
  ⟨f, fd, ["net", "value"], ok_is_loop T c_check_net c_is_step c_step_goal c_step_start N_Net T_Net Fd, hm, Fd.kp, Fd.bindsN fun _ _ _ _ _ _ us hl => match us, hl with | [_, _], _ => rfl⟩
theorem sc_check_cut : FnScope ["net", "value"] ["net", "value"] (defScope s_check_cut) := ⟨rfl, rfl, rfl, by decide +kernel, rfl, by decide +kernel, by decide +kernel⟩
def ms_check_cut : Ms := (mIfS (mNot (mTr (mDef 2 [] m_is_cut (mrV (mVar 0) (mrV (mVar 1) mrNil))))) (mRaise "InvalidOperation") mNext)
def m_check_cut : List PV → Out PV := runE 2 ms_check_cut
instance : MayEx m_check_cut := ⟨trivial⟩
theorem ok_check_cut (T : Tx mg) (c_is_cut : Dn P w K mg tt base (L2.CX P w) "is_cut" 5 2 [] m_is_cut) (x_InvalidOperation : XP K mg "InvalidOperation" "ValueError.__new__" PySem.HandSPX.veTail) {f : Addr} {fd : FuncData} (Fd : FnP K "check_cut" s_check_cut f fd) : FnOk P w K mg base (L2.CX P w) 6 f fd ["net", "value"] (spM ⟨K, mg, tt⟩ 2 [] m_check_cut) :=
  have nd := (sc_check_cut).nd
  fnE (oz := []) Fd sc_check_cut fun G cdv A outer s H E hr => (pms_one (ow1 := []) (pmt_if (pm_not (pm_tr (pm_def c_is_cut (hr.mono (by decide)) rfl (passE takesE (fun _ _ _ _ z => z)) (fun _ _ _ _ z => z) (pmr_v (pm_var 0) (pmr_v (pm_var 1) pmr_nil))))) (pms_one (ow1 := []) (pmt_raiseP PySem.F.excBase_ValueError x_InvalidOperation takesE rfl)) (pms_nil)))
theorem dn_check_cut (T : Tx mg) (c_is_cut : Dn P w K mg tt base (L2.CX P w) "is_cut" 5 2 [] m_is_cut) (x_InvalidOperation : XP K mg "InvalidOperation" "ValueError.__new__" PySem.HandSPX.veTail) {f : Addr} {fd : FuncData} (Fd : FnP K "check_cut" s_check_cut f fd) (hm : mg "check_cut" = some (.ref f)) : Dn P w K mg tt base (L2.CX P w) "check_cut" 6 2 [] m_check_cut :=
  ⟨f, fd, ["net", "value"], ok_check_cut T c_is_cut x_InvalidOperation Fd, hm, Fd.kp, Fd.bindsN fun _ _ _ _ _ _ us hl => match us, hl with | [_, _], _ => rfl⟩
theorem sc_drops_by : FnScope ["net", "heights", "tail", "head", "_"] ["net", "heights"] (defScope s_drops_by) := ⟨rfl, rfl, rfl, by decide +kernel, rfl, by decide +kernel, by decide +kernel⟩
def cE1_drops_by : Mo PV := (mBin (pI fun i j => i - j) (mBin pIxA (mVar 1) (mVar 2)) (mBin pIxA (mVar 1) (mVar 3)))
def ms_drops_by : Ms := (mRet (mCall gTuple (mCons (mLc [2, 3, 4] (tT [2, 3, 4]) mYes cE1_drops_by (mIt (mUn (gFld "Net" "_wires") (mVar 0)))) mNil)))
def m_drops_by : List PV → Out PV := runN 5 ms_drops_by
instance : NoEx m_drops_by := runN_noex _ _
theorem ok_drops_by (T : Tx mg) (P_Net_wires : PrX P w K mg base "Net" "wires" "_wires") (T_Net : OC K mg "Net" ["_knots", "_wires"]) {f : Addr} {fd : FuncData} (Fd : FnP K "drops_by" s_drops_by f fd) : FnOk P w K mg base CX0 3 f fd ["net", "heights"] (spM ⟨K, mg, tt⟩ 2 [] m_drops_by) :=
  have nd := (sc_drops_by).nd
  fnN (oz := []) Fd sc_drops_by fun G cdv A outer s H E hr => (pms_one (ow1 := []) (pmt_ret (pm_callTy co_tuple rfl T.g_tuple (by decide +kernel) (pma_cons (pm_lc (own := [("tail", 2), ("head", 3), ("_", 4)]) nd (pmi_seq (pm_prop T_Net P_Net_wires (hr.mono (by decide)) (pm_var 0))) (blkOk_by (own := [("tail", 2), ("head", 3), ("_", 4)]) (N := ["net", "heights", "tail", "head", "_"]) (sc := defScope s_drops_by) (by decide +kernel)) (fun _ _ _ _ _ => (pg_tup (n := 3) rfl (pgs_cons (pg_name (i := 2) nd rfl (.inl rfl)) (pgs_cons (pg_name (i := 3) nd rfl (.inl rfl)) (pgs_cons (pg_name (i := 4) nd rfl (.inl rfl)) pgs_nil))))) (fun _ _ _ _ _ _ => pmts_nil) (fun _ _ _ _ _ _ => (pm_bin bin_sub (pm_ixA (hu1 (room65 hr)) (pm_var 1) (pm_var 2)) (pm_ixA (hu1 (room65 hr)) (pm_var 1) (pm_var 3)))) (fun _ => (tg_tup [2, 3, 4]))) pma_nil))))
theorem dn_drops_by (T : Tx mg) (P_Net_wires : PrX P w K mg base "Net" "wires" "_wires") (T_Net : OC K mg "Net" ["_knots", "_wires"]) {f : Addr} {fd : FuncData} (Fd : FnP K "drops_by" s_drops_by f fd) (hm : mg "drops_by" = some (.ref f)) : Dn P w K mg tt base CX0 "drops_by" 3 2 [] m_drops_by :=
  ⟨f, fd, ["net", "heights"], ok_drops_by T P_Net_wires T_Net Fd, hm, Fd.kp, Fd.bindsN fun _ _ _ _ _ _ us hl => match us, hl with | [_, _], _ => rfl⟩
theorem sc_heights_by : FnScope ["net", "cut", "knot"] ["net", "cut"] (defScope s_heights_by) := ⟨rfl, rfl, rfl, by decide +kernel, rfl, by decide +kernel, by decide +kernel⟩
def cE1_heights_by : Mo PV := (mIf (mTB (mBin (pInA false) (mVar 2) (mVar 1))) (mC (.int 1)) (mC (.int 0)))
def ms_heights_by : Ms := (mRet (mCall gTuple (mCons (mLc [2] (tN 2) mYes cE1_heights_by (mItA iRange1 (mCons (mUn (gFld "Net" "_knots") (mVar 0)) mNil))) mNil)))
def m_heights_by : List PV → Out PV := runN 3 ms_heights_by
instance : NoEx m_heights_by := runN_noex _ _
theorem ok_heights_by (T : Tx mg) (P_Net_knots : PrX P w K mg base "Net" "knots" "_knots") (T_Net : OC K mg "Net" ["_knots", "_wires"]) {f : Addr} {fd : FuncData} (Fd : FnP K "heights_by" s_heights_by f fd) : FnOk P w K mg base CX0 3 f fd ["net", "cut"] (spM ⟨K, mg, tt⟩ 2 [] m_heights_by) :=
  have nd := (sc_heights_by).nd
  fnN (oz := []) Fd sc_heights_by fun G cdv A outer s H E hr => (pms_one (ow1 := []) (pmt_ret (pm_callTy co_tuple rfl T.g_tuple (by decide +kernel) (pma_cons (pm_lc (own := [("knot", 2)]) nd (pmi_range1 rfl T.g_range (pma_cons (pm_prop T_Net P_Net_knots (hr.mono (by decide)) (pm_var 0)) pma_nil)) (blkOk_by (own := [("knot", 2)]) (N := ["net", "cut", "knot"]) (sc := defScope s_heights_by) (by decide +kernel)) (fun _ _ _ _ _ => (pg_name (i := 2) nd rfl (.inl rfl))) (fun _ _ _ _ _ _ => pmts_nil) (fun _ _ _ _ _ _ => (pm_if (pm_tcmp (bin_inA (room65 hr)) (pm_var 2) (pm_var 1) rfl) pm_int pm_int)) (fun _ => (tg_name 2))) pma_nil))))
theorem dn_heights_by (T : Tx mg) (P_Net_knots : PrX P w K mg base "Net" "knots" "_knots") (T_Net : OC K mg "Net" ["_knots", "_wires"]) {f : Addr} {fd : FuncData} (Fd : FnP K "heights_by" s_heights_by f fd) (hm : mg "heights_by" = some (.ref f)) : Dn P w K mg tt base CX0 "heights_by" 3 2 [] m_heights_by :=
  ⟨f, fd, ["net", "cut"], ok_heights_by T P_Net_knots T_Net Fd, hm, Fd.kp, Fd.bindsN fun _ _ _ _ _ _ us hl => match us, hl with | [_, _], _ => rfl⟩
theorem sc_cut_wires : FnScope ["net", "cut", "tensions", "k"] ["net", "cut"] (defScope s_cut_wires) := ⟨rfl, rfl, rfl, by decide +kernel, rfl, by decide +kernel, by decide +kernel⟩
def cT1_cut_wires : Mo Bool := (mTB (mBin pEq (mBin pIxA (mVar 2) (mVar 3)) (mNeg (mC (.int 1)))))
def cT2_cut_wires : Mo Bool := (mTB (mBin pEq (mBin pIxA (mVar 2) (mVar 3)) (mC (.int 1))))
def ms_cut_wires : Ms := (mSeq (mExpr (mDef 1 [] m_check_net (mrV (mVar 0) mrNil))) (mSeq (mExpr (mDef 2 [] m_check_cut (mrV (mVar 0) (mrV (mVar 1) mrNil)))) (mSeq (mSet 2 (mDef 2 [] m_drops_by (mrV (mVar 0) (mrV (mDef 2 [] m_heights_by (mrV (mVar 0) (mrV (mVar 1) mrNil))) mrNil)))) (mRet (mTup (mCons (mCall gTuple (mCons (mLc [3] (tN 3) cT2_cut_wires (mVar 3) (mItA iRange1 (mCons (mCall (gLenC "Net" "_wires") (mCons (mVar 2) mNil)) mNil))) mNil)) (mCons (mCall gTuple (mCons (mLc [3] (tN 3) cT1_cut_wires (mVar 3) (mItA iRange1 (mCons (mCall (gLenC "Net" "_wires") (mCons (mVar 2) mNil)) mNil))) mNil)) mNil)))))))
def m_cut_wires : List PV → Out PV := runE 4 ms_cut_wires
instance : MayEx m_cut_wires := ⟨trivial⟩
theorem ok_cut_wires (T : Tx mg) (c_check_cut : Dn P w K mg tt base (L2.CX P w) "check_cut" 6 2 [] m_check_cut) (c_check_net : Dn P w K mg tt base (L2.CX P w) "check_net" 3 1 [] m_check_net) (c_drops_by : Dn P w K mg tt base CX0 "drops_by" 3 2 [] m_drops_by) (c_heights_by : Dn P w K mg tt base CX0 "heights_by" 3 2 [] m_heights_by) (N_Net : LnX P w K mg base "Net" "_wires") (T_Net : OC K mg "Net" ["_knots", "_wires"]) {f : Addr} {fd : FuncData} (Fd : FnP K "cut_wires" s_cut_wires f fd) : FnOk P w K mg base (L2.CX P w) 7 f fd ["net", "cut"] (spM ⟨K, mg, tt⟩ 2 [] m_cut_wires) :=
  have nd := (sc_cut_wires).nd
  fnE (oz := []) Fd sc_cut_wires fun G cdv A outer s H E hr => (pms_cons (ow1 := []) (ow2 := []) (pmt_expr (pm_def c_check_net (hr.mono (by decide)) rfl (passE takesE (fun _ _ _ _ z => z)) (fun _ _ _ _ z => z) (pmr_v (pm_var 0) pmr_nil))) (pms_cons (ow1 := []) (ow2 := []) (pmt_expr (pm_def c_check_cut (hr.mono (by decide)) rfl (passE takesE (fun _ _ _ _ z => z)) (fun _ _ _ _ z => z) (pmr_v (pm_var 0) (pmr_v (pm_var 1) pmr_nil)))) (pms_cons (ow1 := []) (ow2 := []) (pmt_set 2 nd (pm_def c_drops_by (hr.mono (by decide)) rfl pass0E (fun _ _ _ _ z => z) (pmr_v (pm_var 0) (pmr_v (pm_def c_heights_by (hr.mono (by decide)) rfl pass0E (fun _ _ _ _ z => z) (pmr_v (pm_var 0) (pmr_v (pm_var 1) pmr_nil))) pmr_nil)))) (pms_one (ow1 := []) (pmt_ret (pm_tup (pma_cons (pm_callTy co_tuple rfl T.g_tuple (by decide +kernel) (pma_cons (pm_lc (own := [("k", 3)]) nd (pmi_range1 rfl T.g_range (pma_cons (pm_callB (co_lenC T_Net N_Net (hr.mono (by decide))) rfl T.g_len (by decide +kernel) (pma_cons (pm_var 2) pma_nil)) pma_nil)) (blkOk_by (own := [("k", 3)]) (N := ["net", "cut", "tensions", "k"]) (sc := defScope s_cut_wires) (by decide +kernel)) (fun _ _ _ _ _ => (pg_name (i := 3) nd rfl (.inl rfl))) (fun _ _ _ _ _ _ => (pmts_one (pm_tcmp (bin_eq (room64 hr)) (pm_ixA (hu1 (room65 hr)) (pm_var 2) (pm_var 3)) pm_int (nomark _)))) (fun _ _ _ _ _ _ => (pm_var 3)) (fun _ => (tg_name 3))) pma_nil)) (pma_cons (pm_callTy co_tuple rfl T.g_tuple (by decide +kernel) (pma_cons (pm_lc (own := [("k", 3)]) nd (pmi_range1 rfl T.g_range (pma_cons (pm_callB (co_lenC T_Net N_Net (hr.mono (by decide))) rfl T.g_len (by decide +kernel) (pma_cons (pm_var 2) pma_nil)) pma_nil)) (blkOk_by (own := [("k", 3)]) (N := ["net", "cut", "tensions", "k"]) (sc := defScope s_cut_wires) (by decide +kernel)) (fun _ _ _ _ _ => (pg_name (i := 3) nd rfl (.inl rfl))) (fun _ _ _ _ _ _ => (pmts_one (pm_tcmp (bin_eq (room64 hr)) (pm_ixA (hu1 (room65 hr)) (pm_var 2) (pm_var 3)) (pm_neg pm_int) (nomark _)))) (fun _ _ _ _ _ _ => (pm_var 3)) (fun _ => (tg_name 3))) pma_nil)) pma_nil))))))))
theorem dn_cut_wires (T : Tx mg) (c_check_cut : Dn P w K mg tt base (L2.CX P w) "check_cut" 6 2 [] m_check_cut) (c_check_net : Dn P w K mg tt base (L2.CX P w) "check_net" 3 1 [] m_check_net) (c_drops_by : Dn P w K mg tt base CX0 "drops_by" 3 2 [] m_drops_by) (c_heights_by : Dn P w K mg tt base CX0 "heights_by" 3 2 [] m_heights_by) (N_Net : LnX P w K mg base "Net" "_wires") (T_Net : OC K mg "Net" ["_knots", "_wires"]) {f : Addr} {fd : FuncData} (Fd : FnP K "cut_wires" s_cut_wires f fd) (hm : mg "cut_wires" = some (.ref f)) : Dn P w K mg tt base (L2.CX P w) "cut_wires" 7 2 [] m_cut_wires :=
  ⟨f, fd, ["net", "cut"], ok_cut_wires T c_check_cut c_check_net c_drops_by c_heights_by N_Net T_Net Fd, hm, Fd.kp, Fd.bindsN fun _ _ _ _ _ _ us hl => match us, hl with | [_, _], _ => rfl⟩
theorem sc_check_knot : FnScope ["net", "value"] ["net", "value"] (defScope s_check_knot) := ⟨rfl, rfl, rfl, by decide +kernel, rfl, by decide +kernel, by decide +kernel⟩
def ms_check_knot : Ms := (mIfS (mNot (mTr (mDef 2 [] m_is_index (mrV (mVar 1) (mrV (mUn (gFld "Net" "_knots") (mVar 0)) mrNil))))) (mRaise1 "InvalidNumber" "given" (mVar 1)) mNext)
def m_check_knot : List PV → Out PV := runE 2 ms_check_knot
instance : MayEx m_check_knot := ⟨trivial⟩
theorem ok_check_knot (T : Tx mg) (c_is_index : Dn P w K mg tt base CX0 "is_index" 4 2 [] m_is_index) (P_Net_knots : PrX P w K mg base "Net" "knots" "_knots") (T_Net : OC K mg "Net" ["_knots", "_wires"]) (x_InvalidNumber : XI K mg "InvalidNumber" "given" "IndexError.__new__" ieTail "InvalidNumber.__init__" i_InvalidNumber) {f : Addr} {fd : FuncData} (Fd : FnP K "check_knot" s_check_knot f fd) : FnOk P w K mg base (L2.CX P w) 5 f fd ["net", "value"] (spM ⟨K, mg, tt⟩ 2 [] m_check_knot) :=
  have nd := (sc_check_knot).nd
  fnE (oz := []) Fd sc_check_knot fun G cdv A outer s H E hr => (pms_one (ow1 := []) (pmt_if (pm_not (pm_tr (pm_def c_is_index (hr.mono (by decide)) rfl pass0E (fun _ _ _ _ z => z) (pmr_v (pm_var 1) (pmr_v (pm_prop T_Net P_Net_knots (hr.mono (by decide)) (pm_var 0)) pmr_nil))))) (pms_one (ow1 := []) (pmt_raise1 (.of PySem.F.excBase_IndexError) PySem.F.store_IndexError x_InvalidNumber.xg x_InvalidNumber.fd.choose_spec sc_iInvalidNumber (x_InvalidNumber.fd.choose_spec.bindsN fun _ _ _ _ _ _ us hl => match us, hl with | [_, _], _ => rfl) (hr.mono (by decide)) x_InvalidNumber.g takesE rfl (pm_var 1) rfl rfl rfl rfl (.inl rfl) (.inl rfl) (fun _ => rfl))) (pms_nil)))
theorem dn_check_knot (T : Tx mg) (c_is_index : Dn P w K mg tt base CX0 "is_index" 4 2 [] m_is_index) (P_Net_knots : PrX P w K mg base "Net" "knots" "_knots") (T_Net : OC K mg "Net" ["_knots", "_wires"]) (x_InvalidNumber : XI K mg "InvalidNumber" "given" "IndexError.__new__" ieTail "InvalidNumber.__init__" i_InvalidNumber) {f : Addr} {fd : FuncData} (Fd : FnP K "check_knot" s_check_knot f fd) (hm : mg "check_knot" = some (.ref f)) : Dn P w K mg tt base (L2.CX P w) "check_knot" 5 2 [] m_check_knot :=
  ⟨f, fd, ["net", "value"], ok_check_knot T c_is_index P_Net_knots T_Net x_InvalidNumber Fd, hm, Fd.kp, Fd.bindsN fun _ _ _ _ _ _ us hl => match us, hl with | [_, _], _ => rfl⟩
theorem sc_check_wire : FnScope ["net", "value"] ["net", "value"] (defScope s_check_wire) := ⟨rfl, rfl, rfl, by decide +kernel, rfl, by decide +kernel, by decide +kernel⟩
def ms_check_wire : Ms := (mIfS (mNot (mTr (mDef 2 [] m_is_index (mrV (mVar 1) (mrV (mCall (gLenC "Net" "_wires") (mCons (mVar 0) mNil)) mrNil))))) (mRaise1 "InvalidNumber" "given" (mVar 1)) mNext)
def m_check_wire : List PV → Out PV := runE 2 ms_check_wire
instance : MayEx m_check_wire := ⟨trivial⟩
theorem ok_check_wire (T : Tx mg) (c_is_index : Dn P w K mg tt base CX0 "is_index" 4 2 [] m_is_index) (N_Net : LnX P w K mg base "Net" "_wires") (T_Net : OC K mg "Net" ["_knots", "_wires"]) (x_InvalidNumber : XI K mg "InvalidNumber" "given" "IndexError.__new__" ieTail "InvalidNumber.__init__" i_InvalidNumber) {f : Addr} {fd : FuncData} (Fd : FnP K "check_wire" s_check_wire f fd) : FnOk P w K mg base (L2.CX P w) 5 f fd ["net", "value"] (spM ⟨K, mg, tt⟩ 2 [] m_check_wire) :=
  have nd := (sc_check_wire).nd
  fnE (oz := []) Fd sc_check_wire fun G cdv A outer s H E hr => (pms_one (ow1 := []) (pmt_if (pm_not (pm_tr (pm_def c_is_index (hr.mono (by decide)) rfl pass0E (fun _ _ _ _ z => z) (pmr_v (pm_var 1) (pmr_v (pm_callB (co_lenC T_Net N_Net (hr.mono (by decide))) rfl T.g_len (by decide +kernel) (pma_cons (pm_var 0) pma_nil)) pmr_nil))))) (pms_one (ow1 := []) (pmt_raise1 (.of PySem.F.excBase_IndexError) PySem.F.store_IndexError x_InvalidNumber.xg x_InvalidNumber.fd.choose_spec sc_iInvalidNumber (x_InvalidNumber.fd.choose_spec.bindsN fun _ _ _ _ _ _ us hl => match us, hl with | [_, _], _ => rfl) (hr.mono (by decide)) x_InvalidNumber.g takesE rfl (pm_var 1) rfl rfl rfl rfl (.inl rfl) (.inl rfl) (fun _ => rfl))) (pms_nil)))
theorem dn_check_wire (T : Tx mg) (c_is_index : Dn P w K mg tt base CX0 "is_index" 4 2 [] m_is_index) (N_Net : LnX P w K mg base "Net" "_wires") (T_Net : OC K mg "Net" ["_knots", "_wires"]) (x_InvalidNumber : XI K mg "InvalidNumber" "given" "IndexError.__new__" ieTail "InvalidNumber.__init__" i_InvalidNumber) {f : Addr} {fd : FuncData} (Fd : FnP K "check_wire" s_check_wire f fd) (hm : mg "check_wire" = some (.ref f)) : Dn P w K mg tt base (L2.CX P w) "check_wire" 5 2 [] m_check_wire :=
  ⟨f, fd, ["net", "value"], ok_check_wire T c_is_index N_Net T_Net x_InvalidNumber Fd, hm, Fd.kp, Fd.bindsN fun _ _ _ _ _ _ us hl => match us, hl with | [_, _], _ => rfl⟩
theorem sc_is_wire : FnScope ["knots", "value", "tail", "head", "rise"] ["knots", "value"] (defScope s_is_wire) := ⟨rfl, rfl, rfl, by decide +kernel, rfl, by decide +kernel, by decide +kernel⟩
def ms_is_wire : Ms := (mSeq (mIfS (mNot (mTr (mDef 2 [] m_is_tuple_of (mrV (mVar 1) (mrV (mC (.int 3)) mrNil))))) (mRet (mC (.bl false))) mNext) (mSeq (mUnp [2, 3, 4] (mVar 1)) (mSeq (mIfS (mOr (mNot (mTr (mDef 2 [] m_is_index (mrV (mVar 2) (mrV (mVar 0) mrNil))))) (mOr (mNot (mTr (mDef 2 [] m_is_index (mrV (mVar 3) (mrV (mVar 0) mrNil))))) (mTB (mBin pEq (mVar 2) (mVar 3))))) (mRet (mC (.bl false))) mNext) (mRet (mAndV (mDef 1 [] m_is_rise (mrV (mVar 4) mrNil)) (mAndV (mBin (pB fun i j => decide (i ≤ j)) (mCall (gLenC "Net" "_wires") (mCons (mDef 1 [] m_corners_in (mrV (mVar 4) mrNil)) mNil)) (mC (.int 40))) (mBin (pB fun i j => decide (i ≤ j)) (mDef 1 [] m_size_of (mrV (mVar 4) mrNil)) (mC (.int 1000000000000)))))))))
def m_is_wire : List PV → Out PV := runN 5 ms_is_wire
instance : NoEx m_is_wire := runN_noex _ _
theorem ok_is_wire (T : Tx mg) (c_corners_in : Dn P w K mg tt base CX0 "corners_in" 3 1 [] m_corners_in) (c_is_index : Dn P w K mg tt base CX0 "is_index" 4 2 [] m_is_index) (c_is_rise : Dn P w K mg tt base CX0 "is_rise" 7 1 [] m_is_rise) (c_is_tuple_of : Dn P w K mg tt base CX0 "is_tuple_of" 3 2 [] m_is_tuple_of) (c_size_of : Dn P w K mg tt base CX0 "size_of" 3 1 [] m_size_of) (N_Net : LnX P w K mg base "Net" "_wires") (T_Net : OC K mg "Net" ["_knots", "_wires"]) {f : Addr} {fd : FuncData} (Fd : FnP K "is_wire" s_is_wire f fd) : FnOk P w K mg base CX0 8 f fd ["knots", "value"] (spM ⟨K, mg, tt⟩ 2 [] m_is_wire) :=
  have nd := (sc_is_wire).nd
  fnN (oz := []) Fd sc_is_wire fun G cdv A outer s H E hr => (pms_cons (ow1 := []) (ow2 := []) (pmt_if (pm_not (pm_tr (pm_def c_is_tuple_of (hr.mono (by decide)) rfl pass0 (fun _ _ _ _ z => z) (pmr_v (pm_var 1) (pmr_v pm_int pmr_nil))))) (pms_one (ow1 := []) (pmt_ret pm_bl)) (pms_nil)) (pms_cons (ow1 := []) (ow2 := []) (pmt_unp [2, 3, 4] (pm_var 1) (pgs_cons (pg_name (i := 2) nd rfl (by first | exact .inl rfl | exact .inr rfl)) (pgs_cons (pg_name (i := 3) nd rfl (by first | exact .inl rfl | exact .inr rfl)) (pgs_cons (pg_name (i := 4) nd rfl (by first | exact .inl rfl | exact .inr rfl)) pgs_nil)))) (pms_cons (ow1 := []) (ow2 := []) (pmt_if (PW.pt (pw_orM (pm_not (pm_tr (pm_def c_is_index (hr.mono (by decide)) rfl pass0 (fun _ _ _ _ z => z) (pmr_v (pm_var 2) (pmr_v (pm_var 0) pmr_nil))))) (pw_orM (pm_not (pm_tr (pm_def c_is_index (hr.mono (by decide)) rfl pass0 (fun _ _ _ _ z => z) (pmr_v (pm_var 3) (pmr_v (pm_var 0) pmr_nil))))) (pw_or1 (pm_tcmp (bin_eq (room64 hr)) (pm_var 2) (pm_var 3) (nomark _)))))) (pms_one (ow1 := []) (pmt_ret pm_bl)) (pms_nil)) (pms_one (ow1 := []) (pmt_ret (pm_andV (pm_def c_is_rise (hr.mono (by decide)) rfl pass0 (fun _ _ _ _ z => z) (pmr_v (pm_var 4) pmr_nil)) (pm_andV (pm_cmp bin_le (pm_callB (co_lenC T_Net N_Net (hr.mono (by decide))) rfl T.g_len (by decide +kernel) (pma_cons (pm_def c_corners_in (hr.mono (by decide)) rfl pass0 (fun _ _ _ _ z => z) (pmr_v (pm_var 4) pmr_nil)) pma_nil)) (pm_glE rfl T.g_MOST_TURNS) (nomark _)) (pe_one (pm_cmp bin_le (pm_def c_size_of (hr.mono (by decide)) rfl pass0 (fun _ _ _ _ z => z) (pmr_v (pm_var 4) pmr_nil)) (pm_glE rfl T.g_NEAR) (nomark _))))))))))
theorem dn_is_wire (T : Tx mg) (c_corners_in : Dn P w K mg tt base CX0 "corners_in" 3 1 [] m_corners_in) (c_is_index : Dn P w K mg tt base CX0 "is_index" 4 2 [] m_is_index) (c_is_rise : Dn P w K mg tt base CX0 "is_rise" 7 1 [] m_is_rise) (c_is_tuple_of : Dn P w K mg tt base CX0 "is_tuple_of" 3 2 [] m_is_tuple_of) (c_size_of : Dn P w K mg tt base CX0 "size_of" 3 1 [] m_size_of) (N_Net : LnX P w K mg base "Net" "_wires") (T_Net : OC K mg "Net" ["_knots", "_wires"]) {f : Addr} {fd : FuncData} (Fd : FnP K "is_wire" s_is_wire f fd) (hm : mg "is_wire" = some (.ref f)) : Dn P w K mg tt base CX0 "is_wire" 8 2 [] m_is_wire :=
  ⟨f, fd, ["knots", "value"], ok_is_wire T c_corners_in c_is_index c_is_rise c_is_tuple_of c_size_of N_Net T_Net Fd, hm, Fd.kp, Fd.bindsN fun _ _ _ _ _ _ us hl => match us, hl with | [_, _], _ => rfl⟩
theorem sc_are_net_parts : FnScope ["knots", "wires", "wire"] ["knots", "wires"] (defScope s_are_net_parts) := ⟨rfl, rfl, rfl, by decide +kernel, rfl, by decide +kernel, by decide +kernel⟩
def cE1_are_net_parts : Mo PV := (mDef 2 [] m_is_wire (mrV (mVar 0) (mrV (mVar 2) mrNil)))
def ms_are_net_parts : Ms := (mSeq (mIfS (mOr (mNot (mTr (mDef 1 [] m_is_whole (mrV (mVar 0) mrNil)))) (mNot (mTB (mChain (pB fun i j => decide (i ≤ j)) (pB fun i j => decide (i ≤ j)) (mC (.int 1)) (mVar 0) (mC (.int 12)))))) (mRet (mC (.bl false))) mNext) (mSeq (mIfS (mOr (mNot (mTr (mCall gIsi (mCons (mVar 1) (mCons (mC (.ty "tuple")) mNil))))) (mTB (mBin (pB fun i j => decide (j < i)) (mCall (gLenC "Net" "_wires") (mCons (mVar 1) mNil)) (mC (.int 24))))) (mRet (mC (.bl false))) mNext) (mRet (mCall gAll (mCons (mLc [2] (tN 2) mYes cE1_are_net_parts (mIt (mVar 1))) mNil)))))
def m_are_net_parts : List PV → Out PV := runN 3 ms_are_net_parts
instance : NoEx m_are_net_parts := runN_noex _ _
theorem ok_are_net_parts (T : Tx mg) (c_is_whole : Dn P w K mg tt base CX0 "is_whole" 3 1 [] m_is_whole) (c_is_wire : Dn P w K mg tt base CX0 "is_wire" 8 2 [] m_is_wire) (N_Net : LnX P w K mg base "Net" "_wires") (T_Net : OC K mg "Net" ["_knots", "_wires"]) {f : Addr} {fd : FuncData} (Fd : FnP K "are_net_parts" s_are_net_parts f fd) : FnOk P w K mg base CX0 9 f fd ["knots", "wires"] (spM ⟨K, mg, tt⟩ 2 [] m_are_net_parts) :=
  have nd := (sc_are_net_parts).nd
  fnN (oz := []) Fd sc_are_net_parts fun G cdv A outer s H E hr => (pms_cons (ow1 := []) (ow2 := []) (pmt_if (PW.pt (pw_orM (pm_not (pm_tr (pm_def c_is_whole (hr.mono (by decide)) rfl pass0 (fun _ _ _ _ z => z) (pmr_v (pm_var 0) pmr_nil)))) (pw_or1 (pm_not (pm_tchain bin_le bin_le pm_int (pm_var 0) (pm_glE rfl T.g_MOST_KNOTS)))))) (pms_one (ow1 := []) (pmt_ret pm_bl)) (pms_nil)) (pms_cons (ow1 := []) (ow2 := []) (pmt_if (PW.pt (pw_orM (pm_not (pm_tr (pm_callB co_isi rfl T.g_isinstance (by decide +kernel) (pma_cons (pm_var 1) (pma_cons (pm_ty rfl T.g_tuple (by decide +kernel)) pma_nil))))) (pw_or1 (pm_tcmp bin_gt (pm_callB (co_lenC T_Net N_Net (hr.mono (by decide))) rfl T.g_len (by decide +kernel) (pma_cons (pm_var 1) pma_nil)) (pm_glE rfl T.g_MOST_WIRES) (nomark _))))) (pms_one (ow1 := []) (pmt_ret pm_bl)) (pms_nil)) (pms_one (ow1 := []) (pmt_ret (pm_callB co_all rfl T.g_all (by decide +kernel) (pma_cons (pm_lc (own := [("wire", 2)]) nd (pmi_seq (pm_var 1)) (blkOk_by (own := [("wire", 2)]) (N := ["knots", "wires", "wire"]) (sc := defScope s_are_net_parts) (by decide +kernel)) (fun _ _ _ _ _ => (pg_name (i := 2) nd rfl (.inl rfl))) (fun _ _ _ _ _ _ => pmts_nil) (fun _ _ _ _ _ _ => (pm_def c_is_wire (hr.mono (by decide)) rfl pass0 (fun _ _ _ _ z => z) (pmr_v (pm_var 0) (pmr_v (pm_var 2) pmr_nil)))) (fun _ => (tg_name 2))) pma_nil))))))
theorem dn_are_net_parts (T : Tx mg) (c_is_whole : Dn P w K mg tt base CX0 "is_whole" 3 1 [] m_is_whole) (c_is_wire : Dn P w K mg tt base CX0 "is_wire" 8 2 [] m_is_wire) (N_Net : LnX P w K mg base "Net" "_wires") (T_Net : OC K mg "Net" ["_knots", "_wires"]) {f : Addr} {fd : FuncData} (Fd : FnP K "are_net_parts" s_are_net_parts f fd) (hm : mg "are_net_parts" = some (.ref f)) : Dn P w K mg tt base CX0 "are_net_parts" 9 2 [] m_are_net_parts :=
  ⟨f, fd, ["knots", "wires"], ok_are_net_parts T c_is_whole c_is_wire N_Net T_Net Fd, hm, Fd.kp, Fd.bindsN fun _ _ _ _ _ _ us hl => match us, hl with | [_, _], _ => rfl⟩
theorem sc_surplus_by : FnScope ["net", "currents", "more", "wire", "tail", "head", "_"] ["net", "currents"] (defScope s_surplus_by) := ⟨rfl, rfl, rfl, by decide +kernel, rfl, by decide +kernel, by decide +kernel⟩
def lB1_surplus_by : Ms := (mSeq (mAugIx (fun i j => i - j) 2 (mVar 4) (mBin pIxA (mVar 1) (mVar 3))) (mAugIx (fun i j => i + j) 2 (mVar 5) (mBin pIxA (mVar 1) (mVar 3))))
def ms_surplus_by : Ms := (mSeq (mSetO 2 (mBin pRepL (mLst (mCons (mC (.int 0)) mNil)) (mUn (gFld "Net" "_knots") (mVar 0)))) (mSeq (mFor (mItA iEnumM (mCons (mUn (gFld "Net" "_wires") (mVar 0)) mNil)) (tP (tN 3) (tT [4, 5, 6])) lB1_surplus_by) (mRet (mCall gTuple (mCons (mVar 2) mNil)))))
def m_surplus_by : List PV → Out PV := runN 7 ms_surplus_by
instance : NoEx m_surplus_by := runN_noex _ _
theorem ok_surplus_by (T : Tx mg) (P_Net_knots : PrX P w K mg base "Net" "knots" "_knots") (P_Net_wires : PrX P w K mg base "Net" "wires" "_wires") (T_Net : OC K mg "Net" ["_knots", "_wires"]) {f : Addr} {fd : FuncData} (Fd : FnP K "surplus_by" s_surplus_by f fd) : FnOk P w K mg base CX0 3 f fd ["net", "currents"] (spM ⟨K, mg, tt⟩ 2 [] m_surplus_by) :=
  have nd := (sc_surplus_by).nd
  fnN (oz := []) Fd sc_surplus_by fun G cdv A outer s H E hr => (pms_cons (ow1 := [2]) (ow2 := [2]) (pmt_setO 2 (ow' := [2]) nd (pmf_bin binF_repL (pm_lst (pma_cons pm_int pma_nil)) (pm_prop T_Net P_Net_knots (hr.mono (by decide)) (pm_var 0)))) (pms_cons (ow1 := [2]) (ow2 := []) (pmt_for PassesOwn.never (pmi_enum rfl T.g_enumerate (pma_cons (pm_prop T_Net P_Net_wires (hr.mono (by decide)) (pm_var 0)) pma_nil)) (pg_tup (n := 2) rfl (pgs_cons (pg_name (i := 3) nd rfl (by first | exact .inl rfl | exact .inr rfl)) (pgs_cons (pg_tup (n := 3) rfl (pgs_cons (pg_name (i := 4) nd rfl (by first | exact .inl rfl | exact .inr rfl)) (pgs_cons (pg_name (i := 5) nd rfl (by first | exact .inl rfl | exact .inr rfl)) (pgs_cons (pg_name (i := 6) nd rfl (by first | exact .inl rfl | exact .inr rfl)) pgs_nil)))) pgs_nil))) (tg_two (tg_name 3) (tg_tup [4, 5, 6])) (pms_cons (ow1 := [2]) (ow2 := [2]) (pmt_augIx (fun i j => i - j) 2 ip_sub (pm_var 4) (pm_ixA (hu1 (room65 hr)) (pm_var 1) (pm_var 3))) (pms_one (ow1 := [2]) (pmt_augIx (fun i j => i + j) 2 ip_add (pm_var 5) (pm_ixA (hu1 (room65 hr)) (pm_var 1) (pm_var 3)))))) (pms_one (ow1 := []) (pmt_ret (pm_callTy co_tuple rfl T.g_tuple (by decide +kernel) (pma_cons (pm_var 2) pma_nil))))))
theorem dn_surplus_by (T : Tx mg) (P_Net_knots : PrX P w K mg base "Net" "knots" "_knots") (P_Net_wires : PrX P w K mg base "Net" "wires" "_wires") (T_Net : OC K mg "Net" ["_knots", "_wires"]) {f : Addr} {fd : FuncData} (Fd : FnP K "surplus_by" s_surplus_by f fd) (hm : mg "surplus_by" = some (.ref f)) : Dn P w K mg tt base CX0 "surplus_by" 3 2 [] m_surplus_by :=
  ⟨f, fd, ["net", "currents"], ok_surplus_by T P_Net_knots P_Net_wires T_Net Fd, hm, Fd.kp, Fd.bindsN fun _ _ _ _ _ _ us hl => match us, hl with | [_, _], _ => rfl⟩
theorem sc_currents_by : FnScope ["net", "loop", "currents", "wire", "way"] ["net", "loop"] (defScope s_currents_by) := ⟨rfl, rfl, rfl, by decide +kernel, rfl, by decide +kernel, by decide +kernel⟩
def lB1_currents_by : Ms := (mSetIxA 2 (mVar 3) (mVar 4))
def ms_currents_by : Ms := (mSeq (mSetO 2 (mBin pRepL (mLst (mCons (mC (.int 0)) mNil)) (mCall (gLenC "Net" "_wires") (mCons (mVar 0) mNil)))) (mSeq (mFor (mIt (mVar 1)) (tT [3, 4]) lB1_currents_by) (mRet (mCall gTuple (mCons (mVar 2) mNil)))))
def m_currents_by : List PV → Out PV := runN 5 ms_currents_by
instance : NoEx m_currents_by := runN_noex _ _
theorem ok_currents_by (T : Tx mg) (N_Net : LnX P w K mg base "Net" "_wires") (T_Net : OC K mg "Net" ["_knots", "_wires"]) {f : Addr} {fd : FuncData} (Fd : FnP K "currents_by" s_currents_by f fd) : FnOk P w K mg base CX0 3 f fd ["net", "loop"] (spM ⟨K, mg, tt⟩ 2 [] m_currents_by) :=
  have nd := (sc_currents_by).nd
  fnN (oz := []) Fd sc_currents_by fun G cdv A outer s H E hr => (pms_cons (ow1 := [2]) (ow2 := [2]) (pmt_setO 2 (ow' := [2]) nd (pmf_bin binF_repL (pm_lst (pma_cons pm_int pma_nil)) (pm_callB (co_lenC T_Net N_Net (hr.mono (by decide))) rfl T.g_len (by decide +kernel) (pma_cons (pm_var 0) pma_nil)))) (pms_cons (ow1 := [2]) (ow2 := []) (pmt_for PassesOwn.never (pmi_seq (pm_var 1)) (pg_tup (n := 2) rfl (pgs_cons (pg_name (i := 3) nd rfl (by first | exact .inl rfl | exact .inr rfl)) (pgs_cons (pg_name (i := 4) nd rfl (by first | exact .inl rfl | exact .inr rfl)) pgs_nil))) (tg_tup [3, 4]) (pms_one (ow1 := [2]) (pmt_setIxA 2 (hu1 (room65 hr)) (pm_var 4) (pm_var 3)))) (pms_one (ow1 := []) (pmt_ret (pm_callTy co_tuple rfl T.g_tuple (by decide +kernel) (pma_cons (pm_var 2) pma_nil))))))
theorem dn_currents_by (T : Tx mg) (N_Net : LnX P w K mg base "Net" "_wires") (T_Net : OC K mg "Net" ["_knots", "_wires"]) {f : Addr} {fd : FuncData} (Fd : FnP K "currents_by" s_currents_by f fd) (hm : mg "currents_by" = some (.ref f)) : Dn P w K mg tt base CX0 "currents_by" 3 2 [] m_currents_by :=
  ⟨f, fd, ["net", "loop"], ok_currents_by T N_Net T_Net Fd, hm, Fd.kp, Fd.bindsN fun _ _ _ _ _ _ us hl => match us, hl with | [_, _], _ => rfl⟩
theorem sc_shortest_ways : FnScope ["net", "start", "steps", "arcs", "step"] ["net", "start", "steps"] (defScope s_shortest_ways) := ⟨rfl, rfl, rfl, by decide +kernel, rfl, by decide +kernel, by decide +kernel⟩
def nL1_shortest_ways : Ms2 := (mSeq2 (mApp2 (mDef 2 [] m_step_start (mrV (mVar 0) (mrV (mVar 4) mrNil))) (mTup (mCons (mDef 2 [] m_step_goal (mrV (mVar 0) (mrV (mVar 4) mrNil))) (mCons (mVar 4) mNil)))) mNext2)
def nB1_shortest_ways : Ms2 := (mFor2 (mIt (mVar 2)) (tN 4) nL1_shortest_ways)
def ms_shortest_ways : Ms := (mNest 3 (mUn (gFld "Net" "_knots") (mVar 0)) nB1_shortest_ways (mRet (mDef 2 [] m_ways_along (mrV (mVar 3) (mrV (mLst (mCons (mVar 1) mNil)) mrNil)))))
def m_shortest_ways : List PV → Out PV := runN 5 ms_shortest_ways
instance : NoEx m_shortest_ways := runN_noex _ _
theorem ok_shortest_ways (T : Tx mg) (c_step_goal : Dn P w K mg tt base CX0 "step_goal" 3 2 [] m_step_goal) (c_step_start : Dn P w K mg tt base CX0 "step_start" 3 2 [] m_step_start) (c_ways_along : Dn P w K mg tt base CX0 "ways_along" 3 2 [] m_ways_along) (c_no_arcs : DnN P w K mg tt base "no_arcs" 3) (P_Net_knots : PrX P w K mg base "Net" "knots" "_knots") (T_Net : OC K mg "Net" ["_knots", "_wires"]) {f : Addr} {fd : FuncData} (Fd : FnP K "shortest_ways" s_shortest_ways f fd) : FnOk P w K mg base CX0 4 f fd ["net", "start", "steps"] (spM ⟨K, mg, tt⟩ 3 [] m_shortest_ways) :=
  have nd := (sc_shortest_ways).nd
  fnN (oz := []) Fd sc_shortest_ways fun G cdv A outer s H E hr => (pms_nest 3 c_no_arcs (hr.mono (by decide)) rfl pass0 nd (pm_prop T_Net P_Net_knots (hr.mono (by decide)) (pm_var 0)) (fun a bs NS => (pmn_for NS PassesOwn.never (pmi_seq (pm_var 2)) (pg_name (i := 4) nd rfl (by first | exact .inl rfl | exact .inr rfl)) (tg_name 4) (pmn_cons NS (pmn_app NS (pm_def c_step_start (hr.mono (by decide)) rfl pass0 (fun _ _ _ _ z => z) (pmr_v (pm_var 0) (pmr_v (pm_var 4) pmr_nil))) (pm_tup (pma_cons (pm_def c_step_goal (hr.mono (by decide)) rfl pass0 (fun _ _ _ _ z => z) (pmr_v (pm_var 0) (pmr_v (pm_var 4) pmr_nil))) (pma_cons (pm_var 4) pma_nil)))) pmn_nil))) (pms_one (ow1 := []) (pmt_ret (pm_def c_ways_along (hr.mono (by decide)) rfl pass0 (fun _ _ _ _ z => z) (pmr_v (pm_var 3) (pmr_v (pm_lst (pma_cons (pm_var 1) pma_nil)) pmr_nil))))))
theorem dn_shortest_ways (T : Tx mg) (c_step_goal : Dn P w K mg tt base CX0 "step_goal" 3 2 [] m_step_goal) (c_step_start : Dn P w K mg tt base CX0 "step_start" 3 2 [] m_step_start) (c_ways_along : Dn P w K mg tt base CX0 "ways_along" 3 2 [] m_ways_along) (c_no_arcs : DnN P w K mg tt base "no_arcs" 3) (P_Net_knots : PrX P w K mg base "Net" "knots" "_knots") (T_Net : OC K mg "Net" ["_knots", "_wires"]) {f : Addr} {fd : FuncData} (Fd : FnP K "shortest_ways" s_shortest_ways f fd) (hm : mg "shortest_ways" = some (.ref f)) : Dn P w K mg tt base CX0 "shortest_ways" 4 3 [] m_shortest_ways :=
  ⟨f, fd, ["net", "start", "steps"], ok_shortest_ways T c_step_goal c_step_start c_ways_along c_no_arcs P_Net_knots T_Net Fd, hm, Fd.kp, Fd.bindsN fun _ _ _ _ _ _ us hl => match us, hl with | [_, _, _], _ => rfl⟩
theorem sc_is_kinds : FnScope ["net", "value", "kind"] ["net", "value"] (defScope s_is_kinds) := ⟨rfl, rfl, rfl, by decide +kernel, rfl, by decide +kernel, by decide +kernel⟩
def cE1_is_kinds : Mo PV := (mBin (pInA false) (mVar 2) (mTup (mCons (mC (.str "free")) (mCons (mC (.str "one")) (mCons (mC (.str "barred")) mNil)))))
def ms_is_kinds : Ms := (mSeq (mExpr (mDef 1 [] m_check_net (mrV (mVar 0) mrNil))) (mSeq (mIfS (mNot (mTr (mDef 2 [] m_is_tuple_of (mrV (mVar 1) (mrV (mCall (gLenC "Net" "_wires") (mCons (mVar 0) mNil)) mrNil))))) (mRet (mC (.bl false))) mNext) (mRet (mCall gAll (mCons (mLc [2] (tN 2) mYes cE1_is_kinds (mIt (mVar 1))) mNil)))))
def m_is_kinds : List PV → Out PV := runE 3 ms_is_kinds
instance : MayEx m_is_kinds := ⟨trivial⟩
theorem ok_is_kinds (T : Tx mg) (c_check_net : Dn P w K mg tt base (L2.CX P w) "check_net" 3 1 [] m_check_net) (c_is_tuple_of : Dn P w K mg tt base CX0 "is_tuple_of" 3 2 [] m_is_tuple_of) (N_Net : LnX P w K mg base "Net" "_wires") (T_Net : OC K mg "Net" ["_knots", "_wires"]) {f : Addr} {fd : FuncData} (Fd : FnP K "is_kinds" s_is_kinds f fd) : FnOk P w K mg base (L2.CX P w) 4 f fd ["net", "value"] (spM ⟨K, mg, tt⟩ 2 [] m_is_kinds) :=
  have nd := (sc_is_kinds).nd
  fnE (oz := []) Fd sc_is_kinds fun G cdv A outer s H E hr => (pms_cons (ow1 := []) (ow2 := []) (pmt_expr (pm_def c_check_net (hr.mono (by decide)) rfl (passE takesE (fun _ _ _ _ z => z)) (fun _ _ _ _ z => z) (pmr_v (pm_var 0) pmr_nil))) (pms_cons (ow1 := []) (ow2 := []) (pmt_if (pm_not (pm_tr (pm_def c_is_tuple_of (hr.mono (by decide)) rfl pass0E (fun _ _ _ _ z => z) (pmr_v (pm_var 1) (pmr_v (pm_callB (co_lenC T_Net N_Net (hr.mono (by decide))) rfl T.g_len (by decide +kernel) (pma_cons (pm_var 0) pma_nil)) pmr_nil))))) (pms_one (ow1 := []) (pmt_ret pm_bl)) (pms_nil)) (pms_one (ow1 := []) (pmt_ret (pm_callB co_all rfl T.g_all (by decide +kernel) (pma_cons (pm_lc (own := [("kind", 2)]) nd (pmi_seq (pm_var 1)) (blkOk_by (own := [("kind", 2)]) (N := ["net", "value", "kind"]) (sc := defScope s_is_kinds) (by decide +kernel)) (fun _ _ _ _ _ => (pg_name (i := 2) nd rfl (.inl rfl))) (fun _ _ _ _ _ _ => pmts_nil) (fun _ _ _ _ _ _ => (pm_cmp (bin_inA (room65 hr)) (pm_var 2) (pm_tup (pma_cons pm_str (pma_cons pm_str (pma_cons pm_str pma_nil)))) rfl)) (fun _ => (tg_name 2))) pma_nil))))))
theorem dn_is_kinds (T : Tx mg) (c_check_net : Dn P w K mg tt base (L2.CX P w) "check_net" 3 1 [] m_check_net) (c_is_tuple_of : Dn P w K mg tt base CX0 "is_tuple_of" 3 2 [] m_is_tuple_of) (N_Net : LnX P w K mg base "Net" "_wires") (T_Net : OC K mg "Net" ["_knots", "_wires"]) {f : Addr} {fd : FuncData} (Fd : FnP K "is_kinds" s_is_kinds f fd) (hm : mg "is_kinds" = some (.ref f)) : Dn P w K mg tt base (L2.CX P w) "is_kinds" 4 2 [] m_is_kinds :=
  ⟨f, fd, ["net", "value"], ok_is_kinds T c_check_net c_is_tuple_of N_Net T_Net Fd, hm, Fd.kp, Fd.bindsN fun _ _ _ _ _ _ us hl => match us, hl with | [_, _], _ => rfl⟩
theorem sc_check_kinds : FnScope ["net", "value"] ["net", "value"] (defScope s_check_kinds) := ⟨rfl, rfl, rfl, by decide +kernel, rfl, by decide +kernel, by decide +kernel⟩
def ms_check_kinds : Ms := (mIfS (mNot (mTr (mDef 2 [] m_is_kinds (mrV (mVar 0) (mrV (mVar 1) mrNil))))) (mRaise "InvalidKinds") mNext)
def m_check_kinds : List PV → Out PV := runE 2 ms_check_kinds
instance : MayEx m_check_kinds := ⟨trivial⟩
theorem ok_check_kinds (T : Tx mg) (c_is_kinds : Dn P w K mg tt base (L2.CX P w) "is_kinds" 4 2 [] m_is_kinds) (x_InvalidKinds : XP K mg "InvalidKinds" "ValueError.__new__" PySem.HandSPX.veTail) {f : Addr} {fd : FuncData} (Fd : FnP K "check_kinds" s_check_kinds f fd) : FnOk P w K mg base (L2.CX P w) 5 f fd ["net", "value"] (spM ⟨K, mg, tt⟩ 2 [] m_check_kinds) :=
  have nd := (sc_check_kinds).nd
  fnE (oz := []) Fd sc_check_kinds fun G cdv A outer s H E hr => (pms_one (ow1 := []) (pmt_if (pm_not (pm_tr (pm_def c_is_kinds (hr.mono (by decide)) rfl (passE takesE (fun _ _ _ _ z => z)) (fun _ _ _ _ z => z) (pmr_v (pm_var 0) (pmr_v (pm_var 1) pmr_nil))))) (pms_one (ow1 := []) (pmt_raiseP PySem.F.excBase_ValueError x_InvalidKinds takesE rfl)) (pms_nil)))
theorem dn_check_kinds (T : Tx mg) (c_is_kinds : Dn P w K mg tt base (L2.CX P w) "is_kinds" 4 2 [] m_is_kinds) (x_InvalidKinds : XP K mg "InvalidKinds" "ValueError.__new__" PySem.HandSPX.veTail) {f : Addr} {fd : FuncData} (Fd : FnP K "check_kinds" s_check_kinds f fd) (hm : mg "check_kinds" = some (.ref f)) : Dn P w K mg tt base (L2.CX P w) "check_kinds" 5 2 [] m_check_kinds :=
  ⟨f, fd, ["net", "value"], ok_check_kinds T c_is_kinds x_InvalidKinds Fd, hm, Fd.kp, Fd.bindsN fun _ _ _ _ _ _ us hl => match us, hl with | [_, _], _ => rfl⟩
theorem sc_wires_of : FnScope ["kinds", "kind", "wire"] ["kinds", "kind"] (defScope s_wires_of) := ⟨rfl, rfl, rfl, by decide +kernel, rfl, by decide +kernel, by decide +kernel⟩
def cT1_wires_of : Mo Bool := (mTB (mBin pEq (mBin pIxA (mVar 0) (mVar 2)) (mVar 1)))
def ms_wires_of : Ms := (mRet (mLc [2] (tN 2) cT1_wires_of (mVar 2) (mItA iRange1 (mCons (mCall (gLenC "Net" "_wires") (mCons (mVar 0) mNil)) mNil))))
def m_wires_of : List PV → Out PV := runN 3 ms_wires_of
instance : NoEx m_wires_of := runN_noex _ _
theorem ok_wires_of (T : Tx mg) (N_Net : LnX P w K mg base "Net" "_wires") (T_Net : OC K mg "Net" ["_knots", "_wires"]) {f : Addr} {fd : FuncData} (Fd : FnP K "wires_of" s_wires_of f fd) : FnOk P w K mg base CX0 3 f fd ["kinds", "kind"] (spM ⟨K, mg, tt⟩ 2 [] m_wires_of) :=
  have nd := (sc_wires_of).nd
  fnN (oz := []) Fd sc_wires_of fun G cdv A outer s H E hr => (pms_one (ow1 := []) (pmt_ret (pm_lc (own := [("wire", 2)]) nd (pmi_range1 rfl T.g_range (pma_cons (pm_callB (co_lenC T_Net N_Net (hr.mono (by decide))) rfl T.g_len (by decide +kernel) (pma_cons (pm_var 0) pma_nil)) pma_nil)) (blkOk_by (own := [("wire", 2)]) (N := ["kinds", "kind", "wire"]) (sc := defScope s_wires_of) (by decide +kernel)) (fun _ _ _ _ _ => (pg_name (i := 2) nd rfl (.inl rfl))) (fun _ _ _ _ _ _ => (pmts_one (pm_tcmp (bin_eq (room64 hr)) (pm_ixA (hu1 (room65 hr)) (pm_var 0) (pm_var 2)) (pm_var 1) (nomark _)))) (fun _ _ _ _ _ _ => (pm_var 2)) (fun _ => (tg_name 2)))))
theorem dn_wires_of (T : Tx mg) (N_Net : LnX P w K mg base "Net" "_wires") (T_Net : OC K mg "Net" ["_knots", "_wires"]) {f : Addr} {fd : FuncData} (Fd : FnP K "wires_of" s_wires_of f fd) (hm : mg "wires_of" = some (.ref f)) : Dn P w K mg tt base CX0 "wires_of" 3 2 [] m_wires_of :=
  ⟨f, fd, ["kinds", "kind"], ok_wires_of T N_Net T_Net Fd, hm, Fd.kp, Fd.bindsN fun _ _ _ _ _ _ us hl => match us, hl with | [_, _], _ => rfl⟩
theorem sc_steps_of : FnScope ["kinds", "steps", "wire"] ["kinds"] (defScope s_steps_of) := ⟨rfl, rfl, rfl, by decide +kernel, rfl, by decide +kernel, by decide +kernel⟩
def cT1_steps_of : Mo Bool := (mTB (mBin pNe (mBin pIxA (mVar 0) (mVar 2)) (mC (.str "barred"))))
def cE1_steps_of : Mo PV := (mTup (mCons (mVar 2) (mCons (mC (.int 1)) mNil)))
def cE2_steps_of : Mo PV := (mTup (mCons (mVar 2) (mCons (mNeg (mC (.int 1))) mNil)))
def ms_steps_of : Ms := (mSeq (mSet 1 (mLc [2] (tN 2) cT1_steps_of cE1_steps_of (mItA iRange1 (mCons (mCall (gLenC "Net" "_wires") (mCons (mVar 0) mNil)) mNil)))) (mRet (mBin pAdd (mVar 1) (mLc [2] (tN 2) mYes cE2_steps_of (mIt (mDef 2 [] m_wires_of (mrV (mVar 0) (mrV (mC (.str "free")) mrNil))))))))
def m_steps_of : List PV → Out PV := runN 3 ms_steps_of
instance : NoEx m_steps_of := runN_noex _ _
theorem ok_steps_of (T : Tx mg) (c_wires_of : Dn P w K mg tt base CX0 "wires_of" 3 2 [] m_wires_of) (N_Net : LnX P w K mg base "Net" "_wires") (T_Net : OC K mg "Net" ["_knots", "_wires"]) {f : Addr} {fd : FuncData} (Fd : FnP K "steps_of" s_steps_of f fd) : FnOk P w K mg base CX0 4 f fd ["kinds"] (spM ⟨K, mg, tt⟩ 1 [] m_steps_of) :=
  have nd := (sc_steps_of).nd
  fnN (oz := []) Fd sc_steps_of fun G cdv A outer s H E hr => (pms_cons (ow1 := []) (ow2 := []) (pmt_setLc 1 (own := [("wire", 2)]) nd (pmi_range1 rfl T.g_range (pma_cons (pm_callB (co_lenC T_Net N_Net (hr.mono (by decide))) rfl T.g_len (by decide +kernel) (pma_cons (pm_var 0) pma_nil)) pma_nil)) (blkOk_by (own := [("wire", 2)]) (N := ["kinds", "steps", "wire"]) (sc := defScope s_steps_of) (by decide +kernel)) (fun _ _ _ _ _ => (pg_name (i := 2) nd rfl (.inl rfl))) (fun _ _ _ _ _ _ => (pmts_one (pm_tcmp (bin_ne (room64 hr)) (pm_ixA (hu1 (room65 hr)) (pm_var 0) (pm_var 2)) pm_str (nomark _)))) (fun _ _ _ _ _ _ => (pm_tup (pma_cons (pm_var 2) (pma_cons pm_int pma_nil)))) (fun _ => (tg_name 2)) (sw_true rfl rfl rfl (by decide +kernel))) (pms_one (ow1 := []) (pmt_ret (pm_bin bin_add (pm_var 1) (pm_lc (own := [("wire", 2)]) nd (pmi_seq (pm_def c_wires_of (hr.mono (by decide)) rfl pass0 (fun _ _ _ _ z => z) (pmr_v (pm_var 0) (pmr_v pm_str pmr_nil)))) (blkOk_by (own := [("wire", 2)]) (N := ["kinds", "steps", "wire"]) (sc := defScope s_steps_of) (by decide +kernel)) (fun _ _ _ _ _ => (pg_name (i := 2) nd rfl (.inl rfl))) (fun _ _ _ _ _ _ => pmts_nil) (fun _ _ _ _ _ _ => (pm_tup (pma_cons (pm_var 2) (pma_cons (pm_neg pm_int) pma_nil)))) (fun _ => (tg_name 2)))))))
theorem dn_steps_of (T : Tx mg) (c_wires_of : Dn P w K mg tt base CX0 "wires_of" 3 2 [] m_wires_of) (N_Net : LnX P w K mg base "Net" "_wires") (T_Net : OC K mg "Net" ["_knots", "_wires"]) {f : Addr} {fd : FuncData} (Fd : FnP K "steps_of" s_steps_of f fd) (hm : mg "steps_of" = some (.ref f)) : Dn P w K mg tt base CX0 "steps_of" 4 1 [] m_steps_of :=
  ⟨f, fd, ["kinds"], ok_steps_of T c_wires_of N_Net T_Net Fd, hm, Fd.kp, Fd.bindsN fun _ _ _ _ _ _ us hl => match us, hl with | [_], _ => rfl⟩
theorem sc_is_loop_of : FnScope ["net", "kinds", "value", "step"] ["net", "kinds", "value"] (defScope s_is_loop_of) := ⟨rfl, rfl, rfl, by decide +kernel, rfl, by decide +kernel, by decide +kernel⟩
def cE1_is_loop_of : Mo PV := (mBin (pInA false) (mVar 3) (mDef 1 [] m_steps_of (mrV (mVar 1) mrNil)))
def ms_is_loop_of : Ms := (mSeq (mExpr (mDef 1 [] m_check_net (mrV (mVar 0) mrNil))) (mSeq (mExpr (mDef 2 [] m_check_kinds (mrV (mVar 0) (mrV (mVar 1) mrNil)))) (mRet (mAndV (mDef 2 [] m_is_loop (mrV (mVar 0) (mrV (mVar 2) mrNil))) (mCall gAll (mCons (mLc [3] (tN 3) mYes cE1_is_loop_of (mIt (mVar 2))) mNil))))))
def m_is_loop_of : List PV → Out PV := runE 4 ms_is_loop_of
instance : MayEx m_is_loop_of := ⟨trivial⟩
theorem ok_is_loop_of (T : Tx mg) (c_check_kinds : Dn P w K mg tt base (L2.CX P w) "check_kinds" 5 2 [] m_check_kinds) (c_check_net : Dn P w K mg tt base (L2.CX P w) "check_net" 3 1 [] m_check_net) (c_is_loop : Dn P w K mg tt base (L2.CX P w) "is_loop" 6 2 [] m_is_loop) (c_steps_of : Dn P w K mg tt base CX0 "steps_of" 4 1 [] m_steps_of) {f : Addr} {fd : FuncData} (Fd : FnP K "is_loop_of" s_is_loop_of f fd) : FnOk P w K mg base (L2.CX P w) 7 f fd ["net", "kinds", "value"] (spM ⟨K, mg, tt⟩ 3 [] m_is_loop_of) :=
  have nd := (sc_is_loop_of).nd
  fnE (oz := []) Fd sc_is_loop_of fun G cdv A outer s H E hr => (pms_cons (ow1 := []) (ow2 := []) (pmt_expr (pm_def c_check_net (hr.mono (by decide)) rfl (passE takesE (fun _ _ _ _ z => z)) (fun _ _ _ _ z => z) (pmr_v (pm_var 0) pmr_nil))) (pms_cons (ow1 := []) (ow2 := []) (pmt_expr (pm_def c_check_kinds (hr.mono (by decide)) rfl (passE takesE (fun _ _ _ _ z => z)) (fun _ _ _ _ z => z) (pmr_v (pm_var 0) (pmr_v (pm_var 1) pmr_nil)))) (pms_one (ow1 := []) (pmt_ret (pm_andV (pm_def c_is_loop (hr.mono (by decide)) rfl (passE takesE (fun _ _ _ _ z => z)) (fun _ _ _ _ z => z) (pmr_v (pm_var 0) (pmr_v (pm_var 2) pmr_nil))) (pe_one (pm_callB co_all rfl T.g_all (by decide +kernel) (pma_cons (pm_lc (own := [("step", 3)]) nd (pmi_seq (pm_var 2)) (blkOk_by (own := [("step", 3)]) (N := ["net", "kinds", "value", "step"]) (sc := defScope s_is_loop_of) (by decide +kernel)) (fun _ _ _ _ _ => (pg_name (i := 3) nd rfl (.inl rfl))) (fun _ _ _ _ _ _ => pmts_nil) (fun _ _ _ _ _ _ => (pm_cmp (bin_inA (room65 hr)) (pm_var 3) (pm_def c_steps_of (hr.mono (by decide)) rfl pass0E (fun _ _ _ _ z => z) (pmr_v (pm_var 1) pmr_nil)) rfl)) (fun _ => (tg_name 3))) pma_nil))))))))
theorem dn_is_loop_of (T : Tx mg) (c_check_kinds : Dn P w K mg tt base (L2.CX P w) "check_kinds" 5 2 [] m_check_kinds) (c_check_net : Dn P w K mg tt base (L2.CX P w) "check_net" 3 1 [] m_check_net) (c_is_loop : Dn P w K mg tt base (L2.CX P w) "is_loop" 6 2 [] m_is_loop) (c_steps_of : Dn P w K mg tt base CX0 "steps_of" 4 1 [] m_steps_of) {f : Addr} {fd : FuncData} (Fd : FnP K "is_loop_of" s_is_loop_of f fd) (hm : mg "is_loop_of" = some (.ref f)) : Dn P w K mg tt base (L2.CX P w) "is_loop_of" 7 3 [] m_is_loop_of :=
  ⟨f, fd, ["net", "kinds", "value"], ok_is_loop_of T c_check_kinds c_check_net c_is_loop c_steps_of Fd, hm, Fd.kp, Fd.bindsN fun _ _ _ _ _ _ us hl => match us, hl with | [_, _, _], _ => rfl⟩
theorem sc_is_cut_of : FnScope ["net", "kinds", "value", "leaving", "entering", "wire"] ["net", "kinds", "value"] (defScope s_is_cut_of) := ⟨rfl, rfl, rfl, by decide +kernel, rfl, by decide +kernel, by decide +kernel⟩
def cE1_is_cut_of : Mo PV := (mBin pNe (mBin pIxA (mVar 1) (mVar 5)) (mC (.str "free")))
def cE2_is_cut_of : Mo PV := (mBin pEq (mBin pIxA (mVar 1) (mVar 5)) (mC (.str "barred")))
def ms_is_cut_of : Ms := (mSeq (mExpr (mDef 1 [] m_check_net (mrV (mVar 0) mrNil))) (mSeq (mExpr (mDef 2 [] m_check_kinds (mrV (mVar 0) (mrV (mVar 1) mrNil)))) (mSeq (mIfS (mNot (mTr (mDef 2 [] m_is_cut (mrV (mVar 0) (mrV (mVar 2) mrNil))))) (mRet (mC (.bl false))) mNext) (mSeq (mUnp [3, 4] (mDef 2 [] m_cut_wires (mrV (mVar 0) (mrV (mVar 2) mrNil)))) (mRet (mAndV (mCall gAll (mCons (mLc [5] (tN 5) mYes cE1_is_cut_of (mIt (mVar 3))) mNil)) (mCall gAll (mCons (mLc [5] (tN 5) mYes cE2_is_cut_of (mIt (mVar 4))) mNil))))))))
def m_is_cut_of : List PV → Out PV := runE 6 ms_is_cut_of
instance : MayEx m_is_cut_of := ⟨trivial⟩
theorem ok_is_cut_of (T : Tx mg) (c_check_kinds : Dn P w K mg tt base (L2.CX P w) "check_kinds" 5 2 [] m_check_kinds) (c_check_net : Dn P w K mg tt base (L2.CX P w) "check_net" 3 1 [] m_check_net) (c_cut_wires : Dn P w K mg tt base (L2.CX P w) "cut_wires" 7 2 [] m_cut_wires) (c_is_cut : Dn P w K mg tt base (L2.CX P w) "is_cut" 5 2 [] m_is_cut) {f : Addr} {fd : FuncData} (Fd : FnP K "is_cut_of" s_is_cut_of f fd) : FnOk P w K mg base (L2.CX P w) 8 f fd ["net", "kinds", "value"] (spM ⟨K, mg, tt⟩ 3 [] m_is_cut_of) :=
  have nd := (sc_is_cut_of).nd
  fnE (oz := []) Fd sc_is_cut_of fun G cdv A outer s H E hr => (pms_cons (ow1 := []) (ow2 := []) (pmt_expr (pm_def c_check_net (hr.mono (by decide)) rfl (passE takesE (fun _ _ _ _ z => z)) (fun _ _ _ _ z => z) (pmr_v (pm_var 0) pmr_nil))) (pms_cons (ow1 := []) (ow2 := []) (pmt_expr (pm_def c_check_kinds (hr.mono (by decide)) rfl (passE takesE (fun _ _ _ _ z => z)) (fun _ _ _ _ z => z) (pmr_v (pm_var 0) (pmr_v (pm_var 1) pmr_nil)))) (pms_cons (ow1 := []) (ow2 := []) (pmt_if (pm_not (pm_tr (pm_def c_is_cut (hr.mono (by decide)) rfl (passE takesE (fun _ _ _ _ z => z)) (fun _ _ _ _ z => z) (pmr_v (pm_var 0) (pmr_v (pm_var 2) pmr_nil))))) (pms_one (ow1 := []) (pmt_ret pm_bl)) (pms_nil)) (pms_cons (ow1 := []) (ow2 := []) (pmt_unp [3, 4] (pm_def c_cut_wires (hr.mono (by decide)) rfl (passE takesE (fun _ _ _ _ z => z)) (fun _ _ _ _ z => z) (pmr_v (pm_var 0) (pmr_v (pm_var 2) pmr_nil))) (pgs_cons (pg_name (i := 3) nd rfl (by first | exact .inl rfl | exact .inr rfl)) (pgs_cons (pg_name (i := 4) nd rfl (by first | exact .inl rfl | exact .inr rfl)) pgs_nil))) (pms_one (ow1 := []) (pmt_ret (pm_andV (pm_callB co_all rfl T.g_all (by decide +kernel) (pma_cons (pm_lc (own := [("wire", 5)]) nd (pmi_seq (pm_var 3)) (blkOk_by (own := [("wire", 5)]) (N := ["net", "kinds", "value", "leaving", "entering", "wire"]) (sc := defScope s_is_cut_of) (by decide +kernel)) (fun _ _ _ _ _ => (pg_name (i := 5) nd rfl (.inl rfl))) (fun _ _ _ _ _ _ => pmts_nil) (fun _ _ _ _ _ _ => (pm_cmp (bin_ne (room64 hr)) (pm_ixA (hu1 (room65 hr)) (pm_var 1) (pm_var 5)) pm_str (nomark _))) (fun _ => (tg_name 5))) pma_nil)) (pe_one (pm_callB co_all rfl T.g_all (by decide +kernel) (pma_cons (pm_lc (own := [("wire", 5)]) nd (pmi_seq (pm_var 4)) (blkOk_by (own := [("wire", 5)]) (N := ["net", "kinds", "value", "leaving", "entering", "wire"]) (sc := defScope s_is_cut_of) (by decide +kernel)) (fun _ _ _ _ _ => (pg_name (i := 5) nd rfl (.inl rfl))) (fun _ _ _ _ _ _ => pmts_nil) (fun _ _ _ _ _ _ => (pm_cmp (bin_eq (room64 hr)) (pm_ixA (hu1 (room65 hr)) (pm_var 1) (pm_var 5)) pm_str (nomark _))) (fun _ => (tg_name 5))) pma_nil))))))))))
theorem dn_is_cut_of (T : Tx mg) (c_check_kinds : Dn P w K mg tt base (L2.CX P w) "check_kinds" 5 2 [] m_check_kinds) (c_check_net : Dn P w K mg tt base (L2.CX P w) "check_net" 3 1 [] m_check_net) (c_cut_wires : Dn P w K mg tt base (L2.CX P w) "cut_wires" 7 2 [] m_cut_wires) (c_is_cut : Dn P w K mg tt base (L2.CX P w) "is_cut" 5 2 [] m_is_cut) {f : Addr} {fd : FuncData} (Fd : FnP K "is_cut_of" s_is_cut_of f fd) (hm : mg "is_cut_of" = some (.ref f)) : Dn P w K mg tt base (L2.CX P w) "is_cut_of" 8 3 [] m_is_cut_of :=
  ⟨f, fd, ["net", "kinds", "value"], ok_is_cut_of T c_check_kinds c_check_net c_cut_wires c_is_cut Fd, hm, Fd.kp, Fd.bindsN fun _ _ _ _ _ _ us hl => match us, hl with | [_, _, _], _ => rfl⟩
theorem sc_answer_by : FnScope ["net", "kinds", "wire", "tail", "head", "_", "ways", "knot"] ["net", "kinds", "wire"] (defScope s_answer_by) := ⟨rfl, rfl, rfl, by decide +kernel, rfl, by decide +kernel, by decide +kernel⟩
def cT1_answer_by : Mo Bool := (mTB (mBin (pInA true) (mVar 7) (mVar 6)))
def ms_answer_by : Ms := (mSeq (mUnp [3, 4, 5] (mBin pIxA (mUn (gFld "Net" "_wires") (mVar 0)) (mVar 2))) (mSeq (mSet 6 (mDef 3 [] m_shortest_ways (mrV (mVar 0) (mrV (mVar 4) (mrV (mDef 1 [] m_steps_of (mrV (mVar 1) mrNil)) mrNil))))) (mSeq (mIfS (mTB (mBin (pInA false) (mVar 3) (mVar 6))) (mRet (mTup (mCons (mC (.str "loop")) (mCons (mTup (mCons (mTup (mCons (mVar 2) (mCons (mC (.int 1)) mNil))) (mStar (mBin pIxA (mVar 6) (mVar 3)) mNil))) mNil)))) mNext) (mRet (mTup (mCons (mC (.str "cut")) (mCons (mCall gTuple (mCons (mLc [7] (tN 7) cT1_answer_by (mVar 7) (mItA iRange1 (mCons (mUn (gFld "Net" "_knots") (mVar 0)) mNil))) mNil)) mNil)))))))
def m_answer_by : List PV → Out PV := runN 8 ms_answer_by
instance : NoEx m_answer_by := runN_noex _ _
theorem ok_answer_by (T : Tx mg) (c_shortest_ways : Dn P w K mg tt base CX0 "shortest_ways" 4 3 [] m_shortest_ways) (c_steps_of : Dn P w K mg tt base CX0 "steps_of" 4 1 [] m_steps_of) (P_Net_knots : PrX P w K mg base "Net" "knots" "_knots") (P_Net_wires : PrX P w K mg base "Net" "wires" "_wires") (T_Net : OC K mg "Net" ["_knots", "_wires"]) {f : Addr} {fd : FuncData} (Fd : FnP K "answer_by" s_answer_by f fd) : FnOk P w K mg base CX0 5 f fd ["net", "kinds", "wire"] (spM ⟨K, mg, tt⟩ 3 [] m_answer_by) :=
  have nd := (sc_answer_by).nd
  fnN (oz := []) Fd sc_answer_by fun G cdv A outer s H E hr => (pms_cons (ow1 := []) (ow2 := []) (pmt_unp [3, 4, 5] (pm_ixA (hu1 (room65 hr)) (pm_prop T_Net P_Net_wires (hr.mono (by decide)) (pm_var 0)) (pm_var 2)) (pgs_cons (pg_name (i := 3) nd rfl (by first | exact .inl rfl | exact .inr rfl)) (pgs_cons (pg_name (i := 4) nd rfl (by first | exact .inl rfl | exact .inr rfl)) (pgs_cons (pg_name (i := 5) nd rfl (by first | exact .inl rfl | exact .inr rfl)) pgs_nil)))) (pms_cons (ow1 := []) (ow2 := []) (pmt_set 6 nd (pm_def c_shortest_ways (hr.mono (by decide)) rfl pass0 (fun _ _ _ _ z => z) (pmr_v (pm_var 0) (pmr_v (pm_var 4) (pmr_v (pm_def c_steps_of (hr.mono (by decide)) rfl pass0 (fun _ _ _ _ z => z) (pmr_v (pm_var 1) pmr_nil)) pmr_nil))))) (pms_cons (ow1 := []) (ow2 := []) (pmt_if (pm_tcmp (bin_inA (room65 hr)) (pm_var 3) (pm_var 6) rfl) (pms_one (ow1 := []) (pmt_ret (pm_tup (pma_cons pm_str (pma_cons (pm_tup (pma_cons (pm_tup (pma_cons (pm_var 2) (pma_cons pm_int pma_nil))) (pma_star (pm_ixA (hu1 (room65 hr)) (pm_var 6) (pm_var 3)) pma_nil))) pma_nil))))) (pms_nil)) (pms_one (ow1 := []) (pmt_ret (pm_tup (pma_cons pm_str (pma_cons (pm_callTy co_tuple rfl T.g_tuple (by decide +kernel) (pma_cons (pm_lc (own := [("knot", 7)]) nd (pmi_range1 rfl T.g_range (pma_cons (pm_prop T_Net P_Net_knots (hr.mono (by decide)) (pm_var 0)) pma_nil)) (blkOk_by (own := [("knot", 7)]) (N := ["net", "kinds", "wire", "tail", "head", "_", "ways", "knot"]) (sc := defScope s_answer_by) (by decide +kernel)) (fun _ _ _ _ _ => (pg_name (i := 7) nd rfl (.inl rfl))) (fun _ _ _ _ _ _ => (pmts_one (pm_tcmp (bin_notInA (room65 hr)) (pm_var 7) (pm_var 6) rfl))) (fun _ _ _ _ _ _ => (pm_var 7)) (fun _ => (tg_name 7))) pma_nil)) pma_nil))))))))
theorem dn_answer_by (T : Tx mg) (c_shortest_ways : Dn P w K mg tt base CX0 "shortest_ways" 4 3 [] m_shortest_ways) (c_steps_of : Dn P w K mg tt base CX0 "steps_of" 4 1 [] m_steps_of) (P_Net_knots : PrX P w K mg base "Net" "knots" "_knots") (P_Net_wires : PrX P w K mg base "Net" "wires" "_wires") (T_Net : OC K mg "Net" ["_knots", "_wires"]) {f : Addr} {fd : FuncData} (Fd : FnP K "answer_by" s_answer_by f fd) (hm : mg "answer_by" = some (.ref f)) : Dn P w K mg tt base CX0 "answer_by" 5 3 [] m_answer_by :=
  ⟨f, fd, ["net", "kinds", "wire"], ok_answer_by T c_shortest_ways c_steps_of P_Net_knots P_Net_wires T_Net Fd, hm, Fd.kp, Fd.bindsN fun _ _ _ _ _ _ us hl => match us, hl with | [_, _, _], _ => rfl⟩
theorem sc_check_paint : FnScope ["net", "kinds", "wire"] ["net", "kinds", "wire"] (defScope s_check_paint) := ⟨rfl, rfl, rfl, by decide +kernel, rfl, by decide +kernel, by decide +kernel⟩
def ms_check_paint : Ms := (mSeq (mExpr (mDef 1 [] m_check_net (mrV (mVar 0) mrNil))) (mSeq (mExpr (mDef 2 [] m_check_kinds (mrV (mVar 0) (mrV (mVar 1) mrNil)))) (mSeq (mExpr (mDef 2 [] m_check_wire (mrV (mVar 0) (mrV (mVar 2) mrNil)))) (mIfS (mTB (mBin pNe (mBin pIxA (mVar 1) (mVar 2)) (mC (.str "one")))) (mRaise "InvalidOperation") mNext))))
def m_check_paint : List PV → Out PV := runE 3 ms_check_paint
instance : MayEx m_check_paint := ⟨trivial⟩
theorem ok_check_paint (T : Tx mg) (c_check_kinds : Dn P w K mg tt base (L2.CX P w) "check_kinds" 5 2 [] m_check_kinds) (c_check_net : Dn P w K mg tt base (L2.CX P w) "check_net" 3 1 [] m_check_net) (c_check_wire : Dn P w K mg tt base (L2.CX P w) "check_wire" 5 2 [] m_check_wire) (x_InvalidOperation : XP K mg "InvalidOperation" "ValueError.__new__" PySem.HandSPX.veTail) {f : Addr} {fd : FuncData} (Fd : FnP K "check_paint" s_check_paint f fd) : FnOk P w K mg base (L2.CX P w) 6 f fd ["net", "kinds", "wire"] (spM ⟨K, mg, tt⟩ 3 [] m_check_paint) :=
  have nd := (sc_check_paint).nd
  fnE (oz := []) Fd sc_check_paint fun G cdv A outer s H E hr => (pms_cons (ow1 := []) (ow2 := []) (pmt_expr (pm_def c_check_net (hr.mono (by decide)) rfl (passE takesE (fun _ _ _ _ z => z)) (fun _ _ _ _ z => z) (pmr_v (pm_var 0) pmr_nil))) (pms_cons (ow1 := []) (ow2 := []) (pmt_expr (pm_def c_check_kinds (hr.mono (by decide)) rfl (passE takesE (fun _ _ _ _ z => z)) (fun _ _ _ _ z => z) (pmr_v (pm_var 0) (pmr_v (pm_var 1) pmr_nil)))) (pms_cons (ow1 := []) (ow2 := []) (pmt_expr (pm_def c_check_wire (hr.mono (by decide)) rfl (passE takesE (fun _ _ _ _ z => z)) (fun _ _ _ _ z => z) (pmr_v (pm_var 0) (pmr_v (pm_var 2) pmr_nil)))) (pms_one (ow1 := []) (pmt_if (pm_tcmp (bin_ne (room64 hr)) (pm_ixA (hu1 (room65 hr)) (pm_var 1) (pm_var 2)) pm_str (nomark _)) (pms_one (ow1 := []) (pmt_raiseP PySem.F.excBase_ValueError x_InvalidOperation takesE rfl)) (pms_nil))))))
theorem dn_check_paint (T : Tx mg) (c_check_kinds : Dn P w K mg tt base (L2.CX P w) "check_kinds" 5 2 [] m_check_kinds) (c_check_net : Dn P w K mg tt base (L2.CX P w) "check_net" 3 1 [] m_check_net) (c_check_wire : Dn P w K mg tt base (L2.CX P w) "check_wire" 5 2 [] m_check_wire) (x_InvalidOperation : XP K mg "InvalidOperation" "ValueError.__new__" PySem.HandSPX.veTail) {f : Addr} {fd : FuncData} (Fd : FnP K "check_paint" s_check_paint f fd) (hm : mg "check_paint" = some (.ref f)) : Dn P w K mg tt base (L2.CX P w) "check_paint" 6 3 [] m_check_paint :=
  ⟨f, fd, ["net", "kinds", "wire"], ok_check_paint T c_check_kinds c_check_net c_check_wire x_InvalidOperation Fd, hm, Fd.kp, Fd.bindsN fun _ _ _ _ _ _ us hl => match us, hl with | [_, _, _], _ => rfl⟩
theorem sc_loop_or_cut : FnScope ["net", "kinds", "wire"] ["net", "kinds", "wire"] (defScope s_loop_or_cut) := ⟨rfl, rfl, rfl, by decide +kernel, rfl, by decide +kernel, by decide +kernel⟩
def ms_loop_or_cut : Ms := (mSeq (mExpr (mDef 3 [] m_check_paint (mrV (mVar 0) (mrV (mVar 1) (mrV (mVar 2) mrNil))))) (mRet (mDef 3 [] m_answer_by (mrV (mVar 0) (mrV (mVar 1) (mrV (mVar 2) mrNil))))))
def m_loop_or_cut : List PV → Out PV := runE 3 ms_loop_or_cut
instance : MayEx m_loop_or_cut := ⟨trivial⟩
theorem ok_loop_or_cut (T : Tx mg) (c_answer_by : Dn P w K mg tt base CX0 "answer_by" 5 3 [] m_answer_by) (c_check_paint : Dn P w K mg tt base (L2.CX P w) "check_paint" 6 3 [] m_check_paint) {f : Addr} {fd : FuncData} (Fd : FnP K "loop_or_cut" s_loop_or_cut f fd) : FnOk P w K mg base (L2.CX P w) 7 f fd ["net", "kinds", "wire"] (spM ⟨K, mg, tt⟩ 3 [] m_loop_or_cut) :=
  have nd := (sc_loop_or_cut).nd
  fnE (oz := []) Fd sc_loop_or_cut fun G cdv A outer s H E hr => (pms_cons (ow1 := []) (ow2 := []) (pmt_expr (pm_def c_check_paint (hr.mono (by decide)) rfl (passE takesE (fun _ _ _ _ z => z)) (fun _ _ _ _ z => z) (pmr_v (pm_var 0) (pmr_v (pm_var 1) (pmr_v (pm_var 2) pmr_nil))))) (pms_one (ow1 := []) (pmt_ret (pm_def c_answer_by (hr.mono (by decide)) rfl pass0E (fun _ _ _ _ z => z) (pmr_v (pm_var 0) (pmr_v (pm_var 1) (pmr_v (pm_var 2) pmr_nil)))))))
theorem dn_loop_or_cut (T : Tx mg) (c_answer_by : Dn P w K mg tt base CX0 "answer_by" 5 3 [] m_answer_by) (c_check_paint : Dn P w K mg tt base (L2.CX P w) "check_paint" 6 3 [] m_check_paint) {f : Addr} {fd : FuncData} (Fd : FnP K "loop_or_cut" s_loop_or_cut f fd) (hm : mg "loop_or_cut" = some (.ref f)) : Dn P w K mg tt base (L2.CX P w) "loop_or_cut" 7 3 [] m_loop_or_cut :=
  ⟨f, fd, ["net", "kinds", "wire"], ok_loop_or_cut T c_answer_by c_check_paint Fd, hm, Fd.kp, Fd.bindsN fun _ _ _ _ _ _ us hl => match us, hl with | [_, _, _], _ => rfl⟩
theorem sc_is_loop_or_cut : FnScope ["net", "kinds", "wire", "value", "word", "told"] ["net", "kinds", "wire", "value"] (defScope s_is_loop_or_cut) := ⟨rfl, rfl, rfl, by decide +kernel, rfl, by decide +kernel, by decide +kernel⟩
def ms_is_loop_or_cut : Ms := (mSeq (mExpr (mDef 3 [] m_check_paint (mrV (mVar 0) (mrV (mVar 1) (mrV (mVar 2) mrNil))))) (mSeq (mIfS (mNot (mTr (mDef 2 [] m_is_tuple_of (mrV (mVar 3) (mrV (mC (.int 2)) mrNil))))) (mRet (mC (.bl false))) mNext) (mSeq (mUnp [4, 5] (mVar 3)) (mSeq (mIfS (mTB (mBin pEq (mVar 4) (mC (.str "loop")))) (mRet (mAndV (mDef 3 [] m_is_loop_of (mrV (mVar 0) (mrV (mVar 1) (mrV (mVar 5) mrNil)))) (mBin (pInA false) (mTup (mCons (mVar 2) (mCons (mC (.int 1)) mNil))) (mVar 5)))) mNext) (mRet (mAndV (mBin pEq (mVar 4) (mC (.str "cut"))) (mAndV (mDef 3 [] m_is_cut_of (mrV (mVar 0) (mrV (mVar 1) (mrV (mVar 5) mrNil)))) (mBin (pInA false) (mVar 2) (mBin pIxA (mDef 2 [] m_cut_wires (mrV (mVar 0) (mrV (mVar 5) mrNil))) (mC (.int 0)))))))))))
def m_is_loop_or_cut : List PV → Out PV := runE 6 ms_is_loop_or_cut
instance : MayEx m_is_loop_or_cut := ⟨trivial⟩
theorem ok_is_loop_or_cut (T : Tx mg) (c_check_paint : Dn P w K mg tt base (L2.CX P w) "check_paint" 6 3 [] m_check_paint) (c_cut_wires : Dn P w K mg tt base (L2.CX P w) "cut_wires" 7 2 [] m_cut_wires) (c_is_cut_of : Dn P w K mg tt base (L2.CX P w) "is_cut_of" 8 3 [] m_is_cut_of) (c_is_loop_of : Dn P w K mg tt base (L2.CX P w) "is_loop_of" 7 3 [] m_is_loop_of) (c_is_tuple_of : Dn P w K mg tt base CX0 "is_tuple_of" 3 2 [] m_is_tuple_of) {f : Addr} {fd : FuncData} (Fd : FnP K "is_loop_or_cut" s_is_loop_or_cut f fd) : FnOk P w K mg base (L2.CX P w) 9 f fd ["net", "kinds", "wire", "value"] (spM ⟨K, mg, tt⟩ 4 [] m_is_loop_or_cut) :=
  have nd := (sc_is_loop_or_cut).nd
  fnE (oz := []) Fd sc_is_loop_or_cut fun G cdv A outer s H E hr => (pms_cons (ow1 := []) (ow2 := []) (pmt_expr (pm_def c_check_paint (hr.mono (by decide)) rfl (passE takesE (fun _ _ _ _ z => z)) (fun _ _ _ _ z => z) (pmr_v (pm_var 0) (pmr_v (pm_var 1) (pmr_v (pm_var 2) pmr_nil))))) (pms_cons (ow1 := []) (ow2 := []) (pmt_if (pm_not (pm_tr (pm_def c_is_tuple_of (hr.mono (by decide)) rfl pass0E (fun _ _ _ _ z => z) (pmr_v (pm_var 3) (pmr_v pm_int pmr_nil))))) (pms_one (ow1 := []) (pmt_ret pm_bl)) (pms_nil)) (pms_cons (ow1 := []) (ow2 := []) (pmt_unp [4, 5] (pm_var 3) (pgs_cons (pg_name (i := 4) nd rfl (by first | exact .inl rfl | exact .inr rfl)) (pgs_cons (pg_name (i := 5) nd rfl (by first | exact .inl rfl | exact .inr rfl)) pgs_nil))) (pms_cons (ow1 := []) (ow2 := []) (pmt_if (pm_tcmp (bin_eq (room64 hr)) (pm_var 4) pm_str (nomark _)) (pms_one (ow1 := []) (pmt_ret (pm_andV (pm_def c_is_loop_of (hr.mono (by decide)) rfl (passE takesE (fun _ _ _ _ z => z)) (fun _ _ _ _ z => z) (pmr_v (pm_var 0) (pmr_v (pm_var 1) (pmr_v (pm_var 5) pmr_nil)))) (pe_one (pm_cmp (bin_inA (room65 hr)) (pm_tup (pma_cons (pm_var 2) (pma_cons pm_int pma_nil))) (pm_var 5) rfl))))) (pms_nil)) (pms_one (ow1 := []) (pmt_ret (pm_andV (pm_cmp (bin_eq (room64 hr)) (pm_var 4) pm_str (nomark _)) (pm_andV (pm_def c_is_cut_of (hr.mono (by decide)) rfl (passE takesE (fun _ _ _ _ z => z)) (fun _ _ _ _ z => z) (pmr_v (pm_var 0) (pmr_v (pm_var 1) (pmr_v (pm_var 5) pmr_nil)))) (pe_one (pm_cmp (bin_inA (room65 hr)) (pm_var 2) (pm_ixA (hu1 (room65 hr)) (pm_def c_cut_wires (hr.mono (by decide)) rfl (passE takesE (fun _ _ _ _ z => z)) (fun _ _ _ _ z => z) (pmr_v (pm_var 0) (pmr_v (pm_var 5) pmr_nil))) pm_int) rfl))))))))))
theorem dn_is_loop_or_cut (T : Tx mg) (c_check_paint : Dn P w K mg tt base (L2.CX P w) "check_paint" 6 3 [] m_check_paint) (c_cut_wires : Dn P w K mg tt base (L2.CX P w) "cut_wires" 7 2 [] m_cut_wires) (c_is_cut_of : Dn P w K mg tt base (L2.CX P w) "is_cut_of" 8 3 [] m_is_cut_of) (c_is_loop_of : Dn P w K mg tt base (L2.CX P w) "is_loop_of" 7 3 [] m_is_loop_of) (c_is_tuple_of : Dn P w K mg tt base CX0 "is_tuple_of" 3 2 [] m_is_tuple_of) {f : Addr} {fd : FuncData} (Fd : FnP K "is_loop_or_cut" s_is_loop_or_cut f fd) (hm : mg "is_loop_or_cut" = some (.ref f)) : Dn P w K mg tt base (L2.CX P w) "is_loop_or_cut" 9 4 [] m_is_loop_or_cut :=
  ⟨f, fd, ["net", "kinds", "wire", "value"], ok_is_loop_or_cut T c_check_paint c_cut_wires c_is_cut_of c_is_loop_of c_is_tuple_of Fd, hm, Fd.kp, Fd.bindsN fun _ _ _ _ _ _ us hl => match us, hl with | [_, _, _, _], _ => rfl⟩
theorem sc_reached : FnScope ["net", "kinds", "knot"] ["net", "kinds", "knot"] (defScope s_reached) := ⟨rfl, rfl, rfl, by decide +kernel, rfl, by decide +kernel, by decide +kernel⟩
def ms_reached : Ms := (mSeq (mExpr (mDef 1 [] m_check_net (mrV (mVar 0) mrNil))) (mSeq (mExpr (mDef 2 [] m_check_kinds (mrV (mVar 0) (mrV (mVar 1) mrNil)))) (mSeq (mExpr (mDef 2 [] m_check_knot (mrV (mVar 0) (mrV (mVar 2) mrNil)))) (mRet (mCall gTuple (mCons (mCall gSorted (mCons (mCall gListA (mCons (mDef 3 [] m_shortest_ways (mrV (mVar 0) (mrV (mVar 2) (mrV (mDef 1 [] m_steps_of (mrV (mVar 1) mrNil)) mrNil)))) mNil)) mNil)) mNil))))))
def m_reached : List PV → Out PV := runE 3 ms_reached
instance : MayEx m_reached := ⟨trivial⟩
theorem ok_reached (T : Tx mg) (c_check_kinds : Dn P w K mg tt base (L2.CX P w) "check_kinds" 5 2 [] m_check_kinds) (c_check_knot : Dn P w K mg tt base (L2.CX P w) "check_knot" 5 2 [] m_check_knot) (c_check_net : Dn P w K mg tt base (L2.CX P w) "check_net" 3 1 [] m_check_net) (c_shortest_ways : Dn P w K mg tt base CX0 "shortest_ways" 4 3 [] m_shortest_ways) (c_steps_of : Dn P w K mg tt base CX0 "steps_of" 4 1 [] m_steps_of) {f : Addr} {fd : FuncData} (Fd : FnP K "reached" s_reached f fd) : FnOk P w K mg base (L2.CX P w) 6 f fd ["net", "kinds", "knot"] (spM ⟨K, mg, tt⟩ 3 [] m_reached) :=
  have nd := (sc_reached).nd
  fnE (oz := []) Fd sc_reached fun G cdv A outer s H E hr => (pms_cons (ow1 := []) (ow2 := []) (pmt_expr (pm_def c_check_net (hr.mono (by decide)) rfl (passE takesE (fun _ _ _ _ z => z)) (fun _ _ _ _ z => z) (pmr_v (pm_var 0) pmr_nil))) (pms_cons (ow1 := []) (ow2 := []) (pmt_expr (pm_def c_check_kinds (hr.mono (by decide)) rfl (passE takesE (fun _ _ _ _ z => z)) (fun _ _ _ _ z => z) (pmr_v (pm_var 0) (pmr_v (pm_var 1) pmr_nil)))) (pms_cons (ow1 := []) (ow2 := []) (pmt_expr (pm_def c_check_knot (hr.mono (by decide)) rfl (passE takesE (fun _ _ _ _ z => z)) (fun _ _ _ _ z => z) (pmr_v (pm_var 0) (pmr_v (pm_var 2) pmr_nil)))) (pms_one (ow1 := []) (pmt_ret (pm_callTy co_tuple rfl T.g_tuple (by decide +kernel) (pma_cons (pm_callB co_sorted rfl T.g_sorted (by decide +kernel) (pma_cons (pm_callTy co_listA rfl T.g_list (by decide +kernel) (pma_cons (pm_def c_shortest_ways (hr.mono (by decide)) rfl pass0E (fun _ _ _ _ z => z) (pmr_v (pm_var 0) (pmr_v (pm_var 2) (pmr_v (pm_def c_steps_of (hr.mono (by decide)) rfl pass0E (fun _ _ _ _ z => z) (pmr_v (pm_var 1) pmr_nil)) pmr_nil)))) pma_nil)) pma_nil)) pma_nil)))))))
theorem dn_reached (T : Tx mg) (c_check_kinds : Dn P w K mg tt base (L2.CX P w) "check_kinds" 5 2 [] m_check_kinds) (c_check_knot : Dn P w K mg tt base (L2.CX P w) "check_knot" 5 2 [] m_check_knot) (c_check_net : Dn P w K mg tt base (L2.CX P w) "check_net" 3 1 [] m_check_net) (c_shortest_ways : Dn P w K mg tt base CX0 "shortest_ways" 4 3 [] m_shortest_ways) (c_steps_of : Dn P w K mg tt base CX0 "steps_of" 4 1 [] m_steps_of) {f : Addr} {fd : FuncData} (Fd : FnP K "reached" s_reached f fd) (hm : mg "reached" = some (.ref f)) : Dn P w K mg tt base (L2.CX P w) "reached" 6 3 [] m_reached :=
  ⟨f, fd, ["net", "kinds", "knot"], ok_reached T c_check_kinds c_check_knot c_check_net c_shortest_ways c_steps_of Fd, hm, Fd.kp, Fd.bindsN fun _ _ _ _ _ _ us hl => match us, hl with | [_, _, _], _ => rfl⟩
theorem sc_parted : FnScope ["net", "kinds", "words", "wire"] ["net", "kinds"] (defScope s_parted) := ⟨rfl, rfl, rfl, by decide +kernel, rfl, by decide +kernel, by decide +kernel⟩
def cE1_parted : Mo PV := (mBin pIxA (mDef 3 [] m_answer_by (mrV (mVar 0) (mrV (mVar 1) (mrV (mVar 3) mrNil)))) (mC (.int 0)))
def cT1_parted : Mo Bool := (mTB (mBin pEq (mBin pIxA (mVar 2) (mVar 3)) (mC (.str "cut"))))
def cT2_parted : Mo Bool := (mTB (mBin pEq (mBin pIxA (mVar 2) (mVar 3)) (mC (.str "loop"))))
def ms_parted : Ms := (mSeq (mExpr (mDef 1 [] m_check_net (mrV (mVar 0) mrNil))) (mSeq (mExpr (mDef 2 [] m_check_kinds (mrV (mVar 0) (mrV (mVar 1) mrNil)))) (mSeq (mSet 2 (mFz (mDc [3] (tN 3) mYes (mVar 3) cE1_parted (mIt (mDef 2 [] m_wires_of (mrV (mVar 1) (mrV (mC (.str "one")) mrNil))))))) (mRet (mTup (mCons (mCall gTuple (mCons (mLc [3] (tN 3) cT2_parted (mVar 3) (mItK (mVar 2))) mNil)) (mCons (mCall gTuple (mCons (mLc [3] (tN 3) cT1_parted (mVar 3) (mItK (mVar 2))) mNil)) mNil)))))))
def m_parted : List PV → Out PV := runE 4 ms_parted
instance : MayEx m_parted := ⟨trivial⟩
theorem ok_parted (T : Tx mg) (c_answer_by : Dn P w K mg tt base CX0 "answer_by" 5 3 [] m_answer_by) (c_check_kinds : Dn P w K mg tt base (L2.CX P w) "check_kinds" 5 2 [] m_check_kinds) (c_check_net : Dn P w K mg tt base (L2.CX P w) "check_net" 3 1 [] m_check_net) (c_wires_of : Dn P w K mg tt base CX0 "wires_of" 3 2 [] m_wires_of) {f : Addr} {fd : FuncData} (Fd : FnP K "parted" s_parted f fd) : FnOk P w K mg base (L2.CX P w) 6 f fd ["net", "kinds"] (spM ⟨K, mg, tt⟩ 2 [] m_parted) :=
  have nd := (sc_parted).nd
  fnE (oz := []) Fd sc_parted fun G cdv A outer s H E hr => (pms_cons (ow1 := []) (ow2 := []) (pmt_expr (pm_def c_check_net (hr.mono (by decide)) rfl (passE takesE (fun _ _ _ _ z => z)) (fun _ _ _ _ z => z) (pmr_v (pm_var 0) pmr_nil))) (pms_cons (ow1 := []) (ow2 := []) (pmt_expr (pm_def c_check_kinds (hr.mono (by decide)) rfl (passE takesE (fun _ _ _ _ z => z)) (fun _ _ _ _ z => z) (pmr_v (pm_var 0) (pmr_v (pm_var 1) pmr_nil)))) (pms_cons (ow1 := []) (ow2 := []) (pmt_set 2 nd (pm_frz (pmf_dc (own := [("wire", 3)]) nd (pmi_seq (pm_def c_wires_of (hr.mono (by decide)) rfl pass0E (fun _ _ _ _ z => z) (pmr_v (pm_var 1) (pmr_v pm_str pmr_nil)))) (blkOk_by (own := [("wire", 3)]) (N := ["net", "kinds", "words", "wire"]) (sc := defScope s_parted) (by decide +kernel)) (fun _ _ _ _ _ => (pg_name (i := 3) nd rfl (.inl rfl))) (fun _ _ _ _ _ _ => pmts_nil) (fun _ _ _ _ _ _ => (pm_var 3)) (fun _ _ _ _ _ _ => (pm_ixA (hu1 (room65 hr)) (pm_def c_answer_by (hr.mono (by decide)) rfl pass0E (fun _ _ _ _ z => z) (pmr_v (pm_var 0) (pmr_v (pm_var 1) (pmr_v (pm_var 3) pmr_nil)))) pm_int)) (fun _ => (tg_name 3))))) (pms_one (ow1 := []) (pmt_ret (pm_tup (pma_cons (pm_callTy co_tuple rfl T.g_tuple (by decide +kernel) (pma_cons (pm_lc (own := [("wire", 3)]) nd (pmi_keys (pm_var 2)) (blkOk_by (own := [("wire", 3)]) (N := ["net", "kinds", "words", "wire"]) (sc := defScope s_parted) (by decide +kernel)) (fun _ _ _ _ _ => (pg_name (i := 3) nd rfl (.inl rfl))) (fun _ _ _ _ _ _ => (pmts_one (pm_tcmp (bin_eq (room64 hr)) (pm_ixA (hu1 (room65 hr)) (pm_var 2) (pm_var 3)) pm_str (nomark _)))) (fun _ _ _ _ _ _ => (pm_var 3)) (fun _ => (tg_name 3))) pma_nil)) (pma_cons (pm_callTy co_tuple rfl T.g_tuple (by decide +kernel) (pma_cons (pm_lc (own := [("wire", 3)]) nd (pmi_keys (pm_var 2)) (blkOk_by (own := [("wire", 3)]) (N := ["net", "kinds", "words", "wire"]) (sc := defScope s_parted) (by decide +kernel)) (fun _ _ _ _ _ => (pg_name (i := 3) nd rfl (.inl rfl))) (fun _ _ _ _ _ _ => (pmts_one (pm_tcmp (bin_eq (room64 hr)) (pm_ixA (hu1 (room65 hr)) (pm_var 2) (pm_var 3)) pm_str (nomark _)))) (fun _ _ _ _ _ _ => (pm_var 3)) (fun _ => (tg_name 3))) pma_nil)) pma_nil))))))))
theorem dn_parted (T : Tx mg) (c_answer_by : Dn P w K mg tt base CX0 "answer_by" 5 3 [] m_answer_by) (c_check_kinds : Dn P w K mg tt base (L2.CX P w) "check_kinds" 5 2 [] m_check_kinds) (c_check_net : Dn P w K mg tt base (L2.CX P w) "check_net" 3 1 [] m_check_net) (c_wires_of : Dn P w K mg tt base CX0 "wires_of" 3 2 [] m_wires_of) {f : Addr} {fd : FuncData} (Fd : FnP K "parted" s_parted f fd) (hm : mg "parted" = some (.ref f)) : Dn P w K mg tt base (L2.CX P w) "parted" 6 2 [] m_parted :=
  ⟨f, fd, ["net", "kinds"], ok_parted T c_answer_by c_check_kinds c_check_net c_wires_of Fd, hm, Fd.kp, Fd.bindsN fun _ _ _ _ _ _ us hl => match us, hl with | [_, _], _ => rfl⟩
theorem sc_added : FnScope ["row", "other", "k"] ["row", "other"] (defScope s_added) := ⟨rfl, rfl, rfl, by decide +kernel, rfl, by decide +kernel, by decide +kernel⟩
def cE1_added : Mo PV := (mBin pAdd (mBin pIxA (mVar 0) (mVar 2)) (mBin pIxA (mVar 1) (mVar 2)))
def ms_added : Ms := (mRet (mLc [2] (tN 2) mYes cE1_added (mItA iRange1 (mCons (mCall (gLenC "Net" "_wires") (mCons (mVar 0) mNil)) mNil))))
def m_added : List PV → Out PV := runN 3 ms_added
instance : NoEx m_added := runN_noex _ _
theorem ok_added (T : Tx mg) (N_Net : LnX P w K mg base "Net" "_wires") (T_Net : OC K mg "Net" ["_knots", "_wires"]) {f : Addr} {fd : FuncData} (Fd : FnP K "added" s_added f fd) : FnOk P w K mg base CX0 3 f fd ["row", "other"] (spM ⟨K, mg, tt⟩ 2 [] m_added) :=
  have nd := (sc_added).nd
  fnN (oz := []) Fd sc_added fun G cdv A outer s H E hr => (pms_one (ow1 := []) (pmt_ret (pm_lc (own := [("k", 2)]) nd (pmi_range1 rfl T.g_range (pma_cons (pm_callB (co_lenC T_Net N_Net (hr.mono (by decide))) rfl T.g_len (by decide +kernel) (pma_cons (pm_var 0) pma_nil)) pma_nil)) (blkOk_by (own := [("k", 2)]) (N := ["row", "other", "k"]) (sc := defScope s_added) (by decide +kernel)) (fun _ _ _ _ _ => (pg_name (i := 2) nd rfl (.inl rfl))) (fun _ _ _ _ _ _ => pmts_nil) (fun _ _ _ _ _ _ => (pm_bin bin_add (pm_ixA (hu1 (room65 hr)) (pm_var 0) (pm_var 2)) (pm_ixA (hu1 (room65 hr)) (pm_var 1) (pm_var 2)))) (fun _ => (tg_name 2)))))
theorem dn_added (T : Tx mg) (N_Net : LnX P w K mg base "Net" "_wires") (T_Net : OC K mg "Net" ["_knots", "_wires"]) {f : Addr} {fd : FuncData} (Fd : FnP K "added" s_added f fd) (hm : mg "added" = some (.ref f)) : Dn P w K mg tt base CX0 "added" 3 2 [] m_added :=
  ⟨f, fd, ["row", "other"], ok_added T N_Net T_Net Fd, hm, Fd.kp, Fd.bindsN fun _ _ _ _ _ _ us hl => match us, hl with | [_, _], _ => rfl⟩
theorem sc_witness : FnScope ["net", "kinds", "currents", "heights", "wire", "word", "told"] ["net", "kinds"] (defScope s_witness) := ⟨rfl, rfl, rfl, by decide +kernel, rfl, by decide +kernel, by decide +kernel⟩
def lB1_witness : Ms := (mSeq (mUnp [5, 6] (mDef 3 [] m_answer_by (mrV (mVar 0) (mrV (mVar 1) (mrV (mVar 4) mrNil))))) (mIfS (mTB (mBin pEq (mVar 5) (mC (.str "loop")))) (mSet 2 (mDef 2 [] m_added (mrV (mVar 2) (mrV (mDef 2 [] m_currents_by (mrV (mVar 0) (mrV (mVar 6) mrNil))) mrNil)))) (mSet 3 (mDef 2 [] m_added (mrV (mVar 3) (mrV (mDef 2 [] m_heights_by (mrV (mVar 0) (mrV (mVar 6) mrNil))) mrNil))))))
def ms_witness : Ms := (mSeq (mExpr (mDef 1 [] m_check_net (mrV (mVar 0) mrNil))) (mSeq (mExpr (mDef 2 [] m_check_kinds (mrV (mVar 0) (mrV (mVar 1) mrNil)))) (mSeq (mPar [2, 3] (mCons (mBin pMul (mLst (mCons (mC (.int 0)) mNil)) (mCall (gLenC "Net" "_wires") (mCons (mVar 0) mNil))) (mCons (mBin pMul (mLst (mCons (mC (.int 0)) mNil)) (mUn (gFld "Net" "_knots") (mVar 0))) mNil))) (mSeq (mFor (mIt (mDef 2 [] m_wires_of (mrV (mVar 1) (mrV (mC (.str "one")) mrNil)))) (tN 4) lB1_witness) (mRet (mTup (mCons (mCall gTuple (mCons (mVar 2) mNil)) (mCons (mCall gTuple (mCons (mVar 3) mNil)) mNil))))))))
def m_witness : List PV → Out PV := runE 7 ms_witness
instance : MayEx m_witness := ⟨trivial⟩
theorem ok_witness (T : Tx mg) (c_added : Dn P w K mg tt base CX0 "added" 3 2 [] m_added) (c_answer_by : Dn P w K mg tt base CX0 "answer_by" 5 3 [] m_answer_by) (c_check_kinds : Dn P w K mg tt base (L2.CX P w) "check_kinds" 5 2 [] m_check_kinds) (c_check_net : Dn P w K mg tt base (L2.CX P w) "check_net" 3 1 [] m_check_net) (c_currents_by : Dn P w K mg tt base CX0 "currents_by" 3 2 [] m_currents_by) (c_heights_by : Dn P w K mg tt base CX0 "heights_by" 3 2 [] m_heights_by) (c_wires_of : Dn P w K mg tt base CX0 "wires_of" 3 2 [] m_wires_of) (N_Net : LnX P w K mg base "Net" "_wires") (P_Net_knots : PrX P w K mg base "Net" "knots" "_knots") (T_Net : OC K mg "Net" ["_knots", "_wires"]) {f : Addr} {fd : FuncData} (Fd : FnP K "witness" s_witness f fd) : FnOk P w K mg base (L2.CX P w) 6 f fd ["net", "kinds"] (spM ⟨K, mg, tt⟩ 2 [] m_witness) :=
  have nd := (sc_witness).nd
  fnE (oz := []) Fd sc_witness fun G cdv A outer s H E hr => (pms_cons (ow1 := []) (ow2 := []) (pmt_expr (pm_def c_check_net (hr.mono (by decide)) rfl (passE takesE (fun _ _ _ _ z => z)) (fun _ _ _ _ z => z) (pmr_v (pm_var 0) pmr_nil))) (pms_cons (ow1 := []) (ow2 := []) (pmt_expr (pm_def c_check_kinds (hr.mono (by decide)) rfl (passE takesE (fun _ _ _ _ z => z)) (fun _ _ _ _ z => z) (pmr_v (pm_var 0) (pmr_v (pm_var 1) pmr_nil)))) (pms_cons (ow1 := []) (ow2 := []) (pmt_par2 [false, false] 2 3 (ow' := []) nd (pmg_v (pm_bin bin_mul (pm_lst (pma_cons pm_int pma_nil)) (pm_callB (co_lenC T_Net N_Net (hr.mono (by decide))) rfl T.g_len (by decide +kernel) (pma_cons (pm_var 0) pma_nil))) (pmg_v (pm_bin bin_mul (pm_lst (pma_cons pm_int pma_nil)) (pm_prop T_Net P_Net_knots (hr.mono (by decide)) (pm_var 0))) pmg_nil))) (pms_cons (ow1 := []) (ow2 := []) (pmt_for (passes_of rfl) (pmi_seq (pm_def c_wires_of (hr.mono (by decide)) rfl pass0E (fun _ _ _ _ z => z) (pmr_v (pm_var 1) (pmr_v pm_str pmr_nil)))) (pg_name (i := 4) nd rfl (by first | exact .inl rfl | exact .inr rfl)) (tg_name 4) (pms_cons (ow1 := []) (ow2 := []) (pmt_unp [5, 6] (pm_def c_answer_by (hr.mono (by decide)) rfl pass0E (fun _ _ _ _ z => z) (pmr_v (pm_var 0) (pmr_v (pm_var 1) (pmr_v (pm_var 4) pmr_nil)))) (pgs_cons (pg_name (i := 5) nd rfl (by first | exact .inl rfl | exact .inr rfl)) (pgs_cons (pg_name (i := 6) nd rfl (by first | exact .inl rfl | exact .inr rfl)) pgs_nil))) (pms_one (ow1 := []) (pmt_if (pm_tcmp (bin_eq (room64 hr)) (pm_var 5) pm_str (nomark _)) (pms_one (ow1 := []) (pmt_set 2 nd (pm_def c_added (hr.mono (by decide)) rfl pass0E (fun _ _ _ _ z => z) (pmr_v (pm_var 2) (pmr_v (pm_def c_currents_by (hr.mono (by decide)) rfl pass0E (fun _ _ _ _ z => z) (pmr_v (pm_var 0) (pmr_v (pm_var 6) pmr_nil))) pmr_nil))))) (pms_one (ow1 := []) (pmt_set 3 nd (pm_def c_added (hr.mono (by decide)) rfl pass0E (fun _ _ _ _ z => z) (pmr_v (pm_var 3) (pmr_v (pm_def c_heights_by (hr.mono (by decide)) rfl pass0E (fun _ _ _ _ z => z) (pmr_v (pm_var 0) (pmr_v (pm_var 6) pmr_nil))) pmr_nil))))))))) (pms_one (ow1 := []) (pmt_ret (pm_tup (pma_cons (pm_callTy co_tuple rfl T.g_tuple (by decide +kernel) (pma_cons (pm_var 2) pma_nil)) (pma_cons (pm_callTy co_tuple rfl T.g_tuple (by decide +kernel) (pma_cons (pm_var 3) pma_nil)) pma_nil)))))))))
theorem dn_witness (T : Tx mg) (c_added : Dn P w K mg tt base CX0 "added" 3 2 [] m_added) (c_answer_by : Dn P w K mg tt base CX0 "answer_by" 5 3 [] m_answer_by) (c_check_kinds : Dn P w K mg tt base (L2.CX P w) "check_kinds" 5 2 [] m_check_kinds) (c_check_net : Dn P w K mg tt base (L2.CX P w) "check_net" 3 1 [] m_check_net) (c_currents_by : Dn P w K mg tt base CX0 "currents_by" 3 2 [] m_currents_by) (c_heights_by : Dn P w K mg tt base CX0 "heights_by" 3 2 [] m_heights_by) (c_wires_of : Dn P w K mg tt base CX0 "wires_of" 3 2 [] m_wires_of) (N_Net : LnX P w K mg base "Net" "_wires") (P_Net_knots : PrX P w K mg base "Net" "knots" "_knots") (T_Net : OC K mg "Net" ["_knots", "_wires"]) {f : Addr} {fd : FuncData} (Fd : FnP K "witness" s_witness f fd) (hm : mg "witness" = some (.ref f)) : Dn P w K mg tt base (L2.CX P w) "witness" 6 2 [] m_witness :=
  ⟨f, fd, ["net", "kinds"], ok_witness T c_added c_answer_by c_check_kinds c_check_net c_currents_by c_heights_by c_wires_of N_Net P_Net_knots T_Net Fd, hm, Fd.kp, Fd.bindsN fun _ _ _ _ _ _ us hl => match us, hl with | [_, _], _ => rfl⟩
theorem sc_is_shown : FnScope ["kind", "current", "tension"] ["kind", "current", "tension"] (defScope s_is_shown) := ⟨rfl, rfl, rfl, by decide +kernel, rfl, by decide +kernel, by decide +kernel⟩
def ms_is_shown : Ms := (mSeq (mIfS (mTB (mBin pEq (mVar 0) (mC (.str "barred")))) (mRet (mBin pEq (mVar 1) (mC (.int 0)))) mNext) (mSeq (mIfS (mTB (mBin pEq (mVar 0) (mC (.str "free")))) (mRet (mBin pEq (mVar 2) (mC (.int 0)))) mNext) (mRet (mOrV (mAndV (mBin (pB fun i j => decide (j < i)) (mVar 1) (mC (.int 0))) (mBin pEq (mVar 2) (mC (.int 0)))) (mAndV (mBin pEq (mVar 1) (mC (.int 0))) (mBin (pB fun i j => decide (j < i)) (mVar 2) (mC (.int 0))))))))
def m_is_shown : List PV → Out PV := runN 3 ms_is_shown
instance : NoEx m_is_shown := runN_noex _ _
theorem ok_is_shown (T : Tx mg) {f : Addr} {fd : FuncData} (Fd : FnP K "is_shown" s_is_shown f fd) : FnOk P w K mg base CX0 3 f fd ["kind", "current", "tension"] (spM ⟨K, mg, tt⟩ 3 [] m_is_shown) :=
  have nd := (sc_is_shown).nd
  fnN (oz := []) Fd sc_is_shown fun G cdv A outer s H E hr => (pms_cons (ow1 := []) (ow2 := []) (pmt_if (pm_tcmp (bin_eq (room64 hr)) (pm_var 0) pm_str (nomark _)) (pms_one (ow1 := []) (pmt_ret (pm_cmp (bin_eq (room64 hr)) (pm_var 1) pm_int (nomark _)))) (pms_nil)) (pms_cons (ow1 := []) (ow2 := []) (pmt_if (pm_tcmp (bin_eq (room64 hr)) (pm_var 0) pm_str (nomark _)) (pms_one (ow1 := []) (pmt_ret (pm_cmp (bin_eq (room64 hr)) (pm_var 2) pm_int (nomark _)))) (pms_nil)) (pms_one (ow1 := []) (pmt_ret (pm_orV (pm_andV (pm_cmp bin_gt (pm_var 1) pm_int (nomark _)) (pe_one (pm_cmp (bin_eq (room64 hr)) (pm_var 2) pm_int (nomark _)))) (pe_one (pm_andV (pm_cmp (bin_eq (room64 hr)) (pm_var 1) pm_int (nomark _)) (pe_one (pm_cmp bin_gt (pm_var 2) pm_int (nomark _))))))))))
theorem dn_is_shown (T : Tx mg) {f : Addr} {fd : FuncData} (Fd : FnP K "is_shown" s_is_shown f fd) (hm : mg "is_shown" = some (.ref f)) : Dn P w K mg tt base CX0 "is_shown" 3 3 [] m_is_shown :=
  ⟨f, fd, ["kind", "current", "tension"], ok_is_shown T  Fd, hm, Fd.kp, Fd.bindsN fun _ _ _ _ _ _ us hl => match us, hl with | [_, _, _], _ => rfl⟩
theorem sc_is_witness : FnScope ["net", "kinds", "value", "currents", "heights", "tensions", "more", "k"] ["net", "kinds", "value"] (defScope s_is_witness) := ⟨rfl, rfl, rfl, by decide +kernel, rfl, by decide +kernel, by decide +kernel⟩
def cE1_is_witness : Mo PV := (mBin pNe (mVar 6) (mC (.int 0)))
def cE2_is_witness : Mo PV := (mDef 3 [] m_is_shown (mrV (mBin pIxA (mVar 1) (mVar 7)) (mrV (mBin pIxA (mVar 3) (mVar 7)) (mrV (mBin pIxA (mVar 5) (mVar 7)) mrNil))))
def ms_is_witness : Ms := (mSeq (mExpr (mDef 1 [] m_check_net (mrV (mVar 0) mrNil))) (mSeq (mExpr (mDef 2 [] m_check_kinds (mrV (mVar 0) (mrV (mVar 1) mrNil)))) (mSeq (mIfS (mNot (mTr (mDef 2 [] m_is_tuple_of (mrV (mVar 2) (mrV (mC (.int 2)) mrNil))))) (mRet (mC (.bl false))) mNext) (mSeq (mUnp [3, 4] (mVar 2)) (mSeq (mIfS (mOr (mNot (mTr (mDef 2 [] m_is_row (mrV (mVar 3) (mrV (mCall (gLenC "Net" "_wires") (mCons (mVar 0) mNil)) mrNil))))) (mNot (mTr (mDef 2 [] m_is_row (mrV (mVar 4) (mrV (mUn (gFld "Net" "_knots") (mVar 0)) mrNil)))))) (mRet (mC (.bl false))) mNext) (mSeq (mIfS (mTr (mCall gAny (mCons (mLc [6] (tN 6) mYes cE1_is_witness (mIt (mDef 2 [] m_surplus_by (mrV (mVar 0) (mrV (mVar 3) mrNil))))) mNil))) (mRet (mC (.bl false))) mNext) (mSeq (mSet 5 (mDef 2 [] m_drops_by (mrV (mVar 0) (mrV (mVar 4) mrNil)))) (mRet (mCall gAll (mCons (mLc [7] (tN 7) mYes cE2_is_witness (mItA iRange1 (mCons (mCall (gLenC "Net" "_wires") (mCons (mVar 0) mNil)) mNil))) mNil))))))))))
def m_is_witness : List PV → Out PV := runE 8 ms_is_witness
instance : MayEx m_is_witness := ⟨trivial⟩
theorem ok_is_witness (T : Tx mg) (c_check_kinds : Dn P w K mg tt base (L2.CX P w) "check_kinds" 5 2 [] m_check_kinds) (c_check_net : Dn P w K mg tt base (L2.CX P w) "check_net" 3 1 [] m_check_net) (c_drops_by : Dn P w K mg tt base CX0 "drops_by" 3 2 [] m_drops_by) (c_is_row : Dn P w K mg tt base CX0 "is_row" 4 2 [] m_is_row) (c_is_shown : Dn P w K mg tt base CX0 "is_shown" 3 3 [] m_is_shown) (c_is_tuple_of : Dn P w K mg tt base CX0 "is_tuple_of" 3 2 [] m_is_tuple_of) (c_surplus_by : Dn P w K mg tt base CX0 "surplus_by" 3 2 [] m_surplus_by) (N_Net : LnX P w K mg base "Net" "_wires") (P_Net_knots : PrX P w K mg base "Net" "knots" "_knots") (T_Net : OC K mg "Net" ["_knots", "_wires"]) {f : Addr} {fd : FuncData} (Fd : FnP K "is_witness" s_is_witness f fd) : FnOk P w K mg base (L2.CX P w) 6 f fd ["net", "kinds", "value"] (spM ⟨K, mg, tt⟩ 3 [] m_is_witness) :=
  have nd := (sc_is_witness).nd
  fnE (oz := []) Fd sc_is_witness fun G cdv A outer s H E hr => (pms_cons (ow1 := []) (ow2 := []) (pmt_expr (pm_def c_check_net (hr.mono (by decide)) rfl (passE takesE (fun _ _ _ _ z => z)) (fun _ _ _ _ z => z) (pmr_v (pm_var 0) pmr_nil))) (pms_cons (ow1 := []) (ow2 := []) (pmt_expr (pm_def c_check_kinds (hr.mono (by decide)) rfl (passE takesE (fun _ _ _ _ z => z)) (fun _ _ _ _ z => z) (pmr_v (pm_var 0) (pmr_v (pm_var 1) pmr_nil)))) (pms_cons (ow1 := []) (ow2 := []) (pmt_if (pm_not (pm_tr (pm_def c_is_tuple_of (hr.mono (by decide)) rfl pass0E (fun _ _ _ _ z => z) (pmr_v (pm_var 2) (pmr_v pm_int pmr_nil))))) (pms_one (ow1 := []) (pmt_ret pm_bl)) (pms_nil)) (pms_cons (ow1 := []) (ow2 := []) (pmt_unp [3, 4] (pm_var 2) (pgs_cons (pg_name (i := 3) nd rfl (by first | exact .inl rfl | exact .inr rfl)) (pgs_cons (pg_name (i := 4) nd rfl (by first | exact .inl rfl | exact .inr rfl)) pgs_nil))) (pms_cons (ow1 := []) (ow2 := []) (pmt_if (PW.pt (pw_orM (pm_not (pm_tr (pm_def c_is_row (hr.mono (by decide)) rfl pass0E (fun _ _ _ _ z => z) (pmr_v (pm_var 3) (pmr_v (pm_callB (co_lenC T_Net N_Net (hr.mono (by decide))) rfl T.g_len (by decide +kernel) (pma_cons (pm_var 0) pma_nil)) pmr_nil))))) (pw_or1 (pm_not (pm_tr (pm_def c_is_row (hr.mono (by decide)) rfl pass0E (fun _ _ _ _ z => z) (pmr_v (pm_var 4) (pmr_v (pm_prop T_Net P_Net_knots (hr.mono (by decide)) (pm_var 0)) pmr_nil)))))))) (pms_one (ow1 := []) (pmt_ret pm_bl)) (pms_nil)) (pms_cons (ow1 := []) (ow2 := []) (pmt_if (pm_tr (pm_callB co_any rfl T.g_any (by decide +kernel) (pma_cons (pm_lc (own := [("more", 6)]) nd (pmi_seq (pm_def c_surplus_by (hr.mono (by decide)) rfl pass0E (fun _ _ _ _ z => z) (pmr_v (pm_var 0) (pmr_v (pm_var 3) pmr_nil)))) (blkOk_by (own := [("more", 6)]) (N := ["net", "kinds", "value", "currents", "heights", "tensions", "more", "k"]) (sc := defScope s_is_witness) (by decide +kernel)) (fun _ _ _ _ _ => (pg_name (i := 6) nd rfl (.inl rfl))) (fun _ _ _ _ _ _ => pmts_nil) (fun _ _ _ _ _ _ => (pm_cmp (bin_ne (room64 hr)) (pm_var 6) pm_int (nomark _))) (fun _ => (tg_name 6))) pma_nil))) (pms_one (ow1 := []) (pmt_ret pm_bl)) (pms_nil)) (pms_cons (ow1 := []) (ow2 := []) (pmt_set 5 nd (pm_def c_drops_by (hr.mono (by decide)) rfl pass0E (fun _ _ _ _ z => z) (pmr_v (pm_var 0) (pmr_v (pm_var 4) pmr_nil)))) (pms_one (ow1 := []) (pmt_ret (pm_callB co_all rfl T.g_all (by decide +kernel) (pma_cons (pm_lc (own := [("k", 7)]) nd (pmi_range1 rfl T.g_range (pma_cons (pm_callB (co_lenC T_Net N_Net (hr.mono (by decide))) rfl T.g_len (by decide +kernel) (pma_cons (pm_var 0) pma_nil)) pma_nil)) (blkOk_by (own := [("k", 7)]) (N := ["net", "kinds", "value", "currents", "heights", "tensions", "more", "k"]) (sc := defScope s_is_witness) (by decide +kernel)) (fun _ _ _ _ _ => (pg_name (i := 7) nd rfl (.inl rfl))) (fun _ _ _ _ _ _ => pmts_nil) (fun _ _ _ _ _ _ => (pm_def c_is_shown (hr.mono (by decide)) rfl pass0E (fun _ _ _ _ z => z) (pmr_v (pm_ixA (hu1 (room65 hr)) (pm_var 1) (pm_var 7)) (pmr_v (pm_ixA (hu1 (room65 hr)) (pm_var 3) (pm_var 7)) (pmr_v (pm_ixA (hu1 (room65 hr)) (pm_var 5) (pm_var 7)) pmr_nil))))) (fun _ => (tg_name 7))) pma_nil)))))))))))
theorem dn_is_witness (T : Tx mg) (c_check_kinds : Dn P w K mg tt base (L2.CX P w) "check_kinds" 5 2 [] m_check_kinds) (c_check_net : Dn P w K mg tt base (L2.CX P w) "check_net" 3 1 [] m_check_net) (c_drops_by : Dn P w K mg tt base CX0 "drops_by" 3 2 [] m_drops_by) (c_is_row : Dn P w K mg tt base CX0 "is_row" 4 2 [] m_is_row) (c_is_shown : Dn P w K mg tt base CX0 "is_shown" 3 3 [] m_is_shown) (c_is_tuple_of : Dn P w K mg tt base CX0 "is_tuple_of" 3 2 [] m_is_tuple_of) (c_surplus_by : Dn P w K mg tt base CX0 "surplus_by" 3 2 [] m_surplus_by) (N_Net : LnX P w K mg base "Net" "_wires") (P_Net_knots : PrX P w K mg base "Net" "knots" "_knots") (T_Net : OC K mg "Net" ["_knots", "_wires"]) {f : Addr} {fd : FuncData} (Fd : FnP K "is_witness" s_is_witness f fd) (hm : mg "is_witness" = some (.ref f)) : Dn P w K mg tt base (L2.CX P w) "is_witness" 6 3 [] m_is_witness :=
  ⟨f, fd, ["net", "kinds", "value"], ok_is_witness T c_check_kinds c_check_net c_drops_by c_is_row c_is_shown c_is_tuple_of c_surplus_by N_Net P_Net_knots T_Net Fd, hm, Fd.kp, Fd.bindsN fun _ _ _ _ _ _ us hl => match us, hl with | [_, _, _], _ => rfl⟩
theorem sc__law_pail : FnScope ["script", "spot", "cell", "great", "seed"] ["script", "spot"] (defScope s__law_pail) := ⟨rfl, rfl, rfl, by decide +kernel, rfl, by decide +kernel, by decide +kernel⟩
def ms__law_pail : Ms := (mSeqN (mSet 2 (mIf (mTB (mBin (pB fun i j => decide (i < j)) (mVar 1) (mCall (gLenC "Net" "_wires") (mCons (mVar 0) mNil)))) (mCall gInt (mCons (mBin pIxA (mVar 0) (mVar 1)) mNil)) (mBin pAdd (mBin pMul (mC (.int 167)) (mVar 1)) (mC (.int 59))))) (mSeqN (mSet 3 (mBin (pIc CPos fun i j => i % j) (mCall gAbs (mCons (mVar 2) mNil)) (mBin pPow (mBin pPow (mC (.int 10)) (mC (.int 57))) (mC (.int 7))))) (mSeqN (mSet 4 (mCall gInt (mCons (mBin pAdd (mBin pAdd (mBin pAdd (mBin pMul (mBin (pIc CPos fun i j => i % j) (mVar 3) (mC (.int 2305843009213693921))) (mC (.int 61))) (mBin pMul (mC (.int 6473)) (mVar 1))) (mBin pMul (mC (.int 31)) (mCall gInt (mCons (mBin (pB fun i j => decide (i < j)) (mVar 2) (mC (.int 0))) mNil)))) (mC (.int 89))) mNil))) (mRet (mLst (mCons (mCall gMax (mCons (mC (.int 0)) (mCons (mBin (pI fun i j => i - j) (mVar 3) (mBin pPow (mC (.int 10)) (mC (.int 16)))) mNil))) (mCons (mBin (pIc CPos fun i j => i % j) (mVar 4) (mC (.int 2305843009213693951))) (mCons (mC (.int 0)) mNil))))))))
def m__law_pail : List PV → Out PV := runF 5 ms__law_pail
theorem ok__law_pail (T : Tx mg) (N_Net : LnX P w K mg base "Net" "_wires") (T_Net : OC K mg "Net" ["_knots", "_wires"]) {f : Addr} {fd : FuncData} (Fd : FnP K "_law_pail" s__law_pail f fd) : FnOk P w K mg base CX0 3 f fd ["script", "spot"] (spMF ⟨K, mg, tt⟩ 2 m__law_pail) :=
  have nd := (sc__law_pail).nd
  fnF Fd sc__law_pail fun G cdv A outer s H E hr => (pmsF_cons (pmt_set 2 nd (pm_if (pm_tcmp bin_lt (pm_var 1) (pm_callB (co_lenC T_Net N_Net (hr.mono (by decide))) rfl T.g_len (by decide +kernel) (pma_cons (pm_var 0) pma_nil)) (nomark _)) (pm_callTy co_int rfl T.g_int (by decide +kernel) (pma_cons (pm_ixA (hu1 (room65 hr)) (pm_var 0) (pm_var 1)) pma_nil)) (pm_bin bin_add (pm_bin bin_mul pm_int (pm_var 1)) pm_int))) (pmsF_cons (pmt_set 3 nd (pm_bin bin_mod (pm_callB co_abs rfl T.g_abs (by decide +kernel) (pma_cons (pm_var 2) pma_nil)) (pm_bin bin_powB (pm_bin bin_powB pm_int pm_int) pm_int))) (pmsF_cons (pmt_set 4 nd (pm_callTy co_int rfl T.g_int (by decide +kernel) (pma_cons (pm_bin bin_add (pm_bin bin_add (pm_bin bin_add (pm_bin bin_mul (pm_bin bin_mod (pm_var 3) pm_int) pm_int) (pm_bin bin_mul pm_int (pm_var 1))) (pm_bin bin_mul pm_int (pm_callTy co_int rfl T.g_int (by decide +kernel) (pma_cons (pm_cmp bin_lt (pm_var 2) pm_int (nomark _)) pma_nil)))) pm_int) pma_nil))) (pmsF_ret (pmf_lst (pma_cons (pm_callB co_max rfl T.g_max (by decide +kernel) (pma_cons pm_int (pma_cons (pm_bin bin_sub (pm_var 3) (pm_bin bin_powB pm_int pm_int)) pma_nil))) (pma_cons (pm_bin bin_mod (pm_var 4) pm_int) (pma_cons pm_int pma_nil))))))))
theorem dn__law_pail (T : Tx mg) (N_Net : LnX P w K mg base "Net" "_wires") (T_Net : OC K mg "Net" ["_knots", "_wires"]) {f : Addr} {fd : FuncData} (Fd : FnP K "_law_pail" s__law_pail f fd) (hm : mg "_law_pail" = some (.ref f)) : DnF P w K mg tt base "_law_pail" 3 2 m__law_pail :=
  ⟨f, fd, ["script", "spot"], ok__law_pail T N_Net T_Net Fd, hm, Fd.kp, Fd.bindsN fun _ _ _ _ _ _ us hl => match us, hl with | [_, _], _ => rfl⟩
theorem sc__law_scooped : FnScope ["pail", "total", "found", "one", "two"] ["pail", "total"] (defScope s__law_scooped) := ⟨rfl, rfl, rfl, by decide +kernel, rfl, by decide +kernel, by decide +kernel⟩
def ms__law_scooped : Ms := (mSeq (mIfS (mTB (mBin (pB fun i j => decide (j < i)) (mIxOA 0 (mC (.int 0))) (mC (.int 0)))) (mSeq (mSet 2 (mBin (pIc CPos fun i j => i % j) (mCall gInt (mCons (mIxOA 0 (mC (.int 0))) mNil)) (mVar 1))) (mSeq (mSetIxA 0 (mC (.int 0)) (mBin (pIc CDivW fun i j => i / j) (mIxOA 0 (mC (.int 0))) (mVar 1))) (mRet (mVar 2)))) mNext) (mSeq (mSetIxA 0 (mC (.int 2)) (mBin pAdd (mIxOA 0 (mC (.int 2))) (mC (.int 1)))) (mSeq (mSet 3 (mBin (pIc CPos fun i j => i % j) (mCall gInt (mCons (mBin pAdd (mIxOA 0 (mC (.int 1))) (mBin pMul (mC (.int 67867979)) (mIxOA 0 (mC (.int 2))))) mNil)) (mC (.int 2305843009213693951)))) (mSeq (mSet 4 (mBin pAdd (mBin pAdd (mBin pMul (mBin (pIc CPos fun i j => i % j) (mCall gInt (mCons (mBin pAdd (mBin pMul (mVar 3) (mVar 3)) (mC (.int 49979687))) mNil)) (mC (.int 2305843009213693907))) (mC (.int 86028121))) (mVar 3)) (mBin pMul (mC (.int 23)) (mIxOA 0 (mC (.int 2)))))) (mRet (mBin (pIc CPos fun i j => i % j) (mCall gInt (mCons (mBin (pIc CDivW fun i j => i / j) (mVar 4) (mC (.int 65537))) mNil)) (mVar 1)))))))
def m__law_scooped : List PV → Out PV := runN 5 ms__law_scooped
instance : NoEx m__law_scooped := runN_noex _ _
theorem ok__law_scooped (T : Tx mg) {f : Addr} {fd : FuncData} (Fd : FnP K "_law_scooped" s__law_scooped f fd) : FnOk P w K mg base CX0 3 f fd ["pail", "total"] (spM ⟨K, mg, tt⟩ 2 [0] m__law_scooped) :=
  have nd := (sc__law_scooped).nd
  fnN (oz := [0]) Fd sc__law_scooped fun G cdv A outer s H E hr => (pms_cons (ow1 := [0]) (ow2 := [0]) (pmt_if (pm_tcmp bin_gt (pm_ixOA 0 (hu1 (room65 hr)) pm_int) pm_int (nomark _)) (pms_cons (ow1 := [0]) (ow2 := [0]) (pmt_set 2 nd (pm_bin bin_mod (pm_callTy co_int rfl T.g_int (by decide +kernel) (pma_cons (pm_ixOA 0 (hu1 (room65 hr)) pm_int) pma_nil)) (pm_var 1))) (pms_cons (ow1 := [0]) (ow2 := [0]) (pmt_setIxA 0 (hu1 (room65 hr)) (pm_bin bin_div (pm_ixOA 0 (hu1 (room65 hr)) pm_int) (pm_var 1)) pm_int) (pms_one (ow1 := [0]) (pmt_ret (pm_var 2))))) (pms_nil)) (pms_cons (ow1 := [0]) (ow2 := [0]) (pmt_setIxA 0 (hu1 (room65 hr)) (pm_bin bin_add (pm_ixOA 0 (hu1 (room65 hr)) pm_int) pm_int) pm_int) (pms_cons (ow1 := [0]) (ow2 := [0]) (pmt_set 3 nd (pm_bin bin_mod (pm_callTy co_int rfl T.g_int (by decide +kernel) (pma_cons (pm_bin bin_add (pm_ixOA 0 (hu1 (room65 hr)) pm_int) (pm_bin bin_mul pm_int (pm_ixOA 0 (hu1 (room65 hr)) pm_int))) pma_nil)) pm_int)) (pms_cons (ow1 := [0]) (ow2 := [0]) (pmt_set 4 nd (pm_bin bin_add (pm_bin bin_add (pm_bin bin_mul (pm_bin bin_mod (pm_callTy co_int rfl T.g_int (by decide +kernel) (pma_cons (pm_bin bin_add (pm_bin bin_mul (pm_var 3) (pm_var 3)) pm_int) pma_nil)) pm_int) pm_int) (pm_var 3)) (pm_bin bin_mul pm_int (pm_ixOA 0 (hu1 (room65 hr)) pm_int)))) (pms_one (ow1 := [0]) (pmt_ret (pm_bin bin_mod (pm_callTy co_int rfl T.g_int (by decide +kernel) (pma_cons (pm_bin bin_div (pm_var 4) pm_int) pma_nil)) (pm_var 1))))))))
theorem dn__law_scooped (T : Tx mg) {f : Addr} {fd : FuncData} (Fd : FnP K "_law_scooped" s__law_scooped f fd) (hm : mg "_law_scooped" = some (.ref f)) : Dn P w K mg tt base CX0 "_law_scooped" 3 2 [0] m__law_scooped :=
  ⟨f, fd, ["pail", "total"], ok__law_scooped T  Fd, hm, Fd.kp, Fd.bindsN fun _ _ _ _ _ _ us hl => match us, hl with | [_, _], _ => rfl⟩
theorem sc__law_any_of : FnScope ["pail", "items"] ["pail", "items"] (defScope s__law_any_of) := ⟨rfl, rfl, rfl, by decide +kernel, rfl, by decide +kernel, by decide +kernel⟩
def ms__law_any_of : Ms := (mRet (mBin pIxA (mVar 1) (mDef 2 [0] m__law_scooped (mrO 0 (mrV (mCall (gLenC "Net" "_wires") (mCons (mVar 1) mNil)) mrNil)))))
def m__law_any_of : List PV → Out PV := runN 2 ms__law_any_of
instance : NoEx m__law_any_of := runN_noex _ _
theorem ok__law_any_of (T : Tx mg) (c__law_scooped : Dn P w K mg tt base CX0 "_law_scooped" 3 2 [0] m__law_scooped) (N_Net : LnX P w K mg base "Net" "_wires") (T_Net : OC K mg "Net" ["_knots", "_wires"]) {f : Addr} {fd : FuncData} (Fd : FnP K "_law_any_of" s__law_any_of f fd) : FnOk P w K mg base CX0 4 f fd ["pail", "items"] (spM ⟨K, mg, tt⟩ 2 [0] m__law_any_of) :=
  have nd := (sc__law_any_of).nd
  fnN (oz := [0]) Fd sc__law_any_of fun G cdv A outer s H E hr => (pms_one (ow1 := [0]) (pmt_ret (pm_ixA (hu1 (room65 hr)) (pm_var 1) (pm_def c__law_scooped (hr.mono (by decide)) rfl pass0 (fun _ _ _ _ z => z) (pmr_o 0 (pmr_v (pm_callB (co_lenC T_Net N_Net (hr.mono (by decide))) rfl T.g_len (by decide +kernel) (pma_cons (pm_var 1) pma_nil)) pmr_nil))))))
theorem dn__law_any_of (T : Tx mg) (c__law_scooped : Dn P w K mg tt base CX0 "_law_scooped" 3 2 [0] m__law_scooped) (N_Net : LnX P w K mg base "Net" "_wires") (T_Net : OC K mg "Net" ["_knots", "_wires"]) {f : Addr} {fd : FuncData} (Fd : FnP K "_law_any_of" s__law_any_of f fd) (hm : mg "_law_any_of" = some (.ref f)) : Dn P w K mg tt base CX0 "_law_any_of" 4 2 [0] m__law_any_of :=
  ⟨f, fd, ["pail", "items"], ok__law_any_of T c__law_scooped N_Net T_Net Fd, hm, Fd.kp, Fd.bindsN fun _ _ _ _ _ _ us hl => match us, hl with | [_, _], _ => rfl⟩
theorem sc__law_met : FnScope ["call", "error"] ["call"] (defScope s__law_met) := ⟨rfl, rfl, rfl, by decide +kernel, rfl, by decide +kernel, by decide +kernel⟩
def hs__law_met : List Hn := [⟨"InvalidNet", none, fun a dd xc => mRet (mC (.str "net"))⟩, ⟨"InvalidKinds", none, fun a dd xc => mRet (mC (.str "kinds"))⟩, ⟨"InvalidNumber", (some 1), fun a dd xc => mRet (mBin pAdd (mC (.str "number ")) (mCall gRepr (mCons (mAttr a dd xc "InvalidNumber" 1 "given") mNil)))⟩, ⟨"InvalidOperation", none, fun a dd xc => mRet (mC (.str "operation"))⟩]
def msr__law_met : Ms := (mRet (mC (.str "fine")))
def g__law_met : Oc → Option PV := gL (xmOf xmL) 2 (fun _ => valS (msr__law_met (List.replicate 2 none))) hs__law_met
theorem dl__law_met (T : Tx mg) (xk : XmOk K mg (xmOf xmL)) (h_InvalidKinds : mg "InvalidKinds" = some (.ref (He.ga K "InvalidKinds"))) (h_InvalidNet : mg "InvalidNet" = some (.ref (He.ga K "InvalidNet"))) (h_InvalidNumber : mg "InvalidNumber" = some (.ref (He.ga K "InvalidNumber"))) (h_InvalidOperation : mg "InvalidOperation" = some (.ref (He.ga K "InvalidOperation"))) (xf_InvalidNumber_given : XF K mg "InvalidNumber" "given") {f : Addr} {fd : FuncData} (Fd : FnP K "_law_met" s__law_met f fd) (hm : mg "_law_met" = some (.ref f)) (k : Nat) : DnL P w K mg tt base "_law_met" k g__law_met := by
  have nd := (sc__law_met).nd
  have bi : L2.Binds K fd ["call"] [] := Fd.bindsN fun _ _ _ _ _ _ us hl => match us, hl with | [_], _ => rfl
  have kp := Fd.kp
  obtain ⟨oc, od, dV, kV, doc, pm, an, cdv, ct, osl, rfl, lk, hcd, _, _⟩ := Fd.ex
  refine ⟨f, ["call", "error"], "call", _, _, _, dV, kV, doc, pm, cdv, ct, oc, an, od, osl, hm, kp, lk, hcd, bi, sc__law_met, rfl, .inl rfl, rfl, rfl, fun A outer q KO I hr hgd => ?_⟩
  refine gv_mix (fun D σ _ H' => D.nx σ H') (hs := hs__law_met) (vs := [.ref (He.ga K "InvalidNet"), .ref (He.ga K "InvalidKinds"), .ref (He.ga K "InvalidNumber"), .ref (He.ga K "InvalidOperation")]) (msr := msr__law_met) (okf := (fun _ => valS (msr__law_met (List.replicate 2 none)))) xk ?_ rfl nd rfl fst_expr (fun O s H => (pms_one (ow1 := []) (pmt_ret pm_str))) (fun s H => (.cons ⟨rfl, rfl, .inl h_InvalidNet⟩ True.intro (fun a oe cls d pn hz hf => suite_of fun O xc dd hcl hd => pms_one (ow1 := []) (pmt_ret pm_str)) (.cons ⟨rfl, rfl, .inl h_InvalidKinds⟩ True.intro (fun a oe cls d pn hz hf => suite_of fun O xc dd hcl hd => pms_one (ow1 := []) (pmt_ret pm_str)) (.cons ⟨rfl, rfl, .inl h_InvalidNumber⟩ ⟨rfl, rfl⟩ (fun a oe cls d pn hz hf => suite_of fun O xc dd hcl hd => pms_one (ow1 := []) (pmt_ret (pm_bin bin_add pm_str (pm_callB (co_repr hgd (room_su hr)) rfl T.g_repr (by decide +kernel) (pma_cons (pm_attr xf_InvalidNumber_given.xf xf_InvalidNumber_given.no xf_InvalidNumber_given.g hcl (hd.imp id fun z => (by cases z)) hz hf (i := 1) rfl (.inl rfl)) pma_nil))))) (.cons ⟨rfl, rfl, .inl h_InvalidOperation⟩ True.intro (fun a oe cls d pn hz hf => suite_of fun O xc dd hcl hd => pms_one (ow1 := []) (pmt_ret pm_str)) .nil))))) hk_expr ?_ ?_
  · intro p hp
    simp only [hs__law_met, List.zip_cons_cons, List.zip_nil_right, List.mem_cons, List.not_mem_nil, or_false] at hp
    rcases hp with rfl | rfl | rfl | rfl
    · exact h_InvalidNet
    · exact h_InvalidKinds
    · exact h_InvalidNumber
    · exact h_InvalidOperation
  · intro h hh i e
    simp only [hs__law_met, List.mem_cons, List.not_mem_nil, or_false] at hh; rcases hh with rfl | rfl | rfl | rfl
    · cases e
    · cases e
    · cases e; decide
    · cases e
  · intro h hh z r e a dd
    simp only [hs__law_met, List.mem_cons, List.not_mem_nil, or_false] at hh; rcases hh with rfl | rfl | rfl | rfl
    · exact e
    · exact e
    · have k : ∀ a dd, mAttr a dd z.c ("InvalidNumber" : Str) 1 ("given" : Str) (e0H 2 ⟨"InvalidNumber", some 1, fun a dd xc => mRet (mBin pAdd (mC (.str "number ")) (mCall gRepr (mCons (mAttr a dd xc "InvalidNumber" 1 "given") mNil)))⟩ a dd z) = lift (if z.c = ("InvalidNumber" : Str) then z.fs.lookup ("given" : Str) else none) (e0H 2 ⟨"InvalidNumber", some 1, fun a dd xc => mRet (mBin pAdd (mC (.str "number ")) (mCall gRepr (mCons (mAttr a dd xc "InvalidNumber" 1 "given") mNil)))⟩ a dd z) := by
        intro a dd
        by_cases h : z.c = ("InvalidNumber" : Str) <;> simp [mAttr, e0H, h, List.replicate]
      generalize (if z.c = ("InvalidNumber" : Str) then z.fs.lookup ("given" : Str) else none) = o at k
      simp only [mRet_ap, mTup_ap, mCons_ap, mNil_ap, mC_ap, bind_ok, mBin_ap, mCall_ap, k, List.length_cons, List.length_nil] at e ⊢
      cases o with
      | none => simp [valS] at e
      | some p =>
        cases h : gRepr [p] with
        | none => simp [valS, h] at e
        | some x =>
          cases hq : pAdd (.str "number ") x with
          | none => simp [valS, h, hq] at e
          | some y => simpa [valS, h, hq] using e
    · exact e
theorem sc_Net_init : FnScope ["self", "knots", "wires"] ["self", "knots", "wires"] (defScope i_Net___init__) := ⟨rfl, rfl, rfl, by decide +kernel, rfl, by decide +kernel, by decide +kernel⟩
def mm_Net : Mi := (mSeqJ (mIfS (mNot (mTr (mDef 2 [] m_are_net_parts (mrV (mVar 1) (mrV (mVar 2) mrNil))))) (mRaise "InvalidNet") mNext) (mFin2 "_knots" (mVar 1) "_wires" (mVar 2)))
def mi_Net : List PV → SI := fun ps => mm_Net (startI 3 ps)
theorem ok_Net_init (T : Tx mg) (c_are_net_parts : Dn P w K mg tt base CX0 "are_net_parts" 9 2 [] m_are_net_parts) (T_Net : OC K mg "Net" ["_knots", "_wires"]) (x_InvalidNet : XP K mg "InvalidNet" "ValueError.__new__" PySem.HandSPX.veTail) {fd : FuncData} (Fd : FunD K "__init__" "Net.__init__" (defArgs i_Net___init__) (defBody i_Net___init__) (defScope i_Net___init__) [] [] (He.ma K (He.ga K "Net") "__init__") fd) : FnOk P w K mg base (L2.CX P w) 10 (He.ma K (He.ga K "Net") "__init__") fd ["self", "knots", "wires"] (spI ⟨K, mg, tt⟩ (He.ga K "Net") 2 mi_Net) :=
  have nd := (sc_Net_init).nd
  fnI Fd sc_Net_init fun G cdv A outer s H E z dx hr hz => (pmsI_cons (pmt_if (pm_not (pm_tr (pm_def c_are_net_parts (hr.mono (by decide)) rfl pass0E (fun _ _ _ _ z => z) (pmr_v (pm_var 1) (pmr_v (pm_var 2) pmr_nil))))) (pms_one (ow1 := []) (pmt_raiseP PySem.F.excBase_ValueError x_InvalidNet takesE rfl)) (pms_nil)) (pmsI_fin T_Net rfl (by decide) (by decide) (by decide) hz (pm_var 1) (pm_var 2) rfl (.inl rfl) rfl rfl) (List.Mem.head _))
theorem mk_Net (T : Tx mg) (c_are_net_parts : Dn P w K mg tt base CX0 "are_net_parts" 9 2 [] m_are_net_parts) (T_Net : OC K mg "Net" ["_knots", "_wires"]) (x_InvalidNet : XP K mg "InvalidNet" "ValueError.__new__" PySem.HandSPX.veTail) {fd : FuncData} (Fd : FunD K "__init__" "Net.__init__" (defArgs i_Net___init__) (defBody i_Net___init__) (defScope i_Net___init__) [] [] (He.ma K (He.ga K "Net") "__init__") fd) : MkX P w K mg tt base "Net" 10 2 mi_Net :=
  ⟨fd, ["self", "knots", "wires"], ok_Net_init T c_are_net_parts T_Net x_InvalidNet Fd, Fd.bindsN fun _ _ _ _ _ _ us hl => match us, hl with | [_, _, _], _ => rfl⟩
theorem sc__law_met_two : FnScope ["none", "net", "bad", "good", "wire", "told", "number", "due", "call"] ["none", "net", "bad", "good", "wire"] (defScope s__law_met_two) := ⟨rfl, rfl, rfl, by decide +kernel, rfl, by decide +kernel, by decide +kernel⟩
def lm1__law_met_two : Mo PV := (mDef 3 [] m_loop_or_cut (mrV (mVar 0) (mrV (mVar 2) (mrV (mVar 4) mrNil))))
def lm2__law_met_two : Mo PV := (mDef 3 [] m_loop_or_cut (mrV (mVar 1) (mrV (mVar 2) (mrV (mVar 4) mrNil))))
def lm3__law_met_two : Mo PV := (mDef 3 [] m_loop_or_cut (mrV (mVar 1) (mrV (mVar 3) (mrV (mVar 4) mrNil))))
def lm4__law_met_two : Mo PV := (mDef 3 [] m_loop_or_cut (mrV (mVar 1) (mrV (mVar 3) (mrV (mC (.int 1)) mrNil))))
def lm5__law_met_two : Mo PV := (mDef 3 [] m_loop_or_cut (mrV (mVar 1) (mrV (mVar 3) (mrV (mC (.int 2)) mrNil))))
def lm6__law_met_two : Mo PV := (mDef 4 [] m_is_loop_or_cut (mrV (mVar 0) (mrV (mVar 2) (mrV (mVar 4) (mrV (mC .non) mrNil)))))
def lm7__law_met_two : Mo PV := (mDef 4 [] m_is_loop_or_cut (mrV (mVar 1) (mrV (mVar 2) (mrV (mVar 4) (mrV (mC .non) mrNil)))))
def lm8__law_met_two : Mo PV := (mDef 4 [] m_is_loop_or_cut (mrV (mVar 1) (mrV (mVar 3) (mrV (mVar 4) (mrV (mC .non) mrNil)))))
def lm9__law_met_two : Mo PV := (mDef 4 [] m_is_loop_or_cut (mrV (mVar 1) (mrV (mVar 3) (mrV (mC (.int 1)) (mrV (mC .non) mrNil)))))
def lm10__law_met_two : Mo PV := (mDef 3 [] m_reached (mrV (mVar 0) (mrV (mVar 2) (mrV (mVar 4) mrNil))))
def lm11__law_met_two : Mo PV := (mDef 3 [] m_reached (mrV (mVar 1) (mrV (mVar 2) (mrV (mVar 4) mrNil))))
def lm12__law_met_two : Mo PV := (mDef 3 [] m_reached (mrV (mVar 1) (mrV (mVar 3) (mrV (mVar 4) mrNil))))
def lm13__law_met_two : Mo PV := (mDefV 8 2 (tbCons "parted" m_parted (tbCons "witness" m_witness tbNil)) (mrV (mVar 0) (mrV (mVar 2) mrNil)))
def lm14__law_met_two : Mo PV := (mDefV 8 2 (tbCons "parted" m_parted (tbCons "witness" m_witness tbNil)) (mrV (mVar 1) (mrV (mVar 2) mrNil)))
def lB1__law_met_two : Ms := (mSeq (mExpr (mApp 5 (mLam g__law_met lm13__law_met_two))) (mSeq (mExpr (mApp 5 (mLam g__law_met lm14__law_met_two))) (mSet 7 (mBin pAdd (mVar 7) (mLst (mCons (mC (.str "net")) (mCons (mC (.str "kinds")) mNil)))))))
def lm15__law_met_two : Mo PV := (mDefV 8 3 (tbCons "is_cut_of" m_is_cut_of (tbCons "is_loop_of" m_is_loop_of (tbCons "is_witness" m_is_witness tbNil))) (mrV (mVar 0) (mrV (mVar 2) (mrV (mC .non) mrNil))))
def lm16__law_met_two : Mo PV := (mDefV 8 3 (tbCons "is_cut_of" m_is_cut_of (tbCons "is_loop_of" m_is_loop_of (tbCons "is_witness" m_is_witness tbNil))) (mrV (mVar 1) (mrV (mVar 2) (mrV (mC .non) mrNil))))
def lB2__law_met_two : Ms := (mSeq (mExpr (mApp 5 (mLam g__law_met lm15__law_met_two))) (mSeq (mExpr (mApp 5 (mLam g__law_met lm16__law_met_two))) (mSet 7 (mBin pAdd (mVar 7) (mLst (mCons (mC (.str "net")) (mCons (mC (.str "kinds")) mNil)))))))
def ms__law_met_two : Ms := (mSeq (mSetO 5 (mLst (mCons (mLam g__law_met lm1__law_met_two) mNil))) (mSeq (mExpr (mApp 5 (mLam g__law_met lm2__law_met_two))) (mSeq (mExpr (mApp 5 (mLam g__law_met lm3__law_met_two))) (mSeq (mExpr (mApp 5 (mLam g__law_met lm4__law_met_two))) (mSeq (mExpr (mApp 5 (mLam g__law_met lm5__law_met_two))) (mSeq (mExpr (mApp 5 (mLam g__law_met lm6__law_met_two))) (mSeq (mExpr (mApp 5 (mLam g__law_met lm7__law_met_two))) (mSeq (mExpr (mApp 5 (mLam g__law_met lm8__law_met_two))) (mSeq (mExpr (mApp 5 (mLam g__law_met lm9__law_met_two))) (mSeq (mExpr (mApp 5 (mLam g__law_met lm10__law_met_two))) (mSeq (mExpr (mApp 5 (mLam g__law_met lm11__law_met_two))) (mSeq (mExpr (mApp 5 (mLam g__law_met lm12__law_met_two))) (mSeq (mSet 6 (mBin pAdd (mC (.str "number ")) (mCall gRepr (mCons (mVar 4) mNil)))) (mSeq (mSet 7 (mLst (mCons (mC (.str "net")) (mCons (mC (.str "kinds")) (mCons (mVar 6) (mCons (mC (.str "operation")) (mCons (mC (.str "operation")) (mCons (mC (.str "net")) (mCons (mC (.str "kinds")) (mCons (mVar 6) (mCons (mC (.str "operation")) (mCons (mC (.str "net")) (mCons (mC (.str "kinds")) (mCons (mVar 6) mNil)))))))))))))) (mSeq (mFor (mIt (mTup (mCons (mC (.gl "parted")) (mCons (mC (.gl "witness")) mNil)))) (tN 8) lB1__law_met_two) (mSeq (mFor (mIt (mTup (mCons (mC (.gl "is_loop_of")) (mCons (mC (.gl "is_cut_of")) (mCons (mC (.gl "is_witness")) mNil))))) (tN 8) lB2__law_met_two) (mRet (mBin pEq (mVar 5) (mVar 7)))))))))))))))))))
def m__law_met_two : List PV → Out PV := runN 9 ms__law_met_two
instance : NoEx m__law_met_two := runN_noex _ _
theorem ok__law_met_two (T : Tx mg) (c__law_met : ∀ k, DnL P w K mg tt base "_law_met" k g__law_met) (c_is_cut_of : Dn P w K mg tt base (L2.CX P w) "is_cut_of" 8 3 [] m_is_cut_of) (c_is_loop_of : Dn P w K mg tt base (L2.CX P w) "is_loop_of" 7 3 [] m_is_loop_of) (c_is_loop_or_cut : Dn P w K mg tt base (L2.CX P w) "is_loop_or_cut" 9 4 [] m_is_loop_or_cut) (c_is_witness : Dn P w K mg tt base (L2.CX P w) "is_witness" 6 3 [] m_is_witness) (c_loop_or_cut : Dn P w K mg tt base (L2.CX P w) "loop_or_cut" 7 3 [] m_loop_or_cut) (c_parted : Dn P w K mg tt base (L2.CX P w) "parted" 6 2 [] m_parted) (c_reached : Dn P w K mg tt base (L2.CX P w) "reached" 6 3 [] m_reached) (c_witness : Dn P w K mg tt base (L2.CX P w) "witness" 6 2 [] m_witness) (tbl : LamX.TabB base mg (He.cT K ("_law_met_two", none)).1 (He.cT K ("_law_met_two", none)).2) (hmt : ((He.cT K ("_law_met_two", none)).2, lamQ "_law_met_two") ∈ tt) (hut : ∀ p ∈ tt, p.1 = (He.cT K ("_law_met_two", none)).2 → p.2 = lamQ "_law_met_two") {fd : FuncData} (Fd : FnP K "_law_met_two" s__law_met_two (He.fAd K ("_law_met_two", none)) fd) : FnG P w K mg base CX0 12 (He.fAd K ("_law_met_two", none)) fd ["none", "net", "bad", "good", "wire"] (spM ⟨K, mg, tt⟩ 5 [] m__law_met_two) :=
  have nd := (sc__law_met_two).nd
  fnNGC (oz := []) (p := ("_law_met_two", none)) Fd sc__law_met_two fun G cdv A outer s H E hcd hr hgd => (pms_cons (ow1 := [5]) (ow2 := [5]) (pmt_setO 5 (ow' := [5]) nd (pmf_lst (pma_cons (pm_lam (k := 8) (c__law_met 8) (hr.mono (by decide)) hgd rfl tbl hcd hmt hut (LamX.lamS_by (sc := defScope s__law_met_two) (by decide +kernel)) (fun _ _ _ _ _ => rfl) (fun A outer s H E f c2 hr2 => (pm_def c_loop_or_cut (hr2.mono (by decide)) rfl (passE takesL (fun _ _ _ _ z => z)) (fun _ _ _ _ z => z) (pmr_v (pm_var 0) (pmr_v (pm_var 2) (pmr_v (pm_var 4) pmr_nil)))))) pma_nil))) (pms_cons (ow1 := [5]) (ow2 := [5]) (pmt_expr (pm_app 5 (pm_lam (k := 8) (c__law_met 8) (hr.mono (by decide)) hgd rfl tbl hcd hmt hut (LamX.lamS_by (sc := defScope s__law_met_two) (by decide +kernel)) (fun _ _ _ _ _ => rfl) (fun A outer s H E f c2 hr2 => (pm_def c_loop_or_cut (hr2.mono (by decide)) rfl (passE takesL (fun _ _ _ _ z => z)) (fun _ _ _ _ z => z) (pmr_v (pm_var 1) (pmr_v (pm_var 2) (pmr_v (pm_var 4) pmr_nil)))))))) (pms_cons (ow1 := [5]) (ow2 := [5]) (pmt_expr (pm_app 5 (pm_lam (k := 8) (c__law_met 8) (hr.mono (by decide)) hgd rfl tbl hcd hmt hut (LamX.lamS_by (sc := defScope s__law_met_two) (by decide +kernel)) (fun _ _ _ _ _ => rfl) (fun A outer s H E f c2 hr2 => (pm_def c_loop_or_cut (hr2.mono (by decide)) rfl (passE takesL (fun _ _ _ _ z => z)) (fun _ _ _ _ z => z) (pmr_v (pm_var 1) (pmr_v (pm_var 3) (pmr_v (pm_var 4) pmr_nil)))))))) (pms_cons (ow1 := [5]) (ow2 := [5]) (pmt_expr (pm_app 5 (pm_lam (k := 8) (c__law_met 8) (hr.mono (by decide)) hgd rfl tbl hcd hmt hut (LamX.lamS_by (sc := defScope s__law_met_two) (by decide +kernel)) (fun _ _ _ _ _ => rfl) (fun A outer s H E f c2 hr2 => (pm_def c_loop_or_cut (hr2.mono (by decide)) rfl (passE takesL (fun _ _ _ _ z => z)) (fun _ _ _ _ z => z) (pmr_v (pm_var 1) (pmr_v (pm_var 3) (pmr_v pm_int pmr_nil)))))))) (pms_cons (ow1 := [5]) (ow2 := [5]) (pmt_expr (pm_app 5 (pm_lam (k := 8) (c__law_met 8) (hr.mono (by decide)) hgd rfl tbl hcd hmt hut (LamX.lamS_by (sc := defScope s__law_met_two) (by decide +kernel)) (fun _ _ _ _ _ => rfl) (fun A outer s H E f c2 hr2 => (pm_def c_loop_or_cut (hr2.mono (by decide)) rfl (passE takesL (fun _ _ _ _ z => z)) (fun _ _ _ _ z => z) (pmr_v (pm_var 1) (pmr_v (pm_var 3) (pmr_v pm_int pmr_nil)))))))) (pms_cons (ow1 := [5]) (ow2 := [5]) (pmt_expr (pm_app 5 (pm_lam (k := 9) (c__law_met 9) (hr.mono (by decide)) hgd rfl tbl hcd hmt hut (LamX.lamS_by (sc := defScope s__law_met_two) (by decide +kernel)) (fun _ _ _ _ _ => rfl) (fun A outer s H E f c2 hr2 => (pm_def c_is_loop_or_cut (hr2.mono (by decide)) rfl (passE takesL (fun _ _ _ _ z => z)) (fun _ _ _ _ z => z) (pmr_v (pm_var 0) (pmr_v (pm_var 2) (pmr_v (pm_var 4) (pmr_v pm_non pmr_nil))))))))) (pms_cons (ow1 := [5]) (ow2 := [5]) (pmt_expr (pm_app 5 (pm_lam (k := 9) (c__law_met 9) (hr.mono (by decide)) hgd rfl tbl hcd hmt hut (LamX.lamS_by (sc := defScope s__law_met_two) (by decide +kernel)) (fun _ _ _ _ _ => rfl) (fun A outer s H E f c2 hr2 => (pm_def c_is_loop_or_cut (hr2.mono (by decide)) rfl (passE takesL (fun _ _ _ _ z => z)) (fun _ _ _ _ z => z) (pmr_v (pm_var 1) (pmr_v (pm_var 2) (pmr_v (pm_var 4) (pmr_v pm_non pmr_nil))))))))) (pms_cons (ow1 := [5]) (ow2 := [5]) (pmt_expr (pm_app 5 (pm_lam (k := 9) (c__law_met 9) (hr.mono (by decide)) hgd rfl tbl hcd hmt hut (LamX.lamS_by (sc := defScope s__law_met_two) (by decide +kernel)) (fun _ _ _ _ _ => rfl) (fun A outer s H E f c2 hr2 => (pm_def c_is_loop_or_cut (hr2.mono (by decide)) rfl (passE takesL (fun _ _ _ _ z => z)) (fun _ _ _ _ z => z) (pmr_v (pm_var 1) (pmr_v (pm_var 3) (pmr_v (pm_var 4) (pmr_v pm_non pmr_nil))))))))) (pms_cons (ow1 := [5]) (ow2 := [5]) (pmt_expr (pm_app 5 (pm_lam (k := 9) (c__law_met 9) (hr.mono (by decide)) hgd rfl tbl hcd hmt hut (LamX.lamS_by (sc := defScope s__law_met_two) (by decide +kernel)) (fun _ _ _ _ _ => rfl) (fun A outer s H E f c2 hr2 => (pm_def c_is_loop_or_cut (hr2.mono (by decide)) rfl (passE takesL (fun _ _ _ _ z => z)) (fun _ _ _ _ z => z) (pmr_v (pm_var 1) (pmr_v (pm_var 3) (pmr_v pm_int (pmr_v pm_non pmr_nil))))))))) (pms_cons (ow1 := [5]) (ow2 := [5]) (pmt_expr (pm_app 5 (pm_lam (k := 8) (c__law_met 8) (hr.mono (by decide)) hgd rfl tbl hcd hmt hut (LamX.lamS_by (sc := defScope s__law_met_two) (by decide +kernel)) (fun _ _ _ _ _ => rfl) (fun A outer s H E f c2 hr2 => (pm_def c_reached (hr2.mono (by decide)) rfl (passE takesL (fun _ _ _ _ z => z)) (fun _ _ _ _ z => z) (pmr_v (pm_var 0) (pmr_v (pm_var 2) (pmr_v (pm_var 4) pmr_nil)))))))) (pms_cons (ow1 := [5]) (ow2 := [5]) (pmt_expr (pm_app 5 (pm_lam (k := 8) (c__law_met 8) (hr.mono (by decide)) hgd rfl tbl hcd hmt hut (LamX.lamS_by (sc := defScope s__law_met_two) (by decide +kernel)) (fun _ _ _ _ _ => rfl) (fun A outer s H E f c2 hr2 => (pm_def c_reached (hr2.mono (by decide)) rfl (passE takesL (fun _ _ _ _ z => z)) (fun _ _ _ _ z => z) (pmr_v (pm_var 1) (pmr_v (pm_var 2) (pmr_v (pm_var 4) pmr_nil)))))))) (pms_cons (ow1 := [5]) (ow2 := [5]) (pmt_expr (pm_app 5 (pm_lam (k := 8) (c__law_met 8) (hr.mono (by decide)) hgd rfl tbl hcd hmt hut (LamX.lamS_by (sc := defScope s__law_met_two) (by decide +kernel)) (fun _ _ _ _ _ => rfl) (fun A outer s H E f c2 hr2 => (pm_def c_reached (hr2.mono (by decide)) rfl (passE takesL (fun _ _ _ _ z => z)) (fun _ _ _ _ z => z) (pmr_v (pm_var 1) (pmr_v (pm_var 3) (pmr_v (pm_var 4) pmr_nil)))))))) (pms_cons (ow1 := [5]) (ow2 := [5]) (pmt_set 6 nd (pm_bin bin_add pm_str (pm_callB (co_repr hgd hr.units) rfl T.g_repr (by decide +kernel) (pma_cons (pm_var 4) pma_nil)))) (pms_cons (ow1 := [5]) (ow2 := [5]) (pmt_set 7 nd (pm_lst (pma_cons pm_str (pma_cons pm_str (pma_cons (pm_var 6) (pma_cons pm_str (pma_cons pm_str (pma_cons pm_str (pma_cons pm_str (pma_cons (pm_var 6) (pma_cons pm_str (pma_cons pm_str (pma_cons pm_str (pma_cons (pm_var 6) pma_nil)))))))))))))) (pms_cons (ow1 := [5]) (ow2 := [5]) (pmt_for PassesOwn.never (pmi_seq (pm_tup (pma_cons (pm_gl c_parted rfl) (pma_cons (pm_gl c_witness rfl) pma_nil)))) (pg_name (i := 8) nd rfl (by first | exact .inl rfl | exact .inr rfl)) (tg_name 8) (pms_cons (ow1 := [5]) (ow2 := [5]) (pmt_expr (pm_app 5 (pm_lam (k := 8) (c__law_met 8) (hr.mono (by decide)) hgd rfl tbl hcd hmt hut (LamX.lamS_by (sc := defScope s__law_met_two) (by decide +kernel)) (fun _ _ _ _ _ => rfl) (fun A outer s H E f c2 hr2 => (pm_callV 8 (k := 6) (n := 2) (dnt_cons c_parted (dnt_cons c_witness dnt_nil)) (hr2.mono (by decide)) (passE takesL (fun _ _ _ _ z => z)) (fun _ _ _ _ z => z) (pmr_v (pm_var 0) (pmr_v (pm_var 2) pmr_nil))))))) (pms_cons (ow1 := [5]) (ow2 := [5]) (pmt_expr (pm_app 5 (pm_lam (k := 8) (c__law_met 8) (hr.mono (by decide)) hgd rfl tbl hcd hmt hut (LamX.lamS_by (sc := defScope s__law_met_two) (by decide +kernel)) (fun _ _ _ _ _ => rfl) (fun A outer s H E f c2 hr2 => (pm_callV 8 (k := 6) (n := 2) (dnt_cons c_parted (dnt_cons c_witness dnt_nil)) (hr2.mono (by decide)) (passE takesL (fun _ _ _ _ z => z)) (fun _ _ _ _ z => z) (pmr_v (pm_var 1) (pmr_v (pm_var 2) pmr_nil))))))) (pms_one (ow1 := [5]) (pmt_set 7 nd (pm_bin bin_add (pm_var 7) (pm_lst (pma_cons pm_str (pma_cons pm_str pma_nil))))))))) (pms_cons (ow1 := [5]) (ow2 := []) (pmt_for PassesOwn.never (pmi_seq (pm_tup (pma_cons (pm_gl c_is_loop_of rfl) (pma_cons (pm_gl c_is_cut_of rfl) (pma_cons (pm_gl c_is_witness rfl) pma_nil))))) (pg_name (i := 8) nd rfl (by first | exact .inl rfl | exact .inr rfl)) (tg_name 8) (pms_cons (ow1 := [5]) (ow2 := [5]) (pmt_expr (pm_app 5 (pm_lam (k := 8) (c__law_met 8) (hr.mono (by decide)) hgd rfl tbl hcd hmt hut (LamX.lamS_by (sc := defScope s__law_met_two) (by decide +kernel)) (fun _ _ _ _ _ => rfl) (fun A outer s H E f c2 hr2 => (pm_callV 8 (k := 8) (n := 3) (dnt_cons c_is_cut_of (dnt_cons c_is_loop_of (dnt_cons c_is_witness dnt_nil))) (hr2.mono (by decide)) (passE takesL (fun _ _ _ _ z => z)) (fun _ _ _ _ z => z) (pmr_v (pm_var 0) (pmr_v (pm_var 2) (pmr_v pm_non pmr_nil)))))))) (pms_cons (ow1 := [5]) (ow2 := [5]) (pmt_expr (pm_app 5 (pm_lam (k := 8) (c__law_met 8) (hr.mono (by decide)) hgd rfl tbl hcd hmt hut (LamX.lamS_by (sc := defScope s__law_met_two) (by decide +kernel)) (fun _ _ _ _ _ => rfl) (fun A outer s H E f c2 hr2 => (pm_callV 8 (k := 8) (n := 3) (dnt_cons c_is_cut_of (dnt_cons c_is_loop_of (dnt_cons c_is_witness dnt_nil))) (hr2.mono (by decide)) (passE takesL (fun _ _ _ _ z => z)) (fun _ _ _ _ z => z) (pmr_v (pm_var 1) (pmr_v (pm_var 2) (pmr_v pm_non pmr_nil)))))))) (pms_one (ow1 := [5]) (pmt_set 7 nd (pm_bin bin_add (pm_var 7) (pm_lst (pma_cons pm_str (pma_cons pm_str pma_nil))))))))) (pms_one (ow1 := []) (pmt_ret (pm_cmp (bin_eq (room64 hr)) (pm_var 5) (pm_var 7) (nomark _))))))))))))))))))))
theorem dn__law_met_two (T : Tx mg) (c__law_met : ∀ k, DnL P w K mg tt base "_law_met" k g__law_met) (c_is_cut_of : Dn P w K mg tt base (L2.CX P w) "is_cut_of" 8 3 [] m_is_cut_of) (c_is_loop_of : Dn P w K mg tt base (L2.CX P w) "is_loop_of" 7 3 [] m_is_loop_of) (c_is_loop_or_cut : Dn P w K mg tt base (L2.CX P w) "is_loop_or_cut" 9 4 [] m_is_loop_or_cut) (c_is_witness : Dn P w K mg tt base (L2.CX P w) "is_witness" 6 3 [] m_is_witness) (c_loop_or_cut : Dn P w K mg tt base (L2.CX P w) "loop_or_cut" 7 3 [] m_loop_or_cut) (c_parted : Dn P w K mg tt base (L2.CX P w) "parted" 6 2 [] m_parted) (c_reached : Dn P w K mg tt base (L2.CX P w) "reached" 6 3 [] m_reached) (c_witness : Dn P w K mg tt base (L2.CX P w) "witness" 6 2 [] m_witness) (tbl : LamX.TabB base mg (He.cT K ("_law_met_two", none)).1 (He.cT K ("_law_met_two", none)).2) (hmt : ((He.cT K ("_law_met_two", none)).2, lamQ "_law_met_two") ∈ tt) (hut : ∀ p ∈ tt, p.1 = (He.cT K ("_law_met_two", none)).2 → p.2 = lamQ "_law_met_two") {fd : FuncData} (Fd : FnP K "_law_met_two" s__law_met_two (He.fAd K ("_law_met_two", none)) fd) (hm : mg "_law_met_two" = some (.ref (He.fAd K ("_law_met_two", none)))) : DnG P w K mg tt base CX0 "_law_met_two" 12 5 [] m__law_met_two :=
  ⟨(He.fAd K ("_law_met_two", none)), fd, ["none", "net", "bad", "good", "wire"], ok__law_met_two T c__law_met c_is_cut_of c_is_loop_of c_is_loop_or_cut c_is_witness c_loop_or_cut c_parted c_reached c_witness tbl hmt hut Fd, hm, Fd.kp, Fd.bindsN fun _ _ _ _ _ _ us hl => match us, hl with | [_, _, _, _, _], _ => rfl⟩
theorem sc__law_right : FnScope ["pail", "diode", "net", "good", "wire", "told", "odd", "bad", "none"] ["pail"] (defScope s__law_right) := ⟨rfl, rfl, rfl, by decide +kernel, rfl, by decide +kernel, by decide +kernel⟩
def lm1__law_right : Mo PV := (mDef 2 [] m_is_kinds (mrV (mVar 8) (mrV (mVar 7) mrNil)))
def ms__law_right : Ms := (mSeq (mSet 1 (mTup (mCons (mC (.str "steep")) (mCons (mTup (mCons (mTup (mCons (mC (.int 0)) (mCons (mC (.int 0)) mNil))) mNil)) mNil)))) (mSeq (mSet 2 (mMake "Net" 2 mi_Net (mCons (mC (.int 3)) (mCons (mTup (mCons (mTup (mCons (mC (.int 0)) (mCons (mC (.int 1)) (mCons (mVar 1) mNil)))) (mCons (mTup (mCons (mC (.int 1)) (mCons (mC (.int 2)) (mCons (mVar 1) mNil)))) (mCons (mTup (mCons (mC (.int 2)) (mCons (mC (.int 0)) (mCons (mVar 1) mNil)))) mNil)))) mNil)))) (mSeq (mSet 3 (mTup (mCons (mC (.str "one")) (mCons (mC (.str "free")) (mCons (mC (.str "barred")) mNil))))) (mSeq (mSet 8 (mDef 2 [0] m__law_any_of (mrO 0 (mrV (mLst (mCons (mC .non) (mCons (mC (.int 3)) (mCons (mC (.str "net")) (mCons (mTup (mCons (mC (.int 3)) (mCons (mTup mNil) mNil))) (mCons (mLst mNil) (mCons mDict0 (mCons (mC (.bl true)) (mCons (mTup (mCons (mTup (mCons (mC (.int 0)) (mCons (mC (.int 1)) (mCons (mVar 1) mNil)))) mNil)) mNil))))))))) mrNil)))) (mSeq (mSet 7 (mDef 2 [0] m__law_any_of (mrO 0 (mrV (mLst (mCons (mC .non) (mCons (mTup mNil) (mCons (mBin pMul (mTup (mCons (mC (.str "one")) mNil)) (mC (.int 2))) (mCons (mBin pMul (mTup (mCons (mC (.str "one")) mNil)) (mC (.int 4))) (mCons (mCall gListA (mCons (mVar 3) mNil)) (mCons (mTup (mCons (mC (.str "one")) (mCons (mC (.str "free")) (mCons (mC (.str "green")) mNil)))) (mCons (mTup (mCons (mC (.str "one")) (mCons (mC (.int 1)) (mCons (mC (.str "free")) mNil)))) (mCons (mC (.str "one")) (mCons (mC (.int 7)) (mCons (mBin pMul (mTup (mCons (mC .non) mNil)) (mC (.int 3))) mNil))))))))))) mrNil)))) (mSeq (mSet 4 (mDef 2 [0] m__law_any_of (mrO 0 (mrV (mLst (mCons (mC .non) (mCons (mNeg (mC (.int 1))) (mCons (mC (.int 3)) (mCons (mC (.bl true)) (mCons (mC (.str "0")) (mCons (mTup (mCons (mC (.int 0)) mNil)) (mCons (mBin pPow (mC (.int 10)) (mC (.int 60))) mNil)))))))) mrNil)))) (mSeq (mSet 5 (mLst (mCons (mLam g__law_met lm1__law_right) (mCons (mDef 5 [] m__law_met_two (mrV (mVar 8) (mrV (mVar 2) (mrV (mVar 7) (mrV (mVar 3) (mrV (mVar 4) mrNil)))))) mNil)))) (mSeq (mIfS (mOr (mTB (mBin pNe (mBin pIxA (mVar 5) (mC (.int 0))) (mC (.str "net")))) (mOr (mTB (mBin pNotB (mBin pIxA (mVar 5) (mC (.int 1))) (mC (.bl true)))) (mTB (mBin pNotB (mDef 2 [] m_is_kinds (mrV (mVar 2) (mrV (mVar 7) mrNil))) (mC (.bl false)))))) (mRet (mC (.bl false))) mNext) (mSeq (mSet 6 (mDef 2 [0] m__law_any_of (mrO 0 (mrV (mLst (mCons (mC .non) (mCons (mTup mNil) (mCons (mC (.int 0)) (mCons (mC (.str "loop")) (mCons mDict0 (mCons (mLst (mCons (mTup (mCons (mTup (mCons (mC (.int 0)) (mCons (mC (.int 1)) mNil))) mNil)) mNil)) (mCons (mTup (mCons (mTup (mCons (mC (.int 0)) (mCons (mC (.int 1)) (mCons (mC (.int 2)) mNil)))) mNil)) (mCons (mTup (mCons (mC (.int 0)) (mCons (mC (.bl true)) mNil))) (mCons (mTup (mCons (mC (.str "0")) mNil)) (mCons (mTup (mCons (mTup (mCons (mC (.int 0)) (mCons (mC (.bl true)) mNil))) mNil)) (mCons (mTup (mCons (mC (.int 3)) mNil)) (mCons (mTup (mCons (mC (.int 0)) (mCons (mC (.int 0)) mNil))) mNil))))))))))))) mrNil)))) (mSeq (mIfS (mOr (mTr (mDef 3 [] m_is_loop_of (mrV (mVar 2) (mrV (mVar 3) (mrV (mVar 6) mrNil))))) (mOr (mTr (mDef 3 [] m_is_cut_of (mrV (mVar 2) (mrV (mVar 3) (mrV (mVar 6) mrNil))))) (mTr (mDef 3 [] m_is_witness (mrV (mVar 2) (mrV (mVar 3) (mrV (mVar 6) mrNil))))))) (mRet (mC (.bl false))) mNext) (mRet (mAndV (mNotV (mDef 4 [] m_is_loop_or_cut (mrV (mVar 2) (mrV (mVar 3) (mrV (mC (.int 0)) (mrV (mVar 6) mrNil)))))) (mDef 2 [] m_is_kinds (mrV (mVar 2) (mrV (mVar 3) mrNil)))))))))))))))
def m__law_right : List PV → Out PV := runN 9 ms__law_right
instance : NoEx m__law_right := runN_noex _ _
theorem ok__law_right (T : Tx mg) (c__law_any_of : Dn P w K mg tt base CX0 "_law_any_of" 4 2 [0] m__law_any_of) (c__law_met : ∀ k, DnL P w K mg tt base "_law_met" k g__law_met) (c__law_met_two : DnG P w K mg tt base CX0 "_law_met_two" 12 5 [] m__law_met_two) (c_is_cut_of : Dn P w K mg tt base (L2.CX P w) "is_cut_of" 8 3 [] m_is_cut_of) (c_is_kinds : Dn P w K mg tt base (L2.CX P w) "is_kinds" 4 2 [] m_is_kinds) (c_is_loop_of : Dn P w K mg tt base (L2.CX P w) "is_loop_of" 7 3 [] m_is_loop_of) (c_is_loop_or_cut : Dn P w K mg tt base (L2.CX P w) "is_loop_or_cut" 9 4 [] m_is_loop_or_cut) (c_is_witness : Dn P w K mg tt base (L2.CX P w) "is_witness" 6 3 [] m_is_witness) (M_Net : MkX P w K mg tt base "Net" 10 2 mi_Net) (T_Net : OC K mg "Net" ["_knots", "_wires"]) (tbl : LamX.TabB base mg (He.cT K ("_law_right", none)).1 (He.cT K ("_law_right", none)).2) (hmt : ((He.cT K ("_law_right", none)).2, lamQ "_law_right") ∈ tt) (hut : ∀ p ∈ tt, p.1 = (He.cT K ("_law_right", none)).2 → p.2 = lamQ "_law_right") {fd : FuncData} (Fd : FnP K "_law_right" s__law_right (He.fAd K ("_law_right", none)) fd) : FnG P w K mg base CX0 13 (He.fAd K ("_law_right", none)) fd ["pail"] (spM ⟨K, mg, tt⟩ 1 [0] m__law_right) :=
  have nd := (sc__law_right).nd
  fnNGC (oz := [0]) (p := ("_law_right", none)) Fd sc__law_right fun G cdv A outer s H E hcd hr hgd => (pms_cons (ow1 := [0]) (ow2 := [0]) (pmt_set 1 nd (pm_tup (pma_cons pm_str (pma_cons (pm_tup (pma_cons (pm_tup (pma_cons pm_int (pma_cons pm_int pma_nil))) pma_nil)) pma_nil)))) (pms_cons (ow1 := [0]) (ow2 := [0]) (pmt_set 2 nd (pm_make T_Net M_Net (hr.mono (by decide)) rfl pass_no (fun _ _ _ _ z => z) (pma_cons pm_int (pma_cons (pm_tup (pma_cons (pm_tup (pma_cons pm_int (pma_cons pm_int (pma_cons (pm_var 1) pma_nil)))) (pma_cons (pm_tup (pma_cons pm_int (pma_cons pm_int (pma_cons (pm_var 1) pma_nil)))) (pma_cons (pm_tup (pma_cons pm_int (pma_cons pm_int (pma_cons (pm_var 1) pma_nil)))) pma_nil)))) pma_nil)))) (pms_cons (ow1 := [0]) (ow2 := [0]) (pmt_set 3 nd (pm_tup (pma_cons pm_str (pma_cons pm_str (pma_cons pm_str pma_nil))))) (pms_cons (ow1 := [0]) (ow2 := [0]) (pmt_set 8 nd (pm_def c__law_any_of (hr.mono (by decide)) rfl pass0 (fun _ _ _ _ z => z) (pmr_o 0 (pmr_v (pm_lst (pma_cons pm_non (pma_cons pm_int (pma_cons pm_str (pma_cons (pm_tup (pma_cons pm_int (pma_cons (pm_tup pma_nil) pma_nil))) (pma_cons (pm_lst pma_nil) (pma_cons pm_dict0 (pma_cons pm_bl (pma_cons (pm_tup (pma_cons (pm_tup (pma_cons pm_int (pma_cons pm_int (pma_cons (pm_var 1) pma_nil)))) pma_nil)) pma_nil))))))))) pmr_nil)))) (pms_cons (ow1 := [0]) (ow2 := [0]) (pmt_set 7 nd (pm_def c__law_any_of (hr.mono (by decide)) rfl pass0 (fun _ _ _ _ z => z) (pmr_o 0 (pmr_v (pm_lst (pma_cons pm_non (pma_cons (pm_tup pma_nil) (pma_cons (pm_bin bin_mul (pm_tup (pma_cons pm_str pma_nil)) pm_int) (pma_cons (pm_bin bin_mul (pm_tup (pma_cons pm_str pma_nil)) pm_int) (pma_cons (pm_callTy co_listA rfl T.g_list (by decide +kernel) (pma_cons (pm_var 3) pma_nil)) (pma_cons (pm_tup (pma_cons pm_str (pma_cons pm_str (pma_cons pm_str pma_nil)))) (pma_cons (pm_tup (pma_cons pm_str (pma_cons pm_int (pma_cons pm_str pma_nil)))) (pma_cons pm_str (pma_cons pm_int (pma_cons (pm_bin bin_mul (pm_tup (pma_cons pm_non pma_nil)) pm_int) pma_nil))))))))))) pmr_nil)))) (pms_cons (ow1 := [0]) (ow2 := [0]) (pmt_set 4 nd (pm_def c__law_any_of (hr.mono (by decide)) rfl pass0 (fun _ _ _ _ z => z) (pmr_o 0 (pmr_v (pm_lst (pma_cons pm_non (pma_cons (pm_neg pm_int) (pma_cons pm_int (pma_cons pm_bl (pma_cons pm_str (pma_cons (pm_tup (pma_cons pm_int pma_nil)) (pma_cons (pm_bin bin_powB pm_int pm_int) pma_nil)))))))) pmr_nil)))) (pms_cons (ow1 := [0]) (ow2 := [0]) (pmt_set 5 nd (pm_lst (pma_cons (pm_lam (k := 4) (c__law_met 4) (hr.mono (by decide)) hgd rfl tbl hcd hmt hut (LamX.lamS_by (sc := defScope s__law_right) (by decide +kernel)) (fun _ _ _ _ _ => rfl) (fun A outer s H E f c2 hr2 => (pm_def c_is_kinds (hr2.mono (by decide)) rfl (passE takesL (fun _ _ _ _ z => z)) (fun _ _ _ _ z => z) (pmr_v (pm_var 8) (pmr_v (pm_var 7) pmr_nil))))) (pma_cons (pm_defG c__law_met_two (hr.mono (by decide)) hgd rfl pass0 (fun _ _ _ _ z => z) (pmr_v (pm_var 8) (pmr_v (pm_var 2) (pmr_v (pm_var 7) (pmr_v (pm_var 3) (pmr_v (pm_var 4) pmr_nil)))))) pma_nil)))) (pms_cons (ow1 := [0]) (ow2 := [0]) (pmt_if (PW.pt (pw_orM (pm_tcmp (bin_ne (room64 hr)) (pm_ixA (hu1 (room65 hr)) (pm_var 5) pm_int) pm_str (nomark _)) (pw_orM (pm_tcmp bin_notB (pm_ixA (hu1 (room65 hr)) (pm_var 5) pm_int) pm_bl (nomark _)) (pw_or1 (pm_tcmp bin_notB (pm_def c_is_kinds (hr.mono (by decide)) rfl pass_no (fun _ _ _ _ z => z) (pmr_v (pm_var 2) (pmr_v (pm_var 7) pmr_nil))) pm_bl (nomark _)))))) (pms_one (ow1 := [0]) (pmt_ret pm_bl)) (pms_nil)) (pms_cons (ow1 := [0]) (ow2 := [0]) (pmt_set 6 nd (pm_def c__law_any_of (hr.mono (by decide)) rfl pass0 (fun _ _ _ _ z => z) (pmr_o 0 (pmr_v (pm_lst (pma_cons pm_non (pma_cons (pm_tup pma_nil) (pma_cons pm_int (pma_cons pm_str (pma_cons pm_dict0 (pma_cons (pm_lst (pma_cons (pm_tup (pma_cons (pm_tup (pma_cons pm_int (pma_cons pm_int pma_nil))) pma_nil)) pma_nil)) (pma_cons (pm_tup (pma_cons (pm_tup (pma_cons pm_int (pma_cons pm_int (pma_cons pm_int pma_nil)))) pma_nil)) (pma_cons (pm_tup (pma_cons pm_int (pma_cons pm_bl pma_nil))) (pma_cons (pm_tup (pma_cons pm_str pma_nil)) (pma_cons (pm_tup (pma_cons (pm_tup (pma_cons pm_int (pma_cons pm_bl pma_nil))) pma_nil)) (pma_cons (pm_tup (pma_cons pm_int pma_nil)) (pma_cons (pm_tup (pma_cons pm_int (pma_cons pm_int pma_nil))) pma_nil))))))))))))) pmr_nil)))) (pms_cons (ow1 := [0]) (ow2 := [0]) (pmt_if (PW.pt (pw_orM (pm_tr (pm_def c_is_loop_of (hr.mono (by decide)) rfl pass_no (fun _ _ _ _ z => z) (pmr_v (pm_var 2) (pmr_v (pm_var 3) (pmr_v (pm_var 6) pmr_nil))))) (pw_orM (pm_tr (pm_def c_is_cut_of (hr.mono (by decide)) rfl pass_no (fun _ _ _ _ z => z) (pmr_v (pm_var 2) (pmr_v (pm_var 3) (pmr_v (pm_var 6) pmr_nil))))) (pw_or1 (pm_tr (pm_def c_is_witness (hr.mono (by decide)) rfl pass_no (fun _ _ _ _ z => z) (pmr_v (pm_var 2) (pmr_v (pm_var 3) (pmr_v (pm_var 6) pmr_nil))))))))) (pms_one (ow1 := [0]) (pmt_ret pm_bl)) (pms_nil)) (pms_one (ow1 := [0]) (pmt_ret (pm_andV (pm_notV (pm_def c_is_loop_or_cut (hr.mono (by decide)) rfl pass_no (fun _ _ _ _ z => z) (pmr_v (pm_var 2) (pmr_v (pm_var 3) (pmr_v pm_int (pmr_v (pm_var 6) pmr_nil)))))) (pe_one (pm_def c_is_kinds (hr.mono (by decide)) rfl pass_no (fun _ _ _ _ z => z) (pmr_v (pm_var 2) (pmr_v (pm_var 3) pmr_nil)))))))))))))))))
theorem dn__law_right (T : Tx mg) (c__law_any_of : Dn P w K mg tt base CX0 "_law_any_of" 4 2 [0] m__law_any_of) (c__law_met : ∀ k, DnL P w K mg tt base "_law_met" k g__law_met) (c__law_met_two : DnG P w K mg tt base CX0 "_law_met_two" 12 5 [] m__law_met_two) (c_is_cut_of : Dn P w K mg tt base (L2.CX P w) "is_cut_of" 8 3 [] m_is_cut_of) (c_is_kinds : Dn P w K mg tt base (L2.CX P w) "is_kinds" 4 2 [] m_is_kinds) (c_is_loop_of : Dn P w K mg tt base (L2.CX P w) "is_loop_of" 7 3 [] m_is_loop_of) (c_is_loop_or_cut : Dn P w K mg tt base (L2.CX P w) "is_loop_or_cut" 9 4 [] m_is_loop_or_cut) (c_is_witness : Dn P w K mg tt base (L2.CX P w) "is_witness" 6 3 [] m_is_witness) (M_Net : MkX P w K mg tt base "Net" 10 2 mi_Net) (T_Net : OC K mg "Net" ["_knots", "_wires"]) (tbl : LamX.TabB base mg (He.cT K ("_law_right", none)).1 (He.cT K ("_law_right", none)).2) (hmt : ((He.cT K ("_law_right", none)).2, lamQ "_law_right") ∈ tt) (hut : ∀ p ∈ tt, p.1 = (He.cT K ("_law_right", none)).2 → p.2 = lamQ "_law_right") {fd : FuncData} (Fd : FnP K "_law_right" s__law_right (He.fAd K ("_law_right", none)) fd) (hm : mg "_law_right" = some (.ref (He.fAd K ("_law_right", none)))) : DnG P w K mg tt base CX0 "_law_right" 13 1 [0] m__law_right :=
  ⟨(He.fAd K ("_law_right", none)), fd, ["pail"], ok__law_right T c__law_any_of c__law_met c__law_met_two c_is_cut_of c_is_kinds c_is_loop_of c_is_loop_or_cut c_is_witness M_Net T_Net tbl hmt hut Fd, hm, Fd.kp, Fd.bindsN fun _ _ _ _ _ _ us hl => match us, hl with | [_], _ => rfl⟩
theorem sc_law : FnScope ["script", "spot", "pail", "net"] ["script"] (defScope s_law) := ⟨rfl, rfl, rfl, by decide +kernel, rfl, by decide +kernel, by decide +kernel⟩
def lB1_law : Ms := (mSeq (mSetO 2 (mDefF 2 m__law_pail (mCons (mVar 0) (mCons (mVar 1) mNil)))) (mIfS (mOr (mNot (mTr (mDef 1 [0] m__law_right (mrO 2 mrNil)))) (mNot (mTr (mDef 1 [0] m__law_right (mrO 2 mrNil))))) (mRet (mC (.bl false))) mNext))
def ms_law : Ms := (mSeq (mFor (mItA iRange1 (mCons (mCall gMax (mCons (mC (.int 1)) (mCons (mCall gMin (mCons (mC (.int 4)) (mCons (mCall (gLenC "Net" "_wires") (mCons (mVar 0) mNil)) mNil))) mNil))) mNil)) (tN 1) lB1_law) (mSeq (mSet 3 (mMake "Net" 2 mi_Net (mCons (mC (.int 2)) (mCons (mTup mNil) mNil)))) (mRet (mAndV (mDef 2 [] m_is_kinds (mrV (mVar 3) (mrV (mTup mNil) mrNil))) (mAndV (mBin pEq (mDef 2 [] m_parted (mrV (mVar 3) (mrV (mTup mNil) mrNil))) (mTup (mCons (mTup mNil) (mCons (mTup mNil) mNil)))) (mBin pEq (mDef 3 [] m_reached (mrV (mVar 3) (mrV (mTup mNil) (mrV (mC (.int 1)) mrNil)))) (mTup (mCons (mC (.int 1)) mNil))))))))
def m_law : List PV → Out PV := runN 4 ms_law
instance : NoEx m_law := runN_noex _ _
theorem ok_law (T : Tx mg) (c__law_right : DnG P w K mg tt base CX0 "_law_right" 13 1 [0] m__law_right) (c_is_kinds : Dn P w K mg tt base (L2.CX P w) "is_kinds" 4 2 [] m_is_kinds) (c_parted : Dn P w K mg tt base (L2.CX P w) "parted" 6 2 [] m_parted) (c_reached : Dn P w K mg tt base (L2.CX P w) "reached" 6 3 [] m_reached) (c__law_pail : DnF P w K mg tt base "_law_pail" 3 2 m__law_pail) (M_Net : MkX P w K mg tt base "Net" 10 2 mi_Net) (N_Net : LnX P w K mg base "Net" "_wires") (T_Net : OC K mg "Net" ["_knots", "_wires"]) {f : Addr} {fd : FuncData} (Fd : FnP K "law" s_law f fd) : FnG P w K mg base CX0 14 f fd ["script"] (spM ⟨K, mg, tt⟩ 1 [] m_law) :=
  have nd := (sc_law).nd
  fnNG (oz := []) Fd sc_law fun G cdv A outer s H E hr hgd => (pms_cons (ow1 := []) (ow2 := []) (pmt_for PassesOwn.never (pmi_range1 rfl T.g_range (pma_cons (pm_callB co_max rfl T.g_max (by decide +kernel) (pma_cons pm_int (pma_cons (pm_callB co_min rfl T.g_min (by decide +kernel) (pma_cons pm_int (pma_cons (pm_callB (co_lenC T_Net N_Net (hr.mono (by decide))) rfl T.g_len (by decide +kernel) (pma_cons (pm_var 0) pma_nil)) pma_nil))) pma_nil))) pma_nil)) (pg_name (i := 1) nd rfl (by first | exact .inl rfl | exact .inr rfl)) (tg_name 1) (pms_cons (ow1 := [2]) (ow2 := [2]) (pmt_setO 2 (ow' := [2]) nd (pm_defF c__law_pail (hr.mono (by decide)) rfl (pma_cons (pm_var 0) (pma_cons (pm_var 1) pma_nil)))) (pms_one (ow1 := []) (pmt_if (PW.pt (pw_orM (pm_not (pm_tr (pm_defG c__law_right (hr.mono (by decide)) hgd rfl pass0 (fun _ _ _ _ z => z) (pmr_o 2 pmr_nil)))) (pw_or1 (pm_not (pm_tr (pm_defG c__law_right (hr.mono (by decide)) hgd rfl pass0 (fun _ _ _ _ z => z) (pmr_o 2 pmr_nil))))))) (pms_less (ow1 := []) (pms_one (ow1 := []) (pmt_ret pm_bl))) (pms_nil))))) (pms_cons (ow1 := []) (ow2 := []) (pmt_set 3 nd (pm_make T_Net M_Net (hr.mono (by decide)) rfl pass_no (fun _ _ _ _ z => z) (pma_cons pm_int (pma_cons (pm_tup pma_nil) pma_nil)))) (pms_one (ow1 := []) (pmt_ret (pm_andV (pm_def c_is_kinds (hr.mono (by decide)) rfl pass_no (fun _ _ _ _ z => z) (pmr_v (pm_var 3) (pmr_v (pm_tup pma_nil) pmr_nil))) (pm_andV (pm_cmp (bin_eq (room64 hr)) (pm_def c_parted (hr.mono (by decide)) rfl pass_no (fun _ _ _ _ z => z) (pmr_v (pm_var 3) (pmr_v (pm_tup pma_nil) pmr_nil))) (pm_tup (pma_cons (pm_tup pma_nil) (pma_cons (pm_tup pma_nil) pma_nil))) (nomark _)) (pe_one (pm_cmp (bin_eq (room64 hr)) (pm_def c_reached (hr.mono (by decide)) rfl pass_no (fun _ _ _ _ z => z) (pmr_v (pm_var 3) (pmr_v (pm_tup pma_nil) (pmr_v pm_int pmr_nil)))) (pm_tup (pma_cons pm_int pma_nil)) (nomark _)))))))))
theorem dn_law (T : Tx mg) (c__law_right : DnG P w K mg tt base CX0 "_law_right" 13 1 [0] m__law_right) (c_is_kinds : Dn P w K mg tt base (L2.CX P w) "is_kinds" 4 2 [] m_is_kinds) (c_parted : Dn P w K mg tt base (L2.CX P w) "parted" 6 2 [] m_parted) (c_reached : Dn P w K mg tt base (L2.CX P w) "reached" 6 3 [] m_reached) (c__law_pail : DnF P w K mg tt base "_law_pail" 3 2 m__law_pail) (M_Net : MkX P w K mg tt base "Net" 10 2 mi_Net) (N_Net : LnX P w K mg base "Net" "_wires") (T_Net : OC K mg "Net" ["_knots", "_wires"]) {f : Addr} {fd : FuncData} (Fd : FnP K "law" s_law f fd) (hm : mg "law" = some (.ref f)) : DnG P w K mg tt base CX0 "law" 14 1 [] m_law :=
  ⟨f, fd, ["script"], ok_law T c__law_right c_is_kinds c_parted c_reached c__law_pail M_Net N_Net T_Net Fd, hm, Fd.kp, Fd.bindsN fun _ _ _ _ _ _ us hl => match us, hl with | [_], _ => rfl⟩
end
end K25

namespace K25
open PySem PySem.Spec PyProof.Rows L2 M
/-! ### the draws -/
def Cask (n : Nat) (c : PV) : Prop := ∃ a b k : Int, c = .lst [.int a, .int b, .int k] ∧ 0 ≤ k ∧ k ≤ n
theorem Cask.mono {n m : Nat} {c : PV} (h : Cask n c) (q : n ≤ m) : Cask m c := by
  obtain ⟨a, b, k, rfl, h1, h2⟩ := h
  exact ⟨a, b, k, rfl, h1, by omega⟩
theorem mulW {i j : Int} (a b : Nat) (h1 : -(2 ^ a) < i) (h2 : i < 2 ^ a) (h3 : -(2 ^ b) < j) (h4 : j < 2 ^ b) (h : a + b < 1000000 := by decide) (ha : 0 < a := by decide) (hb : 0 < b := by decide) : CMulW i j := by
  have e : ∀ n : Nat, ((2 ^ n : Nat) : Int) = (2 : Int) ^ n := fun n => by simp
  have := e a
  have := e b
  exact CMulW_of (a := a) (b := b) (by omega) (by omega) h ha hb
theorem pour {n : Nat} {c : PV} {t : Int} (h : Cask n c) (ht : 0 < t) (hw : t.natAbs.log2 < 9000) (hn : n < 2 ^ 40) : ∃ r c', out0 m__law_scooped [c, .int t] = some (.int r, c') ∧ 0 ≤ r ∧ r < t ∧ Cask (n + 1) c' := by
  obtain ⟨a, b, k, rfl, h1, h2⟩ := h
  have hr : ∀ z : Int, 0 ≤ z % t ∧ z % t < t := fun z => ⟨Int.emod_nonneg _ (by omega), Int.emod_lt_of_pos _ ht⟩
  by_cases ha : 0 < a
  · refine ⟨a % t, .lst [.int (a / t), .int b, .int k], ?_, (hr _).1, (hr _).2, _, _, _, rfl, h1, by omega⟩
    have h3 : CDivW a t := ⟨ht, hw⟩
    have h4 : CPos a t := ht
    simp [m__law_scooped, ms__law_scooped, ha, h3, h4]
  · have m1 : CMulW 67867979 (k + 1) := mulW 27 50 (by decide) (by decide) (by omega) (by omega)
    have p1 : ∀ x : Int, CPos x 2305843009213693951 := fun x => by unfold CPos; decide
    have p2 : ∀ x : Int, CPos x 2305843009213693907 := fun x => by unfold CPos; decide
    have h4 : ∀ x : Int, CPos x t := fun x => ht
    have d1 : ∀ x : Int, CDivW x 65537 := fun x => by unfold CDivW; exact ⟨by decide, by decide +kernel⟩
    have b1 : ∀ x : Int, 0 ≤ x % 2305843009213693951 ∧ x % 2305843009213693951 < 2305843009213693951 := fun x => ⟨Int.emod_nonneg _ (by decide), Int.emod_lt_of_pos _ (by decide)⟩
    have b2 : ∀ x : Int, 0 ≤ x % 2305843009213693907 ∧ x % 2305843009213693907 < 2305843009213693907 := fun x => ⟨Int.emod_nonneg _ (by decide), Int.emod_lt_of_pos _ (by decide)⟩
    have m2 : ∀ x : Int, CMulW (x % 2305843009213693951) (x % 2305843009213693951) := fun x => mulW 62 62 (by have := b1 x; omega) (by have := b1 x; omega) (by have := b1 x; omega) (by have := b1 x; omega)
    have m3 : CMulW 23 (k + 1) := mulW 24 50 (by decide) (by decide) (by omega) (by omega)
    have m4 : ∀ x : Int, CMulW (x % 2305843009213693907) 86028121 := fun x => mulW 62 62 (by have := b2 x; omega) (by have := b2 x; omega) (by decide) (by decide)
    have key : ∃ z : Int, out0 m__law_scooped [.lst [.int a, .int b, .int k], .int t] = some (.int (z % t), .lst [.int a, .int b, .int (k + 1)]) := by
      simp [m__law_scooped, ms__law_scooped, ha, m1, m2, m3, m4, p1, p2, h4, d1]
      exact ⟨_, rfl⟩
    obtain ⟨z, hz⟩ := key
    exact ⟨_, _, hz, (hr z).1, (hr z).2, _, _, _, rfl, by omega, by omega⟩

theorem log_lt {t : Int} (k : Nat) (h : t.natAbs < 2 ^ k) (hk : 0 < k := by decide) (h9 : k ≤ 9000 := by decide) : t.natAbs.log2 < 9000 := by
  by_cases z : t.natAbs = 0
  · rw [z]; decide
  · exact Nat.lt_of_lt_of_le ((Nat.log2_lt z).2 h) h9
theorem anyOf {n : Nat} {c : PV} {l : List PV} (h : Cask n c) (hl : 0 < l.length) (hw : l.length < 2 ^ 60) (hn : n < 2 ^ 40) : ∃ p c', out0 m__law_any_of [c, .tup l] = some (p, c') ∧ p ∈ l ∧ Cask (n + 1) c' := by
  obtain ⟨r, c', e, h1, h2, h3⟩ := pour (t := (l.length : Int)) h (by omega) (log_lt 60 (by omega)) hn
  obtain ⟨k, rfl⟩ : ∃ k : Nat, r = k := ⟨r.toNat, by omega⟩
  have hlt : k < l.length := by omega
  refine ⟨l[k], c', ?_, List.getElem_mem _, h3⟩
  simp [m__law_any_of, ms__law_any_of, e, hlt]

theorem anyL {n : Nat} {c : PV} {l : List PV} (h : Cask n c) (hl : 0 < l.length) (hw : l.length < 2 ^ 60) (hn : n < 2 ^ 40) : ∃ p c', out0 m__law_any_of [c, .lst l] = some (p, c') ∧ p ∈ l ∧ Cask (n + 1) c' := by
  obtain ⟨r, c', e, h1, h2, h3⟩ := pour (t := (l.length : Int)) h (by omega) (log_lt 60 (by omega)) hn
  obtain ⟨k, rfl⟩ : ∃ k : Nat, r = k := ⟨r.toNat, by omega⟩
  have hlt : k < l.length := by omega
  refine ⟨l[k], c', ?_, List.getElem_mem _, h3⟩
  simp [m__law_any_of, ms__law_any_of, e, hlt]
theorem v_law_pail {p : PV} {ns : List Int} (hp : p = .lst (ns.map .int) ∨ p = .fz (ns.map .int)) {s : Nat} (hs : s < 100) : ∃ c, outV m__law_pail [p, .int s] = some c ∧ Cask 0 c := by
  have p1 : CPowB 10 57 := by unfold CPowB; decide +kernel
  have p2 : CPowB ((10 : Int) ^ 57) 7 := by unfold CPowB; decide +kernel
  have p2' : CPowB 1000000000000000000000000000000000000000000000000000000000 7 := p2
  have p3 : CPowB 10 16 := by unfold CPowB; decide +kernel
  have b1 : ∀ x : Int, 0 ≤ x % 2305843009213693921 ∧ x % 2305843009213693921 < 2305843009213693921 := fun x => ⟨Int.emod_nonneg _ (by decide), Int.emod_lt_of_pos _ (by decide)⟩
  have m1 : CMulW 167 s := mulW 24 50 (by decide) (by decide) (by omega) (by omega)
  have m3 : ∀ x : Int, CMulW (x % 2305843009213693921) 61 := fun x => mulW 62 62 (by have := b1 x; omega) (by have := b1 x; omega) (by decide) (by decide)
  have m4 : CMulW 6473 s := mulW 24 50 (by decide) (by decide) (by omega) (by omega)
  have m5 : ∀ b : Bool, CMulW 31 (if b = true then 1 else 0) := fun b => by cases b <;> exact mulW 24 24 (by decide) (by decide) (by decide) (by decide)
  have q1 : ∀ x : Int, CPos x 2305843009213693921 := fun x => by unfold CPos; decide
  have q2 : ∀ x : Int, CPos x 2305843009213693951 := fun x => by unfold CPos; decide
  have q3 : ∀ x : Int, CPos x (((10 : Int) ^ 57) ^ 7) := fun x => by unfold CPos; decide +kernel
  suffices key : ∃ a b : Int, outV m__law_pail [p, .int s] = some (.lst [.int a, .int b, .int 0]) by
    obtain ⟨a, b, e⟩ := key
    exact ⟨_, e, a, b, 0, rfl, by omega, by omega⟩
  by_cases hlt : s < ns.length
  · have m6 := m5 (decide (ns[s] < 0))
    simp only [decide_eq_true_eq] at m6
    rcases hp with rfl | rfl <;> simp [-Int.reducePow, m__law_pail, ms__law_pail, hlt, p1, p2, p2', p3, m3, m4, m6, q1, q2, q3]
  · have m6 := m5 (decide (167 * (s : Int) + 59 < 0))
    simp only [decide_eq_true_eq] at m6
    rcases hp with rfl | rfl <;> simp [-Int.reducePow, m__law_pail, ms__law_pail, hlt, p1, p2, p2', p3, m1, m3, m4, m6, q1, q2, q3]

def dio : PV := .tup [.str "steep", .tup [.tup [.int 0, .int 0]]]
def wr (i j : Int) : PV := .tup [.int i, .int j, dio]
def nt : PV := .ins "Net" [("_knots", .int 3), ("_wires", .tup [wr 0 1, wr 1 2, wr 2 0])]
def gd : PV := .tup [.str "one", .str "free", .str "barred"]
def okB (o : Out PV) (b : Bool) : Bool := match o with | .ok (.bl c) _ => c == b | _ => false
def one' : PV := .str "one"
def mN : List PV := [.non, .int 3, .str "net", .tup [.int 3, .tup []], .lst [], .dK [], .bl true, .tup [wr 0 1]]
def mB : List PV := [.non, .tup [], .tup [one', one'], .tup [one', one', one', one'], .lst [.str "one", .str "free", .str "barred"], .tup [.str "one", .str "free", .str "green"], .tup [.str "one", .int 1, .str "free"], one', .int 7, .tup [.non, .non, .non]]
def mW : List PV := [.non, .int (-1), .int 3, .bl true, .str "0", .tup [.int 0], .int 1000000000000000000000000000000000000000000000000000000000000]
def mT : List PV := [.non, .tup [], .int 0, .str "loop", .dK [], .lst [.tup [.tup [.int 0, .int 1]]], .tup [.tup [.int 0, .int 1, .int 2]], .tup [.int 0, .bl true], .tup [.str "0"], .tup [.tup [.int 0, .bl true]], .tup [.int 3], .tup [.int 0, .int 0]]
theorem v_loop : (mT.all fun t => okB (m_is_loop_of [nt, gd, t]) false) = true := by decide +kernel
theorem v_cut : (mT.all fun t => okB (m_is_cut_of [nt, gd, t]) false) = true := by decide +kernel
theorem v_wit : (mT.all fun t => okB (m_is_witness [nt, gd, t]) false) = true := by decide +kernel
theorem v_loc : (mT.all fun t => okB (m_is_loop_or_cut [nt, gd, .int 0, t]) false) = true := by decide +kernel
theorem v_kb : (mB.all fun b => okB (m_is_kinds [nt, b]) false) = true := by decide +kernel
theorem v_kg : okB (m_is_kinds [nt, gd]) true = true := by decide +kernel

theorem ofV {mf : List PV → Out PV} {ps : List PV} {b : Bool} (h : okB (mf ps) b = true) : outV mf ps = some (.bl b) := by
  unfold okB at h; unfold outV
  split at h <;> first | (rename_i e; rw [e]; simpa using h) | (exact absurd h (by decide))
theorem ofX {mf : List PV → Out PV} {ps : List PV} {b : Bool} (h : okB (mf ps) b = true) : outX mf ps = some (.ok (.bl b)) := by
  unfold okB at h; unfold outX
  split at h <;> first | (rename_i e; rw [e]; simpa using h) | (exact absurd h (by decide))
def mkO (c : Str) (o : SI) (e : En) : Out PV := match o with
  | .fin fs => .ok (.ins c fs) e
  | .exc z => .exc z e
  | .bad => .bad
theorem mMake_ap {c : Str} {n : Nat} {mi : List PV → SI} {ml : Mo (List PV)} {e : En} : mMake c n mi ml e = (ml e).bind fun l e1 => if l.length = n then mkO c (mi l) e1 else .bad := by
  unfold mMake mkO; rfl
theorem v_net : mi_Net [.int 3, .tup [wr 0 1, wr 1 2, wr 2 0]] = .fin [("_knots", .int 3), ("_wires", .tup [wr 0 1, wr 1 2, wr 2 0])] := by
  kernel_rfl
theorem mkO_fin {c : Str} {fs : List (Str × PV)} {e : En} : mkO c (.fin fs) e = .ok (.ins c fs) e := rfl

theorem gListA_tup {l : List PV} : gListA [.tup l] = some (.lst l) := rfl
def netB (o : Out PV) : Bool := match o with
  | .exc x _ => (match g__law_met (.exc x) with
    | some (.str s) => s == "net"
    | _ => false)
  | _ => false
theorem netB_of {mf : List PV → Out PV} {ps : List PV} (h : netB (mf ps) = true) : ∃ x, outX mf ps = some (.exc x) ∧ g__law_met (.exc x) = some (.str "net") := by
  unfold netB at h; unfold outX
  split at h
  · rename_i x e1 e
    refine ⟨x, by rw [e], ?_⟩
    split at h
    · rename_i s hs; rw [hs]; simpa using h
    · exact absurd h (by decide)
  · exact absurd h (by decide)
theorem v_net0 : (mN.all fun n => mB.all fun b => netB (m_is_kinds [n, b])) = true := by decide +kernel
theorem v_tw0 : (mB.all fun b => mW.all fun w => okB (m__law_met_two [.non, nt, b, gd, w]) true) = true := by decide +kernel
theorem v_tw1 : (mB.all fun b => mW.all fun w => okB (m__law_met_two [.int 3, nt, b, gd, w]) true) = true := by decide +kernel
theorem v_tw2 : (mB.all fun b => mW.all fun w => okB (m__law_met_two [.str "net", nt, b, gd, w]) true) = true := by decide +kernel
theorem v_tw3 : (mB.all fun b => mW.all fun w => okB (m__law_met_two [.tup [.int 3, .tup []], nt, b, gd, w]) true) = true := by decide +kernel
theorem v_tw4 : (mB.all fun b => mW.all fun w => okB (m__law_met_two [.lst [], nt, b, gd, w]) true) = true := by decide +kernel
theorem v_tw5 : (mB.all fun b => mW.all fun w => okB (m__law_met_two [.dK [], nt, b, gd, w]) true) = true := by decide +kernel
theorem v_tw6 : (mB.all fun b => mW.all fun w => okB (m__law_met_two [.bl true, nt, b, gd, w]) true) = true := by decide +kernel
theorem v_tw7 : (mB.all fun b => mW.all fun w => okB (m__law_met_two [.tup [wr 0 1], nt, b, gd, w]) true) = true := by decide +kernel
theorem v_two (p8 : PV) (h8 : p8 ∈ mN) (p7 : PV) (h7 : p7 ∈ mB) (p4 : PV) (h4 : p4 ∈ mW) : okB (m__law_met_two [p8, nt, p7, gd, p4]) true = true := by
  have a : (mB.all fun b => mW.all fun w => okB (m__law_met_two [p8, nt, b, gd, w]) true) = true := by
    simp only [mN, List.mem_cons, List.not_mem_nil, or_false] at h8
    rcases h8 with rfl | rfl | rfl | rfl | rfl | rfl | rfl | rfl
    · exact v_tw0
    · exact v_tw1
    · exact v_tw2
    · exact v_tw3
    · exact v_tw4
    · exact v_tw5
    · exact v_tw6
    · exact v_tw7
  exact List.all_eq_true.1 (List.all_eq_true.1 a p7 h7) p4 h4
theorem right25 {n : Nat} {c : PV} (h : Cask n c) (hn : n < 2 ^ 30) : ∃ c', out0 m__law_right [c] = some (.bl true, c') ∧ Cask (n + 4) c' := by
  obtain ⟨p8, c1, e8, h8, k1⟩ := anyL (l := mN) h (by decide) (by decide) (by omega)
  obtain ⟨p7, c2, e7, h7, k2⟩ := anyL (l := mB) k1 (by decide) (by decide) (by omega)
  obtain ⟨p4, c3, e4, h4, k3⟩ := anyL (l := mW) k2 (by decide) (by decide) (by omega)
  obtain ⟨p6, c4, e6, h6, k4⟩ := anyL (l := mT) k3 (by decide) (by decide) (by omega)
  refine ⟨c4, ?_, k4⟩
  have n0 := v_net
  have pw : CPowB 10 60 := by unfold CPowB; decide +kernel
  have f1 := ofV (v_two p8 h8 p7 h7 p4 h4)
  obtain ⟨x, f2, f3⟩ := netB_of (List.all_eq_true.1 (List.all_eq_true.1 v_net0 p8 h8) p7 h7)
  have f4 := ofX (List.all_eq_true.1 v_kb p7 h7)
  have f4' := ofV (List.all_eq_true.1 v_kb p7 h7)
  have f5 := ofX v_kg
  have f6 := ofX (List.all_eq_true.1 v_loop p6 h6)
  have f7 := ofX (List.all_eq_true.1 v_cut p6 h6)
  have f8 := ofX (List.all_eq_true.1 v_wit p6 h6)
  have f9 := ofX (List.all_eq_true.1 v_loc p6 h6)
  have q1 : eqD (.str "net") (.str "net") = some true := by kernel_rfl
  have q2 : pNotB (.bl true) (.bl true) = some (.bl false) := by kernel_rfl
  have q3 : pNotB (.bl false) (.bl false) = some (.bl false) := by kernel_rfl
  simp only [mN, mB, mW, mT, wr, dio, nt, gd, one'] at e8 e7 e4 e6 n0 f1 f4 f4' f5 f6 f7 f8 f9
  simp [m__law_right, ms__law_right, mMake_ap, mkO_fin, n0, e8, e7, e4, e6, pw, f1, gListA_tup, lm1__law_right, f2, f3, f4, f4', f5, f6, f7, f8, f9, lamO, q1, q2, q3]

theorem pure_of {p : PV} (h : outV m_law [p] = some (.bl true)) : ∃ e, m_law [p] = .ok (.bl true) e := by
  unfold outV at h
  cases q : m_law [p] with
  | ok v e => rw [q] at h; cases h; exact ⟨e, rfl⟩
  | _ => rw [q] at h; cases h
theorem script_len {p : PV} {ns : List Int} (hp : p = .lst (ns.map .int) ∨ p = .fz (ns.map .int)) : gLen [p] = some (.int ns.length) := by rcases hp with rfl | rfl <;> simp
def nt2 : PV := .ins "Net" [("_knots", .int 2), ("_wires", .tup [])]
theorem v_net2 : mi_Net [.int 2, .tup []] = .fin [("_knots", .int 2), ("_wires", .tup [])] := by
  kernel_rfl
theorem v_k2 : okB (m_is_kinds [nt2, .tup []]) true = true := by decide +kernel
theorem v_p2 : outX m_parted [nt2, .tup []] = some (.ok (.tup [.tup [], .tup []])) := by kernel_rfl
theorem v_r2 : outX m_reached [nt2, .tup [], .int 1] = some (.ok (.tup [.int 1])) := by kernel_rfl
theorem out_loop {p : PV} {ns : List Int} (hp : p = .lst (ns.map .int) ∨ p = .fz (ns.map .int)) : ∀ {m : Nat} {s : Nat} {a c : Option PV}, s + m ≤ 10 →
    ∃ a' c', loopM (tN 1) lB1_law (rangeP s m) [some p, a, c, none] = .nxt [some p, a', c', none]
  | 0, s, a, c, _ => ⟨a, c, by rw [rangeP_zero]; rfl⟩
  | m + 1, s, a, c, hs => by
    obtain ⟨cp, e1, k1⟩ := v_law_pail hp (s := s) (by omega)
    obtain ⟨c1, e2, k2⟩ := right25 k1 (by omega)
    obtain ⟨c2, e2', _⟩ := right25 k2 (by omega)
    obtain ⟨a', c', e3⟩ := out_loop hp (m := m) (s := s + 1) (a := some (.int s)) (c := some c2) (by omega)
    refine ⟨a', c', ?_⟩
    have hb : lB1_law [some p, some (.int s), c, none] = .nxt [some p, some (.int s), some c2, none] := by
      simp [lB1_law, e1, e2, e2']
    rw [rangeP_succ]
    simp only [loopM_cons, tN_ap, stepE_some]
    show loopK (lB1_law [some p, some (.int s), c, none]) _ _ _ = _
    rw [hb, loopK_nxt]
    rw [show ((s : Int) + 1) = ((s + 1 : Nat) : Int) by omega]
    exact e3
theorem script_lenC {p : PV} {ns : List Int} (hp : p = .lst (ns.map .int) ∨ p = .fz (ns.map .int)) : gLenC "Net" "_wires" [p] = some (.int ns.length) := by rcases hp with rfl | rfl <;> simp
theorem pure_law (p : PV) (ns : List Int) (hp : p = .lst (ns.map .int) ∨ p = .fz (ns.map .int)) (hl : ns.length ≤ 63) : ∃ e, m_law [p] = .ok (.bl true) e := by
  refine pure_of ?_
  have hlen := script_lenC hp
  obtain ⟨a, c, e⟩ := out_loop hp (m := max 1 (min 4 ns.length)) (s := 0) (a := none) (c := none) (by omega)
  have hr : iRange1 [.int (max 1 (min 4 (ns.length : Int)))] = some (rangeP 0 (max 1 (min 4 ns.length))) := by
    rw [show (max 1 (min 4 (ns.length : Int))) = ((max 1 (min 4 ns.length) : Nat) : Int) by omega]
    exact iRange1_nat (by omega)
  have f1 := v_net2
  have f2 := ofX v_k2
  have f2' := ofV v_k2
  have f3 := v_p2
  have f4 := v_r2
  have q1 : eqD (.tup [.tup [], .tup []]) (.tup [.tup [], .tup []]) = some true := by kernel_rfl
  have q2 : eqD (.tup [.int 1]) (.tup [.int 1]) = some true := by kernel_rfl
  simp only [nt2] at f2 f2' f3 f4
  simp at e
  simp [m_law, ms_law, hlen, hr, e, mMake_ap, mkO_fin, f1, f2, f2', f3, f4, q1, q2]

end K25

namespace K25
open PySem PySem.Spec PyProof.Rows L2 M
abbrev R : PySem.W.OpenRow := PySem.W.OpenLaw.row PySem.Challenge.rw_risenets_k25_errors_of_kinds
def tf : List He.Defn := [("_law_right", none), ("_law_met_two", none)]
abbrev hk : PySem.W.Hook := hookY 5 fa fn tf exB gs
def ob (s : PySem.W.SharedT) : AlY := obsY 5 fa fn tf exB gs (HandSHeadRun.getT s)
theorem ob_same (s : PySem.W.SharedT) : ob s = hk.obs s.abs := obsY_eq (HandSHeadRun.getT_eq s)
def names : List PySem.Str := (["is_whole", "is_index", "is_row", "is_tuple_of", "ascends", "no_arcs", "ways_along", "is_rise", "is_far_point", "are_corners", "other_kind", "kind_between", "corners_in", "size_of", "is_cut", "is_loop", "cut_wires", "check_net", "check_knot", "check_wire", "check_cut", "are_net_parts", "is_wire", "is_step", "surplus_by", "drops_by", "currents_by", "heights_by", "step_start", "step_goal"] : List PySem.Str) ++ (["shortest_ways", "is_kinds", "is_loop_of", "is_cut_of", "loop_or_cut", "is_loop_or_cut", "reached", "parted", "witness", "is_witness", "check_kinds", "check_paint", "wires_of", "steps_of", "answer_by", "added", "is_shown", "_law_pail", "_law_scooped", "_law_any_of", "_law_met", "_law_right", "_law_met_two", "RiseError", "InvalidNet", "InvalidKinds", "InvalidOperation", "InvalidNumber", "Net", "MOST_CORNERS"] : List PySem.Str) ++ (["FAR", "MOST_KNOTS", "MOST_WIRES", "MOST_TURNS", "NEAR"] : List PySem.Str)
theorem run (w : World) : HandSHeadRun.RunEq R (PySem.W.view R.prog [72]) hk ob 4000 names w := by intro os; kernel_rfl
theorem facts {P : Program} {w : World} {K : PySem.W.Frag} {h : Heap} {mg : Str → Option Value} {f : Addr} (X : K.In h) (G : h.Ns mainGlobals mg) (hfa : mg ("law" : Str) = some (.ref f)) (c : He.SaysD fa fn K) (cx : exB K = true) (cg : obsGet gs K = valGet gs) :
    ∃ fd : FuncData, (∀ (s : Shared) (v : Value), BindsTo s fd ⟨[v], []⟩ [("script", v)]) ∧ ∀ base : Heap, K.In base → base.Ns mainGlobals mg → (∀ p ∈ tf.map (He.cT K), LamX.TabB base mg p.1 p.2) → FnG P w K mg base CX0 14 f fd ["script"] (spM ⟨K, mg, tabs K⟩ 1 [] m_law) := by
  obtain ⟨fd_is_whole, F_is_whole⟩ := c.def_ 0 (d := d_is_whole) rfl
  obtain ⟨fd_is_index, F_is_index⟩ := c.def_ 1 (d := d_is_index) rfl
  obtain ⟨fd_is_row, F_is_row⟩ := c.def_ 2 (d := d_is_row) rfl
  obtain ⟨fd_is_tuple_of, F_is_tuple_of⟩ := c.def_ 3 (d := d_is_tuple_of) rfl
  obtain ⟨fd_ascends, F_ascends⟩ := c.def_ 4 (d := d_ascends) rfl
  obtain ⟨fd_no_arcs, F_no_arcs⟩ := c.def_ 5 (d := d_no_arcs) rfl
  obtain ⟨fd_ways_along, F_ways_along⟩ := c.def_ 6 (d := d_ways_along) rfl
  obtain ⟨fd_is_rise, F_is_rise⟩ := c.def_ 7 (d := d_is_rise) rfl
  obtain ⟨fd_is_far_point, F_is_far_point⟩ := c.def_ 8 (d := d_is_far_point) rfl
  obtain ⟨fd_are_corners, F_are_corners⟩ := c.def_ 9 (d := d_are_corners) rfl
  obtain ⟨fd_other_kind, F_other_kind⟩ := c.def_ 10 (d := d_other_kind) rfl
  obtain ⟨fd_kind_between, F_kind_between⟩ := c.def_ 11 (d := d_kind_between) rfl
  obtain ⟨fd_corners_in, F_corners_in⟩ := c.def_ 12 (d := d_corners_in) rfl
  obtain ⟨fd_size_of, F_size_of⟩ := c.def_ 13 (d := d_size_of) rfl
  obtain ⟨fd_is_cut, F_is_cut⟩ := c.def_ 14 (d := d_is_cut) rfl
  obtain ⟨fd_is_loop, F_is_loop⟩ := c.def_ 15 (d := d_is_loop) rfl
  obtain ⟨fd_cut_wires, F_cut_wires⟩ := c.def_ 16 (d := d_cut_wires) rfl
  obtain ⟨fd_check_net, F_check_net⟩ := c.def_ 17 (d := d_check_net) rfl
  obtain ⟨fd_check_knot, F_check_knot⟩ := c.def_ 18 (d := d_check_knot) rfl
  obtain ⟨fd_check_wire, F_check_wire⟩ := c.def_ 19 (d := d_check_wire) rfl
  obtain ⟨fd_check_cut, F_check_cut⟩ := c.def_ 20 (d := d_check_cut) rfl
  obtain ⟨fd_are_net_parts, F_are_net_parts⟩ := c.def_ 21 (d := d_are_net_parts) rfl
  obtain ⟨fd_is_wire, F_is_wire⟩ := c.def_ 22 (d := d_is_wire) rfl
  obtain ⟨fd_is_step, F_is_step⟩ := c.def_ 23 (d := d_is_step) rfl
  obtain ⟨fd_surplus_by, F_surplus_by⟩ := c.def_ 24 (d := d_surplus_by) rfl
  obtain ⟨fd_drops_by, F_drops_by⟩ := c.def_ 25 (d := d_drops_by) rfl
  obtain ⟨fd_currents_by, F_currents_by⟩ := c.def_ 26 (d := d_currents_by) rfl
  obtain ⟨fd_heights_by, F_heights_by⟩ := c.def_ 27 (d := d_heights_by) rfl
  obtain ⟨fd_step_start, F_step_start⟩ := c.def_ 28 (d := d_step_start) rfl
  obtain ⟨fd_step_goal, F_step_goal⟩ := c.def_ 29 (d := d_step_goal) rfl
  obtain ⟨fd_shortest_ways, F_shortest_ways⟩ := c.def_ 30 (d := d_shortest_ways) rfl
  obtain ⟨fd_is_kinds, F_is_kinds⟩ := c.def_ 31 (d := d_is_kinds) rfl
  obtain ⟨fd_is_loop_of, F_is_loop_of⟩ := c.def_ 32 (d := d_is_loop_of) rfl
  obtain ⟨fd_is_cut_of, F_is_cut_of⟩ := c.def_ 33 (d := d_is_cut_of) rfl
  obtain ⟨fd_loop_or_cut, F_loop_or_cut⟩ := c.def_ 34 (d := d_loop_or_cut) rfl
  obtain ⟨fd_is_loop_or_cut, F_is_loop_or_cut⟩ := c.def_ 35 (d := d_is_loop_or_cut) rfl
  obtain ⟨fd_reached, F_reached⟩ := c.def_ 36 (d := d_reached) rfl
  obtain ⟨fd_parted, F_parted⟩ := c.def_ 37 (d := d_parted) rfl
  obtain ⟨fd_witness, F_witness⟩ := c.def_ 38 (d := d_witness) rfl
  obtain ⟨fd_is_witness, F_is_witness⟩ := c.def_ 39 (d := d_is_witness) rfl
  obtain ⟨fd_check_kinds, F_check_kinds⟩ := c.def_ 40 (d := d_check_kinds) rfl
  obtain ⟨fd_check_paint, F_check_paint⟩ := c.def_ 41 (d := d_check_paint) rfl
  obtain ⟨fd_wires_of, F_wires_of⟩ := c.def_ 42 (d := d_wires_of) rfl
  obtain ⟨fd_steps_of, F_steps_of⟩ := c.def_ 43 (d := d_steps_of) rfl
  obtain ⟨fd_answer_by, F_answer_by⟩ := c.def_ 44 (d := d_answer_by) rfl
  obtain ⟨fd_added, F_added⟩ := c.def_ 45 (d := d_added) rfl
  obtain ⟨fd_is_shown, F_is_shown⟩ := c.def_ 46 (d := d_is_shown) rfl
  obtain ⟨fd__law_pail, F__law_pail⟩ := c.def_ 47 (d := d__law_pail) rfl
  obtain ⟨fd__law_scooped, F__law_scooped⟩ := c.def_ 48 (d := d__law_scooped) rfl
  obtain ⟨fd__law_any_of, F__law_any_of⟩ := c.def_ 49 (d := d__law_any_of) rfl
  obtain ⟨fd__law_met, F__law_met⟩ := c.def_ 50 (d := d__law_met) rfl
  obtain ⟨fd__law_right, F__law_right⟩ := c.def_ 51 (d := d__law_right) rfl
  obtain ⟨fd__law_met_two, F__law_met_two⟩ := c.def_ 52 (d := d__law_met_two) rfl
  obtain ⟨fd_law, F_law⟩ := c.def_ 53 (d := d_law) rfl
  obtain ⟨fd_iInvalidNumber, F_iInvalidNumber⟩ := c.def_ 54 (d := d_iInvalidNumber) rfl
  obtain ⟨fd_Net___init__, F_Net___init__⟩ := c.def_ 55 (d := d_Net___init__) rfl
  obtain ⟨fd_Net_knots, F_Net_knots⟩ := get_at cg 0 (d := d_Net_knots) rfl
  obtain ⟨fd_Net_wires, F_Net_wires⟩ := get_at cg 1 (d := d_Net_wires) rfl
  obtain ⟨fd_Net___len__, F_Net___len__⟩ := c.def_ 56 (d := d_Net___len__) rfl
  have g_is_whole := He.glo_ok X G (c.fact 0 (f := .glo "is_whole") rfl)
  have g_is_index := He.glo_ok X G (c.fact 1 (f := .glo "is_index") rfl)
  have g_is_row := He.glo_ok X G (c.fact 2 (f := .glo "is_row") rfl)
  have g_is_tuple_of := He.glo_ok X G (c.fact 3 (f := .glo "is_tuple_of") rfl)
  have g_ascends := He.glo_ok X G (c.fact 4 (f := .glo "ascends") rfl)
  have g_no_arcs := He.glo_ok X G (c.fact 5 (f := .glo "no_arcs") rfl)
  have g_ways_along := He.glo_ok X G (c.fact 6 (f := .glo "ways_along") rfl)
  have g_is_rise := He.glo_ok X G (c.fact 7 (f := .glo "is_rise") rfl)
  have g_is_far_point := He.glo_ok X G (c.fact 8 (f := .glo "is_far_point") rfl)
  have g_are_corners := He.glo_ok X G (c.fact 9 (f := .glo "are_corners") rfl)
  have g_other_kind := He.glo_ok X G (c.fact 10 (f := .glo "other_kind") rfl)
  have g_kind_between := He.glo_ok X G (c.fact 11 (f := .glo "kind_between") rfl)
  have g_corners_in := He.glo_ok X G (c.fact 12 (f := .glo "corners_in") rfl)
  have g_size_of := He.glo_ok X G (c.fact 13 (f := .glo "size_of") rfl)
  have g_is_cut := He.glo_ok X G (c.fact 14 (f := .glo "is_cut") rfl)
  have g_is_loop := He.glo_ok X G (c.fact 15 (f := .glo "is_loop") rfl)
  have g_cut_wires := He.glo_ok X G (c.fact 16 (f := .glo "cut_wires") rfl)
  have g_check_net := He.glo_ok X G (c.fact 17 (f := .glo "check_net") rfl)
  have g_check_knot := He.glo_ok X G (c.fact 18 (f := .glo "check_knot") rfl)
  have g_check_wire := He.glo_ok X G (c.fact 19 (f := .glo "check_wire") rfl)
  have g_check_cut := He.glo_ok X G (c.fact 20 (f := .glo "check_cut") rfl)
  have g_are_net_parts := He.glo_ok X G (c.fact 21 (f := .glo "are_net_parts") rfl)
  have g_is_wire := He.glo_ok X G (c.fact 22 (f := .glo "is_wire") rfl)
  have g_is_step := He.glo_ok X G (c.fact 23 (f := .glo "is_step") rfl)
  have g_surplus_by := He.glo_ok X G (c.fact 24 (f := .glo "surplus_by") rfl)
  have g_drops_by := He.glo_ok X G (c.fact 25 (f := .glo "drops_by") rfl)
  have g_currents_by := He.glo_ok X G (c.fact 26 (f := .glo "currents_by") rfl)
  have g_heights_by := He.glo_ok X G (c.fact 27 (f := .glo "heights_by") rfl)
  have g_step_start := He.glo_ok X G (c.fact 28 (f := .glo "step_start") rfl)
  have g_step_goal := He.glo_ok X G (c.fact 29 (f := .glo "step_goal") rfl)
  have g_shortest_ways := He.glo_ok X G (c.fact 30 (f := .glo "shortest_ways") rfl)
  have g_is_kinds := He.glo_ok X G (c.fact 31 (f := .glo "is_kinds") rfl)
  have g_is_loop_of := He.glo_ok X G (c.fact 32 (f := .glo "is_loop_of") rfl)
  have g_is_cut_of := He.glo_ok X G (c.fact 33 (f := .glo "is_cut_of") rfl)
  have g_loop_or_cut := He.glo_ok X G (c.fact 34 (f := .glo "loop_or_cut") rfl)
  have g_is_loop_or_cut := He.glo_ok X G (c.fact 35 (f := .glo "is_loop_or_cut") rfl)
  have g_reached := He.glo_ok X G (c.fact 36 (f := .glo "reached") rfl)
  have g_parted := He.glo_ok X G (c.fact 37 (f := .glo "parted") rfl)
  have g_witness := He.glo_ok X G (c.fact 38 (f := .glo "witness") rfl)
  have g_is_witness := He.glo_ok X G (c.fact 39 (f := .glo "is_witness") rfl)
  have g_check_kinds := He.glo_ok X G (c.fact 40 (f := .glo "check_kinds") rfl)
  have g_check_paint := He.glo_ok X G (c.fact 41 (f := .glo "check_paint") rfl)
  have g_wires_of := He.glo_ok X G (c.fact 42 (f := .glo "wires_of") rfl)
  have g_steps_of := He.glo_ok X G (c.fact 43 (f := .glo "steps_of") rfl)
  have g_answer_by := He.glo_ok X G (c.fact 44 (f := .glo "answer_by") rfl)
  have g_added := He.glo_ok X G (c.fact 45 (f := .glo "added") rfl)
  have g_is_shown := He.glo_ok X G (c.fact 46 (f := .glo "is_shown") rfl)
  have g__law_pail := He.glo_ok X G (c.fact 47 (f := .glo "_law_pail") rfl)
  have g__law_scooped := He.glo_ok X G (c.fact 48 (f := .glo "_law_scooped") rfl)
  have g__law_any_of := He.glo_ok X G (c.fact 49 (f := .glo "_law_any_of") rfl)
  have g__law_met := He.glo_ok X G (c.fact 50 (f := .glo "_law_met") rfl)
  have g__law_right := He.glo_ok X G (c.fact 51 (f := .glo "_law_right") rfl)
  have g__law_met_two := He.glo_ok X G (c.fact 52 (f := .glo "_law_met_two") rfl)
  have g_law := He.glo_ok X G (c.fact 53 (f := .glo "law") rfl)
  have g_RiseError := He.glo_ok X G (c.fact 54 (f := .glo "RiseError") rfl)
  have g_InvalidNet := He.glo_ok X G (c.fact 55 (f := .glo "InvalidNet") rfl)
  have g_InvalidKinds := He.glo_ok X G (c.fact 56 (f := .glo "InvalidKinds") rfl)
  have g_InvalidOperation := He.glo_ok X G (c.fact 57 (f := .glo "InvalidOperation") rfl)
  have g_InvalidNumber := He.glo_ok X G (c.fact 58 (f := .glo "InvalidNumber") rfl)
  have g_Net := He.glo_ok X G (c.fact 59 (f := .glo "Net") rfl)
  cases hfa.symm.trans g_law
  have T : Tx mg := ⟨He.free_ok X G (c.fact 60 (f := .free "abs") rfl), He.free_ok X G (c.fact 61 (f := .free "all") rfl), He.free_ok X G (c.fact 62 (f := .free "any") rfl), He.free_ok X G (c.fact 63 (f := .free "bool") rfl), He.free_ok X G (c.fact 64 (f := .free "enumerate") rfl), He.free_ok X G (c.fact 65 (f := .free "int") rfl), He.free_ok X G (c.fact 66 (f := .free "isinstance") rfl), He.free_ok X G (c.fact 67 (f := .free "len") rfl), He.free_ok X G (c.fact 68 (f := .free "list") rfl), He.free_ok X G (c.fact 69 (f := .free "max") rfl), He.free_ok X G (c.fact 70 (f := .free "min") rfl), He.free_ok X G (c.fact 71 (f := .free "range") rfl), He.free_ok X G (c.fact 72 (f := .free "repr") rfl), He.free_ok X G (c.fact 73 (f := .free "set") rfl), He.free_ok X G (c.fact 74 (f := .free "sorted") rfl), He.free_ok X G (c.fact 75 (f := .free "tuple") rfl), He.int_ok X G (c.fact 76 (f := .int "FAR" 1000000000000000000) rfl), He.int_ok X G (c.fact 77 (f := .int "MOST_CORNERS" 400) rfl), He.int_ok X G (c.fact 78 (f := .int "MOST_KNOTS" 12) rfl), He.int_ok X G (c.fact 79 (f := .int "MOST_TURNS" 40) rfl), He.int_ok X G (c.fact 80 (f := .int "MOST_WIRES" 24) rfl), He.int_ok X G (c.fact 81 (f := .int "NEAR" 1000000000000) rfl)⟩
  refine ⟨fd_law, fun s v => FunD.bindsA (ps := ["script"]) F_law (fun _ _ _ _ _ _ us hl => match us, hl with | [_], _ => rfl) s [v] rfl, fun base _ _ tb => ?_⟩
  have xk : XmOk K mg (xmOf xmL) := xm_ok X G (all_at cx 0 rfl)
  have T_Net : OC K mg "Net" ["_knots", "_wires"] := oc_ok g_Net (all_at cx 2 rfl)
  have P_Net_knots : PrX P w K mg base "Net" "knots" "_knots" := prx_of T_Net (by decide) (all_at cx 3 rfl) F_Net_knots ⟨rfl, rfl, rfl, by decide +kernel, rfl, by decide +kernel, by decide +kernel⟩ rfl (FunD.bindsN F_Net_knots fun _ _ _ _ _ _ us hl => match us, hl with | [_], _ => rfl)
  have P_Net_wires : PrX P w K mg base "Net" "wires" "_wires" := prx_of T_Net (by decide) (all_at cx 4 rfl) F_Net_wires ⟨rfl, rfl, rfl, by decide +kernel, rfl, by decide +kernel, by decide +kernel⟩ rfl (FunD.bindsN F_Net_wires fun _ _ _ _ _ _ us hl => match us, hl with | [_], _ => rfl)
  have N_Net : LnX P w K mg base "Net" "_wires" := lnx_of T_Net (by decide) (all_at cx 5 rfl) F_Net___len__ ⟨rfl, rfl, rfl, by decide +kernel, rfl, by decide +kernel, by decide +kernel⟩ rfl T.g_len (fun _ _ _ _ _ _ => rfl) (FunD.bindsN F_Net___len__ fun _ _ _ _ _ _ us hl => match us, hl with | [_], _ => rfl)
  have x_InvalidKinds : XP K mg "InvalidKinds" "ValueError.__new__" PySem.HandSPX.veTail := xp_ok X G (all_at cx 6 rfl)
  have x_InvalidNet : XP K mg "InvalidNet" "ValueError.__new__" PySem.HandSPX.veTail := xp_ok X G (all_at cx 7 rfl)
  have x_InvalidNumber : XI K mg "InvalidNumber" "given" "IndexError.__new__" ieTail "InvalidNumber.__init__" i_InvalidNumber := ⟨g_InvalidNumber, xgB_ok (all_at cx 8 rfl), _, F_iInvalidNumber⟩
  have x_InvalidOperation : XP K mg "InvalidOperation" "ValueError.__new__" PySem.HandSPX.veTail := xp_ok X G (all_at cx 9 rfl)
  have xf_InvalidNumber_given : XF K mg "InvalidNumber" "given" := xf_ok X G (all_at cx 10 rfl)
  have c_is_whole := dn_is_whole (P := P) (w := w) (base := base) (tt := tabs K) T  F_is_whole g_is_whole
  have c_is_index := dn_is_index (P := P) (w := w) (base := base) (tt := tabs K) T c_is_whole F_is_index g_is_index
  have c_is_tuple_of := dn_is_tuple_of (P := P) (w := w) (base := base) (tt := tabs K) T N_Net T_Net F_is_tuple_of g_is_tuple_of
  have c_is_row := dn_is_row (P := P) (w := w) (base := base) (tt := tabs K) T c_is_tuple_of c_is_whole F_is_row g_is_row
  have c_ascends := dn_ascends (P := P) (w := w) (base := base) (tt := tabs K) T N_Net T_Net F_ascends g_ascends
  have c_no_arcs := dn_no_arcs (P := P) (w := w) (base := base) (tt := tabs K) T F_no_arcs g_no_arcs
  have c_ways_along := dn_ways_along (P := P) (w := w) (base := base) (tt := tabs K) T N_Net T_Net F_ways_along g_ways_along
  have c_is_far_point := dn_is_far_point (P := P) (w := w) (base := base) (tt := tabs K) T c_is_row F_is_far_point g_is_far_point
  have c_kind_between := dn_kind_between (P := P) (w := w) (base := base) (tt := tabs K) T  F_kind_between g_kind_between
  have c_other_kind := dn_other_kind (P := P) (w := w) (base := base) (tt := tabs K) T  F_other_kind g_other_kind
  have c_are_corners := dn_are_corners (P := P) (w := w) (base := base) (tt := tabs K) T c_is_far_point c_kind_between c_other_kind N_Net T_Net F_are_corners g_are_corners
  have c_is_rise := dn_is_rise (P := P) (w := w) (base := base) (tt := tabs K) T c_are_corners c_is_tuple_of c_is_whole F_is_rise g_is_rise
  have c_corners_in := dn_corners_in (P := P) (w := w) (base := base) (tt := tabs K) T  F_corners_in g_corners_in
  have c_size_of := dn_size_of (P := P) (w := w) (base := base) (tt := tabs K) T  F_size_of g_size_of
  have c_check_net := dn_check_net (P := P) (w := w) (base := base) (tt := tabs K) T T_Net x_InvalidNet F_check_net g_check_net
  have c_is_cut := dn_is_cut (P := P) (w := w) (base := base) (tt := tabs K) T c_ascends c_check_net c_is_index P_Net_knots T_Net F_is_cut g_is_cut
  have c_is_step := dn_is_step (P := P) (w := w) (base := base) (tt := tabs K) T c_is_index c_is_row N_Net T_Net F_is_step g_is_step
  have c_step_goal := dn_step_goal (P := P) (w := w) (base := base) (tt := tabs K) T P_Net_wires T_Net F_step_goal g_step_goal
  have c_step_start := dn_step_start (P := P) (w := w) (base := base) (tt := tabs K) T P_Net_wires T_Net F_step_start g_step_start
  have c_is_loop := dn_is_loop (P := P) (w := w) (base := base) (tt := tabs K) T c_check_net c_is_step c_step_goal c_step_start N_Net T_Net F_is_loop g_is_loop
  have c_check_cut := dn_check_cut (P := P) (w := w) (base := base) (tt := tabs K) T c_is_cut x_InvalidOperation F_check_cut g_check_cut
  have c_drops_by := dn_drops_by (P := P) (w := w) (base := base) (tt := tabs K) T P_Net_wires T_Net F_drops_by g_drops_by
  have c_heights_by := dn_heights_by (P := P) (w := w) (base := base) (tt := tabs K) T P_Net_knots T_Net F_heights_by g_heights_by
  have c_cut_wires := dn_cut_wires (P := P) (w := w) (base := base) (tt := tabs K) T c_check_cut c_check_net c_drops_by c_heights_by N_Net T_Net F_cut_wires g_cut_wires
  have c_check_knot := dn_check_knot (P := P) (w := w) (base := base) (tt := tabs K) T c_is_index P_Net_knots T_Net x_InvalidNumber F_check_knot g_check_knot
  have c_check_wire := dn_check_wire (P := P) (w := w) (base := base) (tt := tabs K) T c_is_index N_Net T_Net x_InvalidNumber F_check_wire g_check_wire
  have c_is_wire := dn_is_wire (P := P) (w := w) (base := base) (tt := tabs K) T c_corners_in c_is_index c_is_rise c_is_tuple_of c_size_of N_Net T_Net F_is_wire g_is_wire
  have c_are_net_parts := dn_are_net_parts (P := P) (w := w) (base := base) (tt := tabs K) T c_is_whole c_is_wire N_Net T_Net F_are_net_parts g_are_net_parts
  have c_surplus_by := dn_surplus_by (P := P) (w := w) (base := base) (tt := tabs K) T P_Net_knots P_Net_wires T_Net F_surplus_by g_surplus_by
  have c_currents_by := dn_currents_by (P := P) (w := w) (base := base) (tt := tabs K) T N_Net T_Net F_currents_by g_currents_by
  have c_shortest_ways := dn_shortest_ways (P := P) (w := w) (base := base) (tt := tabs K) T c_step_goal c_step_start c_ways_along c_no_arcs P_Net_knots T_Net F_shortest_ways g_shortest_ways
  have c_is_kinds := dn_is_kinds (P := P) (w := w) (base := base) (tt := tabs K) T c_check_net c_is_tuple_of N_Net T_Net F_is_kinds g_is_kinds
  have c_check_kinds := dn_check_kinds (P := P) (w := w) (base := base) (tt := tabs K) T c_is_kinds x_InvalidKinds F_check_kinds g_check_kinds
  have c_wires_of := dn_wires_of (P := P) (w := w) (base := base) (tt := tabs K) T N_Net T_Net F_wires_of g_wires_of
  have c_steps_of := dn_steps_of (P := P) (w := w) (base := base) (tt := tabs K) T c_wires_of N_Net T_Net F_steps_of g_steps_of
  have c_is_loop_of := dn_is_loop_of (P := P) (w := w) (base := base) (tt := tabs K) T c_check_kinds c_check_net c_is_loop c_steps_of F_is_loop_of g_is_loop_of
  have c_is_cut_of := dn_is_cut_of (P := P) (w := w) (base := base) (tt := tabs K) T c_check_kinds c_check_net c_cut_wires c_is_cut F_is_cut_of g_is_cut_of
  have c_answer_by := dn_answer_by (P := P) (w := w) (base := base) (tt := tabs K) T c_shortest_ways c_steps_of P_Net_knots P_Net_wires T_Net F_answer_by g_answer_by
  have c_check_paint := dn_check_paint (P := P) (w := w) (base := base) (tt := tabs K) T c_check_kinds c_check_net c_check_wire x_InvalidOperation F_check_paint g_check_paint
  have c_loop_or_cut := dn_loop_or_cut (P := P) (w := w) (base := base) (tt := tabs K) T c_answer_by c_check_paint F_loop_or_cut g_loop_or_cut
  have c_is_loop_or_cut := dn_is_loop_or_cut (P := P) (w := w) (base := base) (tt := tabs K) T c_check_paint c_cut_wires c_is_cut_of c_is_loop_of c_is_tuple_of F_is_loop_or_cut g_is_loop_or_cut
  have c_reached := dn_reached (P := P) (w := w) (base := base) (tt := tabs K) T c_check_kinds c_check_knot c_check_net c_shortest_ways c_steps_of F_reached g_reached
  have c_parted := dn_parted (P := P) (w := w) (base := base) (tt := tabs K) T c_answer_by c_check_kinds c_check_net c_wires_of F_parted g_parted
  have c_added := dn_added (P := P) (w := w) (base := base) (tt := tabs K) T N_Net T_Net F_added g_added
  have c_witness := dn_witness (P := P) (w := w) (base := base) (tt := tabs K) T c_added c_answer_by c_check_kinds c_check_net c_currents_by c_heights_by c_wires_of N_Net P_Net_knots T_Net F_witness g_witness
  have c_is_shown := dn_is_shown (P := P) (w := w) (base := base) (tt := tabs K) T  F_is_shown g_is_shown
  have c_is_witness := dn_is_witness (P := P) (w := w) (base := base) (tt := tabs K) T c_check_kinds c_check_net c_drops_by c_is_row c_is_shown c_is_tuple_of c_surplus_by N_Net P_Net_knots T_Net F_is_witness g_is_witness
  have c__law_pail := dn__law_pail (P := P) (w := w) (base := base) (tt := tabs K) T N_Net T_Net F__law_pail g__law_pail
  have c__law_scooped := dn__law_scooped (P := P) (w := w) (base := base) (tt := tabs K) T  F__law_scooped g__law_scooped
  have c__law_any_of := dn__law_any_of (P := P) (w := w) (base := base) (tt := tabs K) T c__law_scooped N_Net T_Net F__law_any_of g__law_any_of
  have c__law_met := dl__law_met (P := P) (w := w) (base := base) (tt := tabs K) T xk g_InvalidKinds g_InvalidNet g_InvalidNumber g_InvalidOperation xf_InvalidNumber_given F__law_met g__law_met
  have M_Net := mk_Net (P := P) (w := w) (base := base) (tt := tabs K) T c_are_net_parts T_Net x_InvalidNet F_Net___init__
  have c__law_met_two := dn__law_met_two (P := P) (w := w) (base := base) (tt := tabs K) T c__law_met c_is_cut_of c_is_loop_of c_is_loop_or_cut c_is_witness c_loop_or_cut c_parted c_reached c_witness (tb _ (List.mem_map.mpr ⟨("_law_met_two", none), by simp [tf], rfl⟩)) (by simp [tabs]) (tabs_one (all_at cx 1 rfl) (by simp [tabs])) F__law_met_two g__law_met_two
  have c__law_right := dn__law_right (P := P) (w := w) (base := base) (tt := tabs K) T c__law_any_of c__law_met c__law_met_two c_is_cut_of c_is_kinds c_is_loop_of c_is_loop_or_cut c_is_witness M_Net T_Net (tb _ (List.mem_map.mpr ⟨("_law_right", none), by simp [tf], rfl⟩)) (by simp [tabs]) (tabs_one (all_at cx 1 rfl) (by simp [tabs])) F__law_right g__law_right
  exact ok_law T c__law_right c_is_kinds c_parted c_reached c__law_pail M_Net N_Net T_Net F_law
theorem script_rv {S : Se} {H : Hp} {a : Addr} {vs : List V} {l : List PV} (h : SqL S.K H a vs) (r : RVs S H (fun _ => False) vs l) : ∃ p, (p = .lst l ∨ p = .fz l) ∧ RV S H (fun _ => False) (.ref a) p := by
  rcases h with (h | ⟨o, h⟩) | ⟨o, its, n, h⟩
  · exact ⟨.lst l, .inl rfl, .lst id h r⟩
  · exact ⟨.fz l, .inr rfl, .fz id h r⟩
  · exact ⟨.fz l, .inr rfl, .fzK (fun _ => .inr ⟨o, its, n, h⟩) r⟩
theorem sp_law {S : Se} {H : Hp} {a : Addr} {ns : List Int} (hl : ns.length ≤ 63) (ht : ∀ p ∈ S.T, LamX.TabS H p.1 p.2) (h : SqL S.K H a (ns.map V.int)) : spM S 1 [] m_law [.ref a] H (fun v _ => v = .bl true) fun _ _ _ => False := by
  obtain ⟨p, hp, r⟩ := script_rv h (RVs.of_ints ns)
  obtain ⟨e, he⟩ := pure_law p ns hp hl
  refine ⟨fun _ => False, [p], rfl, rfl, fun _ z => z.elim, ht, fun k q e _ => ?_, fun k q e hk => (by cases hk), fun k k2 z hk => (by cases hk), ?_⟩
  · match k, e with
    | 0, e => cases e; exact ⟨_, rfl, r⟩
  · rw [he]
    intro v H2 _ _ rv _
    cases rv
    rfl
end K25
open PySem PySem.W PySem.Calls PyProof.Rows
theorem PySem.Challenge.cw_risenets_k25_errors_of_kinds_holds : PySem.Challenge.rw_risenets_k25_errors_of_kinds.Holds := by
  w_on; o_law
  refine HandSHeadRun.head_any (r := OpenLaw.row PySem.Challenge.rw_risenets_k25_errors_of_kinds) (q := view (OpenLaw.row PySem.Challenge.rw_risenets_k25_errors_of_kinds).prog [72]) (H := K25.hk) (ob := K25.ob) (M := 4000) (loose := K25.names) (d := HandSHeadRun.topDef (OpenLaw.row PySem.Challenge.rw_risenets_k25_errors_of_kinds).prog 72) (kwd := []) K25.ob_same
    (by kernel_rfl) (fun s => by kernel_rfl) K25.run (by kernel_rfl) (by kernel_rfl) (by kernel_rfl) (by rfl) (by first | assumption | decide +kernel) (by decide +kernel) ⟨rfl, rfl, rfl, rfl, rfl, by decide +kernel⟩ ?hw ?hc
  case hw => w_witness2
  case hc =>
    refine M.walk_ofG (l := PySem.Challenge.rw_risenets_k25_errors_of_kinds) (n := 63) (k := 14) (x := "script") rfl (by decide) (by kernel_rfl) ⟨rfl, by decide, by decide⟩ ?F
    intro w mg fa h Y G hmg0
    obtain ⟨K, KX, c, cg⟩ := Y
    have hmg : mg ("law" : PySem.Str) = some (.ref fa) := (congrArg mg (show ("law" : PySem.Str) = (HandSHeadRun.topDef (OpenLaw.row PySem.Challenge.rw_risenets_k25_errors_of_kinds).prog 72).name by kernel_rfl)).trans hmg0
    obtain ⟨fd, hb, hF⟩ := K25.facts (P := (PySem.Challenge.rw_risenets_k25_errors_of_kinds).prog) (w := w) KX G hmg c.t.d c.more cg
    have mm : ∀ {p : PySem.Addr × PySem.Addr}, p ∈ K25.tf.map (He.cT K) → ∃ q ∈ K25.tf, He.cT K q = p := fun hp => List.mem_map.mp hp
    refine ⟨K, KX, fd, K25.tf.map (He.cT K), _, fun p hp => ?_, fun p hp => ?_, fun p hp => ?_, hb, fun H a ns hl hT hS => K25.sp_law hl (K25.tabs_at hT) hS, hF⟩
    · obtain ⟨q, hq, e⟩ := mm hp; subst e; exact c.empty q hq
    · obtain ⟨q, hq, e⟩ := mm hp; subst e; exact c.out q hq
    · obtain ⟨q, hq, e⟩ := mm hp; subst e; exact PySem.W.codeHd_of_K KX (c.hd q hq)

